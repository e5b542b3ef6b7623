import Derived.Test.YtkgcafomlhfonaaTky
import Derived.Test.YtkgcafomlhfonaaTkq
import Derived.Deep.Upon
namespace Go.Proofs.Ytkgcafomlhfonaa.Tk
open Go.ChangeShapes Go.WideShapes Go.ChangeAt Go.RowKit

theorem RowH.cap {B : Nat} {w : World} {a : Option Addr} {n c : Nat} {L : List Ht} (h : RowH B w (.slice a n c) L) : n ≤ c := by
  rcases h.2 with ⟨e, _⟩ | ⟨g, cap, cur, e1, _, _, hn, _⟩
  · simp only [Value.slice.injEq] at e; omega
  · simp only [Value.slice.injEq] at e1
    obtain ⟨_, e2, rfl⟩ := e1
    omega
/-- 'append(s, x...)' of no hits. -/
theorem wpList_cat0T {B : Nat} {W : World} {ops : Array Oper} {rest : List Oper} {o : Oper} {act : Act} {Q : Exit → Act → World → Prop} (hgd : o.guard = none) (s x : Operand)
    (ho : o.op = .call { callee := .builtin .append, args := #[s, x], argTypes := #[26, 26] }) (sa : Option Addr) (n sc : Nat) (L : List Ht) (hs : act.eval s = .slice sa n sc) (hR : Hid (RowH B W (.slice sa n sc) L)) (a : Option Addr) (c : Nat) (hx : act.eval x = .slice a 0 c)
    (h : wpList Try.prog ops Q rest (act.put o.dst (.slice sa n sc)) W) : wpList Try.prog ops Q (o :: rest) act W := by
  obtain ⟨i0, hi, hz0, hz1, hz2⟩ := info_partsT infoHt
  refine wpList_plain hgd fun K hK => ?_
  have hrun := run_append_nothing (P := Try.prog) W 26 26 o.type 29 i0 Try.underlying26 hi sa n sc hR.out.cap (.slice a 0 c) ⟨.inl ⟨_, Try.underlying26⟩, fun _ => rfl, by cases a <;> simp [Builtin.firstCells, loadCells, loadCellsFrom], by cases a <;> simp [Builtin.firstCells, loadCells, loadCellsFrom], by simp, by simp⟩
  unfold Oper.wp
  simp [execOp, ho, resolve, invoke, builtin, hs, hx, hrun, Result.andThen]
  exact hK _ _ h
/-- 'append(s, x...)' of hits, of none too. -/
theorem wpList_catNT {B : Nat} {W : World} {ops : Array Oper} {rest : List Oper} {o : Oper} {act : Act} {Q : Exit → Act → World → Prop} (hgd : o.guard = none) (s x : Operand)
    (ho : o.op = .call { callee := .builtin .append, args := #[s, x], argTypes := #[26, 26] }) (sa : Option Addr) (n sc : Nat) (L M : List Ht) (hs : act.eval s = .slice sa n sc) (hn : Hid (n = L.length)) (hR : Hid (RowH B W (.slice sa n sc) L)) (a : Option Addr) (m c : Nat) (hx : act.eval x = .slice a m c) (hM : Hid (HsAt W a M)) (hm : Hid (m = M.length)) (hB : Hid (B ≤ W.heap.size)) (hb : Hid (L.length + m ≤ 8796093022208))
    (h : ∀ a' c' W', Hid (RowH B W' (.slice a' (n + m) c') (L ++ M)) → Hid (Kept (fun i => (Value.slice sa n sc).ownBlock = some i) W W') → Hid (∀ j, (Value.slice a' (n + m) c').ownBlock = some j → (Value.slice sa n sc).ownBlock = some j ∨ W.heap.size ≤ j) → wpList Try.prog ops Q rest (act.put o.dst (.slice a' (n + m) c')) W') : wpList Try.prog ops Q (o :: rest) act W := by
  by_cases h0 : m = 0
  · have hMe : M = [] := List.eq_nil_of_length_eq_zero (by rw [← hm.out]; exact h0)
    subst h0 hMe
    refine wpList_cat0T hgd s x ho sa n sc L hs hR a c hx ?_
    exact h sa sc W (hideT (by rw [List.append_nil]; exact hR.out)) (hideT (Kept.refl _ _)) (hideT (fun _ e => .inl e))
  · refine wpList_catT hgd s x ho _ L M hs hR a m c hx hM hm (by omega) hB hb ?_
    intro g c' W' hR2 hK2 hg
    rw [← hn.out] at hR2 ⊢
    exact h _ c' W' hR2 hK2 (hideT (fun j e => by
      simp only [Value.ownBlock, Option.some.injEq] at e
      subst e
      exact hg.out.imp id (fun e => by rw [e]; exact Nat.le_refl _)))
theorem Jv.stepS {w W W2 W3 : World} {k : Nat} {va vs vs' : Value} {A Y : List Ht} {S : List Hl} {ya : Option Addr} {yc : Nat} (ra : RowH w.heap.size W va (A ++ Y)) (ap : ∀ i, va.ownBlock = some i → vs.ownBlock ≠ some i) (el : ∀ x ∈ S, HsAt W x.a x.l) (far : ∀ x ∈ S, ∀ b off, x.a = some ⟨b, off, none⟩ → va.ownBlock ≠ some b ∧ vs.ownBlock ≠ some b ∧ b < W.heap.size) (old : Kept (fun _ => False) w W) (rs0 : RowL w.heap.size W vs S) (eq : best k (allH S) = best k A) (le : (allH S).length ≤ A.length)
    (k2 : Kept (fun _ => False) W W2) (ry : RowH W.heap.size W2 (.slice ya (best k Y).length yc) (best k Y)) (rs : RowL w.heap.size W3 vs' (S ++ [⟨ya, yc, best k Y⟩])) (k3 : Kept (fun i => vs.ownBlock = some i) W2 W3) (hg : ∀ i, vs'.ownBlock = some i → vs.ownBlock = some i ∨ W2.heap.size ≤ i) : Jv w W3 k va vs' (A ++ Y) (S ++ [⟨ya, yc, best k Y⟩]) := by
  have hyb : ∀ b off, ya = some ⟨b, off, none⟩ → W.heap.size ≤ b ∧ b < W2.heap.size := fun b off e => by subst e; exact World.ownsRow.lt ry b rfl
  have hva := fun i hi => (World.ownsRow.lt ra i hi).2
  have hvs := fun i hi => (World.ownsRow.lt rs0 i hi).2
  refine ⟨(ra.same k2 (fun _ _ f => f)).same k3 (fun i hi e => ap i hi e), rs, fun i hi e => ?_, fun x hx => ?_, fun x hx b off e => ?_, (old.trans k2 (fun _ f => f.elim)).trans k3 (fun i hi => .inr (World.ownsRow.lt rs0 i hi).1), ?_, ?_⟩
  · rcases hg i e with q | q
    · exact ap i hi q
    · have := hva i hi; have := k2.size; omega
  · rcases List.mem_append.1 hx with q | q
    · exact ((el x q).same k2).kept k3 (fun b off e => (far x q b off e).2.1)
    · rw [List.mem_singleton] at q
      subst q
      exact ry.hs.kept k3 (fun b off e e2 => by have := hvs b e2; have := (hyb b off e).1; omega)
  · have hk := k3.size
    have hk2 := k2.size
    rcases List.mem_append.1 hx with q | q
    · obtain ⟨f1, f2, f3⟩ := far x q b off e
      refine ⟨f1, fun e2 => ?_, by omega⟩
      rcases hg b e2 with r | r
      · exact f2 r
      · omega
    · rw [List.mem_singleton] at q
      subst q
      obtain ⟨f1, f2⟩ := hyb b off e
      refine ⟨fun e2 => by have := hva b e2; omega, fun e2 => ?_, by omega⟩
      rcases hg b e2 with r | r
      · have := hvs b r; omega
      · omega
  · show best k (allH (S ++ [⟨ya, yc, best k Y⟩])) = _
    have e : allH (S ++ [⟨ya, yc, best k Y⟩]) = allH S ++ best k Y := by simp [allH]
    rw [e]
    exact best_step k _ _ _ eq
  · have e : allH (S ++ [⟨ya, yc, best k Y⟩]) = allH S ++ best k Y := by simp [allH]
    rw [e, List.length_append, List.length_append]
    have := best_le k Y
    omega
set_option maxRecDepth 20000 in
set_option maxHeartbeats 8000000 in
theorem joins_walk (L : List Hl) (a : Option Addr) (c : Nat) (k : Int) (w : World) (h : LsAt w a L) (hlim : (allH L).length + L.length ≤ 1048576) : Calls Try.prog 7 #[.slice a L.length c, .int .i64 k] w fun e w' => e = .returned (.bool true) ∧ Kept (fun _ => False) w w' := by
  have HL := hideT h
  obtain ⟨m, hm⟩ : ∃ m, m = L.length := ⟨_, rfl⟩
  have HM := hideT hm
  have HLIM := hideT hlim
  have FX := hideT (fixed_any w)
  have hmb : m ≤ 1048576 := by omega
  rw [← hm]
  clear h hm hlim
  go_enter Try.func7, Try.ntmps7
  go_upto_region 3 with (go_at_call 9; refine FX.out.mono ?_; rintro e W1 ⟨rfl, q1⟩)
  have Q1 := hideT q1
  clear q1
  go_wp2
  go_loopw [5, 6, 14] (fun s5 s6 s14 wr => ∃ (i n5 : Nat) (S : List Hl) (a5 a6 : Option Addr) (c5 c6 : Nat), i ≤ m ∧ s14 = .int .i64 i ∧ s5 = .slice a5 n5 c5 ∧ s6 = .slice a6 i c6 ∧ Hid (n5 = (allH (L.take i)).length) ∧ Hid (S.length = i) ∧ Hid (Jv w wr k.toNat (.slice a5 n5 c5) (.slice a6 i c6) (allH (L.take i)) S)) (fun _ _ s14 _ => m - (intOf s14).toNat)
  case atStart => exact ⟨0, 0, [], none, none, 0, 0, by omega, by go_num, rfl, rfl, hideT rfl, hideT rfl, hideT (jv_start w W1 _ Q1.out)⟩
  case round =>
    obtain ⟨i, n5, S, a5, a6, c5, c6, hi, rfl, rfl, rfl, HN5, HSL, HJ⟩ := hrel
    by_cases hlt : i < m
    · have hil : i < L.length := by rw [← HM.out]; exact hlt
      have hii : (i : Int) < (m : Int) := by omega
      obtain ⟨b, off, rfl, hc⟩ := HL.out (by intro e; rw [e] at hil; simp at hil)
      obtain ⟨z0, z1⟩ := hc i hil
      obtain ⟨y, hy⟩ : ∃ y, y = L[i] := ⟨_, rfl⟩
      rw [← hy] at z0 z1
      have hAT : Hid (allH (L.take (i + 1)) = allH (L.take i) ++ y.l) := hideT (by rw [hy]; exact allH_take L i hil)
      have hALL : Hid ((allH (L.take i)).length + y.l.length ≤ 1048576) := hideT (by
        have h1 : (allH (L.take (i + 1))).length ≤ (allH L).length := by
          unfold allH
          conv => rhs; rw [← List.take_append_drop (i + 1) L, List.flatMap_append, List.length_append]
          omega
        rw [hAT.out, List.length_append] at h1
        have := HLIM.out
        omega)
      have y0 := HJ.out.old.cell z0 (fun f => f)
      have HY := hideT z1
      obtain ⟨yn, hyn⟩ : ∃ yn, yn = y.l.length := ⟨_, rfl⟩
      rw [← hyn] at y0 hALL
      have HYN := hideT hyn
      clear z0 z1 hy hyn hc
      generalize y.a = ya at *
      generalize y.c = yc at *
      obtain ⟨Y, hYl⟩ : ∃ Y, Y = y.l := ⟨_, rfl⟩
      rw [← hYl] at HY HYN hAT
      clear hYl
      have HYW := hideT (HY.out.same HJ.out.old)
      have HLC := hideT (show (allH (L.take i)).length + yn ≤ 8796093022208 by have := hALL.out; omega)
      have HB := hideT HJ.out.old.size
      have HRA := hideT HJ.out.ra
      have hn5b : n5 ≤ 1048576 := by have := hALL.out; have := HN5.out; omega
      go_upto_region 8 with fail
      go_upto_region 9 with (refine wpList_catNT rfl _ _ rfl a5 n5 c5 (allH (L.take i)) Y rfl HN5 HRA ya yn yc rfl HYW HYN HB HLC ?_; intro a5' c5' W5 hR5 hK5 hG5)
      have HS5 := hideT (HJ.out.stepA hR5.out hK5.out hG5.out)
      have SE := hideT (select_any Y ya yc k W5 (HY.out.same HS5.out.2.2.2.2.2) (by rw [← HYN.out]; have := hALL.out; omega))
      unfold Ans at SE
      rw [← HYN.out] at SE
      obtain ⟨n9, hn9⟩ : ∃ n9, n9 = (best k.toNat Y).length := ⟨_, rfl⟩
      rw [← hn9] at SE
      have HN9 := hideT hn9
      have HRS5 := hideT HS5.out.2.1
      have HSB := hideT (show S.length ≤ 1099511627776 by have := HSL.out; omega)
      clear hn9 hK5 hG5
      have HB5 := hideT HS5.out.2.2.2.2.2.size
      go_wp2_with (first
        | (go_at_call 15; refine SE.out.mono ?_; rintro e W6 ⟨y9, c9, rfl, r6, k6⟩; have HRS6 : Hid (RowL w.heap.size W6 (.slice a6 i c6) S) := hideT (k6.row HRS5.out (fun _ _ f => f)); have HB6 : Hid (w.heap.size ≤ W6.heap.size) := hideT (Nat.le_trans HB5.out k6.size))
        | (refine wpList_pushLs rfl _ _ rfl (.slice a6 i c6) S ⟨y9, c9, best k.toNat Y⟩ y9 n9 c9 rfl HRS6 W6.heap.size rfl rfl (hideT ⟨rfl, HN9.out⟩) HB6 HSB ?_; intro g6 c6' W7 hR7 hK7 hG7; rw [HSL.out] at hR7 ⊢))
      have HJ7 := hideT (show Jv w W7 k.toNat (.slice a5' (n5 + yn) c5') (.slice (some ⟨g6, 0, none⟩) (i + 1) c6') (allH (L.take (i + 1))) (S ++ [⟨y9, c9, best k.toNat Y⟩]) from by
        rw [hAT.out]
        obtain ⟨s1, s2, s3, s4, s5, s6⟩ := HS5.out
        exact Jv.stepS s1 s3 s4 s5 s6 s2 HJ.out.eq HJ.out.le k6 (by rw [← HN9.out]; exact r6) hR7.out hK7.out (fun j e => by
          simp only [Value.ownBlock, Option.some.injEq] at e
          subst e
          exact hG7.out))
      have HN7 := hideT (show n5 + yn = (allH (L.take (i + 1))).length by rw [hAT.out, List.length_append, ← HN5.out, ← HYN.out])
      have HS7 := hideT (show (S ++ [(⟨y9, c9, best k.toNat Y⟩ : Hl)]).length = i + 1 by rw [List.length_append, HSL.out]; rfl)
      clear r6 k6 hR7 hK7 hG7
      go_wp2
      go_round
      case rel => exact ⟨i + 1, n5 + yn, S ++ [⟨y9, c9, best k.toNat Y⟩], a5', some ⟨g6, 0, none⟩, c5', c6', by omega, by go_num, rfl, rfl, HN7, HS7, HJ7⟩
      case measure => simp [intOf]; omega
    · obtain rfl : i = m := by omega
      have hLt : L.take i = L := List.take_of_length_le (by rw [HM.out]; exact Nat.le_refl _)
      rw [hLt] at HN5 HJ
      have hA := HLIM.out
      obtain ⟨A, hAe⟩ : ∃ A, A = allH L := ⟨_, rfl⟩
      rw [← hAe] at HN5 HJ hA
      obtain ⟨K, hK⟩ : ∃ K, K = best k.toNat A := ⟨_, rfl⟩
      have HKK := hideT hK
      have JN := hideT (join_any L a c k wr (HL.out.same HJ.out.old) (by rw [← hAe]; omega) (by have := HM.out; omega))
      rw [← hAe, ← hK, ← HM.out] at JN
      have hKl : K.length = min k.toNat n5 := by rw [hK, best_len, HN5.out]
      obtain ⟨q, hq⟩ : ∃ q, q = K.length := ⟨_, rfl⟩
      have HQ := hideT hq
      rw [← hq] at JN
      have hn5 := HN5.out
      have hqb : q ≤ n5 := by omega
      have hn5b : n5 ≤ 1048576 := by omega
      have hwant : max 0 (min k (n5 : Int)) = (q : Int) := by rw [want_val, hq, hKl]
      have SL := hideT (fun W (hW : Kept (fun _ => False) wr W) => select_any A a5 c5 k W (by have := HJ.out.ra.hs.same hW; exact this) (by omega))
      unfold Ans at SL
      rw [← hK, ← hq, ← HN5.out] at SL
      have J2 := hideT (fun W (hW : Kept (fun _ => False) wr W) => join_any S a6 c6 k W ((HJ.out.rs.ls HJ.out.el).same hW) (by have := HJ.out.le; omega) (by have := HSL.out; omega))
      rw [HJ.out.eq, ← hK, ← hq, HSL.out] at J2
      clear hLt hA hK hKl hq hn5 hAe
      go_upto_region 12 with (go_at_call 21; refine JN.out.mono ?_; rintro e W5 ⟨a8, c8, rfl, r5, k5⟩)
      have HR := hideT r5
      have K5 := hideT k5
      have HQ' := HQ.out
      have SO := hideT (fun W (hW : Kept (fun _ => False) W5 W) => sorted_any K a8 c8 W (HR.out.hs.same hW) (by rw [HKK.out]; exact best_srt _ _) (by omega))
      have EQ := hideT (fun W b d (hW : Kept (fun _ => False) W5 W) (hb : HsAt W b K) => equal_same K a8 b c8 d W (HR.out.hs.same hW) hb (by omega))
      rw [← HQ.out] at SO EQ
      clear r5 k5 HQ'
      go_wp2_with (first
        | (go_at_call 24; refine (SO.out _ (Kept.refl _ _)).mono ?_; rintro e W6 ⟨rfl, k6⟩)
        | (go_at_call 15; refine (SL.out W6 (K5.out.trans k6 (fun _ f => f.elim))).mono ?_; rintro e W7 ⟨b7, d7, rfl, r7, k7⟩)
        | (go_at_call 21; refine (J2.out W8 (K5.out.trans (k6.trans (k7.trans k8 (fun _ f => f.elim)) (fun _ f => f.elim)) (fun _ f => f.elim))).mono ?_; rintro e W9 ⟨a9, c9, rfl, r9, k9⟩)
        | (go_at_call 12; refine (EQ.out W9 a9 c9 (k6.trans (k7.trans (k8.trans k9 (fun _ f => f.elim)) (fun _ f => f.elim)) (fun _ f => f.elim)) (by have := r9.hs; exact this)).mono ?_; rintro e W10 ⟨rfl, k10⟩)
        | (go_at_call 12; refine (EQ.out W7 b7 d7 (k6.trans k7 (fun _ f => f.elim)) (by have := r7.hs; exact this)).mono ?_; rintro e W8 ⟨rfl, k8⟩))
      go_ret
      exact ⟨rfl, HJ.out.old.trans (K5.out.trans (k6.trans (k7.trans (k8.trans (k9.trans k10 (fun _ f => f.elim)) (fun _ f => f.elim)) (fun _ f => f.elim)) (fun _ f => f.elim)) (fun _ f => f.elim)) (fun _ f => f.elim)⟩
end Go.Proofs.Ytkgcafomlhfonaa.Tk
