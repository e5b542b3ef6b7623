import Derived.Test.YtidgofpmnlddaaaGreatDoorMrg8
import Derived.Test.YtidgofpmnlddaaaGreatDoorPba
namespace Go.Proofs.YtidgofpmnlddaaaGreatDoor
open Go.ChangeShapes Go.WideShapes Go.ChangeAt Go.RowKit

/-- A list that is grown: what may have changed. -/
structure GStep (w w' : World) (v v' : Value) : Prop where
  kept : Kept (fun k => v.ownBlock = some k) w w'
  new : ∀ k, v'.ownBlock = some k → v.ownBlock = some k ∨ w.heap.size ≤ k
theorem GStep.refl (w : World) (v : Value) : GStep w w v v := ⟨Kept.refl _ _, fun _ h => .inl h⟩
theorem GStep.trans {a b c : World} {v v1 v2 : Value} (h : GStep a b v v1) (k : GStep b c v1 v2) : GStep a c v v2 :=
  ⟨h.kept.trans k.kept (fun i hi => h.new i hi), fun i hi => (k.new i hi).elim (fun x => h.new i x) (fun x => .inr (Nat.le_trans h.kept.size x))⟩
theorem GStep.later {a b c : World} {v v1 : Value} (h : GStep a b v v1) (k : Kept (fun _ => False) b c) : GStep a c v v1 :=
  ⟨h.kept.trans k (fun _ f => f.elim), h.new⟩
theorem GStep.ahead {a b c : World} {v v1 : Value} (k : Kept (fun _ => False) a b) (h : GStep b c v v1) : GStep a c v v1 :=
  ⟨(k.mono (fun _ f => f.elim)).trans h.kept (fun _ hi => .inl hi), fun i hi => (h.new i hi).imp id (fun x => Nat.le_trans k.size x)⟩
/-- Two lists lie apart. -/
def Apa (v u : Value) : Prop := ∀ k, v.ownBlock = some k → u.ownBlock ≠ some k
theorem Apa.symm {v u : Value} (h : Apa v u) : Apa u v := fun k hk e => h k e hk
theorem Gro.other {w0 W W' : World} {e e' : TypeId} {sz sz' : Nat} {u v v' : Value} {m n : Nat} {ys xs : List Value} (h : Gro w0 W e sz u m ys) (g : Gro w0 W e' sz' v n xs) (s : GStep W W' v v') (ap : Apa v u) : Gro w0 W' e sz u m ys ∧ Apa v' u :=
  ⟨⟨s.kept.row h.own (fun j hj f => ap j f hj), h.kept.trans s.kept (fun i hi => .inr (g.own.lt i hi).1)⟩, fun k hk hu => (s.new k hk).elim (fun q => ap k q hu) (fun q => by have := (h.own.lt k hu).2; omega)⟩
/-- 'append(s, x...)' of what lies elsewhere. -/
theorem wpList_catX {w0 W : World} {ops : Array Oper} {rest : List Oper} {o : Oper} {act : Act} {Q : Exit → Act → World → Prop} (hgd : o.guard = none) (s x : Operand) (t : TypeId)
    (ho : o.op = .call { callee := .builtin .append, args := #[s, x], argTypes := #[t, t] }) (e : TypeId) (i : TypeInfo) (z : Value) (size bytes : Nat)
    (ht : Tryz.prog.underlying t = some (.slice e)) (hi : Tryz.prog.info? e = some i) (hz : i.zero = some z) (hsize : i.size = size) (hby : i.bytes = bytes) (hzs : z.cells.size = size) (hsz : 0 < size)
    (v : Value) (n : Nat) (xs news : List Value) (hs : act.eval s = v) (hG : Hid (Gro w0 W e size v n xs)) (a : Addr) (m c : Nat) (hx : act.eval x = .slice (some a) m c)
    (hl : news.length = m * size) (hc : ∀ j u, news[j]? = some u → W.cell? (a.add j) = some u) (h1 : ∀ u ∈ news, u.oneCell' = true) (hm : 0 < m) (hb : (n + m) * bytes ≤ 140737488355328) (h63 : n + m ≤ maxLen)
    (h : ∀ g c' W', Hid (Gro w0 W' e size (.slice (some ⟨g, 0, none⟩) (n + m) c') (n + m) (xs ++ news)) → Hid (GStep W W' v (.slice (some ⟨g, 0, none⟩) (n + m) c')) → wpList Tryz.prog ops Q rest (act.put o.dst (.slice (some ⟨g, 0, none⟩) (n + m) c')) W') : wpList Tryz.prog ops Q (o :: rest) act W := by
  refine wpList_append_lies W hgd s x t ho w0.heap.size e i z size bytes ht hi hz hsize hby hzs hsz v n xs hs hG.out.own a m c news hx hl hc h1 hm h63 hb hG.out.kept.size _ rfl ?_
  intro g c' W' ho2 hg2 hat _
  refine h g c' W' (hideP ⟨ho2, hG.out.kept.trans (Kept.grown hg2) (fun i hi => .inr (hG.out.own.lt i hi).1)⟩) (hideP ⟨Kept.grown hg2, fun k hk => ?_⟩)
  simp [Value.ownBlock] at hk
  subst hk
  exact hat.imp id (fun e => by rw [e]; exact Nat.le_refl _)
/-- 'append(s, x...)' of bytes. -/
theorem wpList_catB {w0 W : World} {ops : Array Oper} {rest : List Oper} {o : Oper} {act : Act} {Q : Exit → Act → World → Prop} (hgd : o.guard = none) (s x : Operand)
    (ho : o.op = .call { callee := .builtin .append, args := #[s, x], argTypes := #[26, 26] }) (v : Value) (n : Nat) (xs ys : List Int) (hs : act.eval s = v) (hG : Hid (Gro w0 W 5 1 v n (bs xs))) (a : Option Addr) (m c : Nat) (hx : act.eval x = .slice a m c) (hm : m = ys.length) (hB : Hid (BytesAt W a ys)) (hm0 : 0 < m) (hb : n + m ≤ 70368744177664)
    (h : ∀ g c' W', Hid (Gro w0 W' 5 1 (.slice (some ⟨g, 0, none⟩) (n + m) c') (n + m) (bs (xs ++ ys))) → Hid (GStep W W' v (.slice (some ⟨g, 0, none⟩) (n + m) c')) → wpList Tryz.prog ops Q rest (act.put o.dst (.slice (some ⟨g, 0, none⟩) (n + m) c')) W') : wpList Tryz.prog ops Q (o :: rest) act W := by
  obtain ⟨i0, hi, hz0, hz1, hz2⟩ := info_partsP Tryz.infoB
  obtain ⟨b, off, rfl, hc⟩ := hB.out (by intro e; rw [e] at hm; simp at hm; omega)
  rw [bs_append] at h
  exact wpList_catX hgd s x 26 ho 5 i0 (.int .u8 0) 1 1 Tryz.underlying26 hi hz0 hz1 hz2 rfl (by decide) v n (bs xs) (bs ys) hs hG ⟨b, off, none⟩ m c hx (by rw [bs_length, hm, Nat.mul_one]) (BytesAt.cells hc) (bs_one _) hm0 (by omega) (by unfold maxLen; omega) h
/-- 'append(s, x)' of one byte. -/
theorem wpList_pushZ {w0 W : World} {ops : Array Oper} {rest : List Oper} {o : Oper} {act : Act} {Q : Exit → Act → World → Prop} (hgd : o.guard = none) (s x : Operand)
    (ho : o.op = .call { callee := .builtin .append, args := #[s, x], argTypes := #[26, 26] }) (v : Value) (n : Nat) (xs : List Int) (y : Int) (hs : act.eval s = v) (hG : Hid (Gro w0 W 5 1 v n (bs xs))) (b : Nat) (hbb : b = W.heap.size) (hx : act.eval x = .slice (some ⟨b, 0, none⟩) 1 1) (hb : n ≤ 70368744177664)
    (h : ∀ g c' W', Hid (Gro w0 W' 5 1 (.slice (some ⟨g, 0, none⟩) (n + 1) c') (n + 1) (bs (xs ++ [y]))) → Hid (GStep W W' v (.slice (some ⟨g, 0, none⟩) (n + 1) c')) → wpList Tryz.prog ops Q rest (act.put o.dst (.slice (some ⟨g, 0, none⟩) (n + 1) c')) W') : wpList Tryz.prog ops Q (o :: rest) act (W.alloc (.cells #[.int .u8 y] 5)) := by
  subst hbb
  obtain ⟨i0, hi, hz0, hz1, hz2⟩ := info_partsP Tryz.infoB
  rw [bs_append] at h
  refine wpList_catX hgd s x 26 ho 5 i0 (.int .u8 0) 1 1 Tryz.underlying26 hi hz0 hz1 hz2 rfl (by decide) v n (bs xs) (bs [y]) hs (hideP (hG.out.later (Kept.alloc W _))) ⟨W.heap.size, 0, none⟩ 1 1 hx (by rw [bs_length]; rfl) (row_news W [.int .u8 y] 5) (bs_one _) (by decide) (by omega) (by unfold maxLen; omega) ?_
  intro g c' W' hG2 hS
  exact h g c' W' hG2 (hideP (GStep.ahead (Kept.alloc W _) hS.out))
/-- 'append(s, x)' of one number. -/
theorem wpList_pushN {w0 W : World} {ops : Array Oper} {rest : List Oper} {o : Oper} {act : Act} {Q : Exit → Act → World → Prop} (hgd : o.guard = none) (s x : Operand)
    (ho : o.op = .call { callee := .builtin .append, args := #[s, x], argTypes := #[24, 24] }) (v : Value) (n : Nat) (xs : List Int) (y : Int) (hs : act.eval s = v) (hG : Hid (Gro w0 W 3 1 v n (is xs))) (b : Nat) (hbb : b = W.heap.size) (hx : act.eval x = .slice (some ⟨b, 0, none⟩) 1 1) (hb : n ≤ 1099511627776)
    (h : ∀ g c' W', Hid (Gro w0 W' 3 1 (.slice (some ⟨g, 0, none⟩) (n + 1) c') (n + 1) (is (xs ++ [y]))) → Hid (GStep W W' v (.slice (some ⟨g, 0, none⟩) (n + 1) c')) → wpList Tryz.prog ops Q rest (act.put o.dst (.slice (some ⟨g, 0, none⟩) (n + 1) c')) W') : wpList Tryz.prog ops Q (o :: rest) act (W.alloc (.cells #[.int .i64 y] 3)) := by
  subst hbb
  obtain ⟨i0, hi, hz0, hz1, hz2⟩ := info_partsP Tryz.infoI
  rw [is_app] at h
  refine wpList_catX hgd s x 24 ho 3 i0 (.int .i64 0) 1 8 Tryz.underlying24 hi hz0 hz1 hz2 rfl (by decide) v n (is xs) [.int .i64 y] hs (hideP (hG.out.later (Kept.alloc W _))) ⟨W.heap.size, 0, none⟩ 1 1 hx (by simp) (row_news W [.int .i64 y] 3) (by intro u hu; simp at hu; subst hu; rfl) (by decide) (by omega) (by unfold maxLen; omega) ?_
  intro g c' W' hG2 hS
  exact h g c' W' hG2 (hideP (GStep.ahead (Kept.alloc W _) hS.out))
theorem gro_bytes {w0 W : World} {a : Option Addr} {n c : Nat} {xs : List Int} (h : Gro w0 W 5 1 (.slice a n c) n (bs xs)) : BytesAt W a xs ∧ n = xs.length ∧ n ≤ c := by
  have hn : n = xs.length := by have := h.own.1; rw [bs_length] at this; omega
  rcases h.own.2 with ⟨e1, e2⟩ | ⟨g, cap, cur, e1, hg, hh, hnc, _⟩
  · simp only [Value.slice.injEq] at e1
    obtain ⟨rfl, rfl, rfl⟩ := e1
    exact ⟨fun hne => absurd (List.eq_nil_of_length_eq_zero hn.symm) hne, hn, Nat.le_refl _⟩
  · simp only [Value.slice.injEq] at e1
    obtain ⟨rfl, _, rfl⟩ := e1
    refine ⟨fun _ => ⟨g, 0, rfl, fun k hk => ?_⟩, hn, hnc⟩
    have q0 := h.own.cells (g := g) rfl k (.int .u8 (xs[k]?.getD 0)) (by unfold bs; rw [List.getElem?_map, List.getElem?_eq_getElem hk]; simp)
    have hp : (⟨g, 0, none⟩ : Addr).add k = ⟨g, k, none⟩ := by unfold Addr.add; split <;> simp_all
    rw [hp] at q0
    rw [Nat.zero_add]
    exact q0
structure StpD (P : Prop) : Prop where
  go : P
set_option maxRecDepth 20000 in
set_option maxHeartbeats 4000000 in
/-- The document's Uvarint. -/
theorem duv_any (n : Nat) (w : World) (hn : n < 18446744073709551616) :
    Calls Tryz.prog 63 #[.int .u64 n] w fun e w' => ∃ g c, e = .returned (.slice (some ⟨g, 0, none⟩) (uvb n).length c) ∧ Gro w w' 5 1 (.slice (some ⟨g, 0, none⟩) (uvb n).length c) (uvb n).length (bs (uvb n)) := by
  have HG0 := hideP (gro_empty w w 5 1 (Kept.refl _ _))
  go_enter Tryz.func63, Tryz.ntmps63
  go_wp2_with fail
  have HLn : Hid (∀ (zs : List Int) (m : Nat), zs ++ uvb m = uvb n → zs.length ≤ 10) := hideP (fun zs m e => by
    have h8 := congrArg List.length e
    rw [List.length_append] at h8
    have h9 := uvb_le10P n (by omega)
    omega)
  go_loopw [0, 3] (fun v0 v3 wr => ∃ (m : Nat) (va : Value) (zs : List Int), v0 = .int .u64 m ∧ v3 = va ∧ m < 18446744073709551616 ∧ Hid (Gro w wr 5 1 va zs.length (bs zs)) ∧ Hid (zs ++ uvb m = uvb n)) (fun v0 _ _ => (intOf v0).toNat)
  case atStart => exact ⟨n, _, [], rfl, rfl, hn, HG0, hideP rfl⟩
  case round =>
    obtain ⟨m, va, zs, rfl, rfl, hm, HG, HF⟩ := hrel
    have hzl := HLn.out zs m HF.out
    by_cases h128 : m < 128
    · have d1 : ¬ (128 : Int) ≤ (m : Int) := by omega
      have d2 : decide ((128 : Int) ≤ (m : Int)) = false := decide_eq_false d1
      have d3 : decide (128 ≤ m) = false := decide_eq_false (by omega)
      have w1 : IntKind.u8.wrap (m : Int) = (m : Int) := by rw [IntKind.wrap_u8]; omega
      rw [uvb_small h128] at HF
      go_wp2_with (at_builtin; refine StpQ.go ?_)
      refine ⟨?_⟩
      refine wpList_pushZ rfl (.tmp 16) (.tmp 19) rfl _ zs.length zs (m : Int) rfl HG _ rfl rfl (by omega) ?_
      intro g7 c7 W7 HG7 _
      go_wp2
      go_ret
      have e : (uvb n).length = zs.length + 1 := by rw [← HF.out]; simp
      rw [e, ← HF.out]
      exact ⟨g7, c7, rfl, HG7.out⟩
    · obtain ⟨r, hr⟩ : ∃ r, r = m % 128 := ⟨_, rfl⟩
      obtain ⟨q, hq⟩ : ∃ q, q = m / 128 := ⟨_, rfl⟩
      have hr128 : r < 128 := by omega
      have hqm : q < m := by omega
      have e1 : (m : Int).tmod 128 = (r : Int) := by rw [Int.tmod_eq_emod_of_nonneg (by omega)]; omega
      have e2 : (m : Int).tdiv 128 = (q : Int) := by rw [Int.tdiv_eq_ediv_of_nonneg (by omega)]; omega
      have e3 : (m : Int) % 128 = (r : Int) := by omega
      have e4 : (m : Int) / 128 = (q : Int) := by omega
      have HF2 : Hid ((zs ++ [(128 + (r : Int))]) ++ uvb q = uvb n) := hideP (by
        rw [← HF.out, uvb_big h128, e3, ← hq, List.append_assoc]
        rfl)
      have d1 : (128 : Int) ≤ (m : Int) := by omega
      have d2 : decide ((128 : Int) ≤ (m : Int)) = true := decide_eq_true d1
      have d3 : decide (128 ≤ m) = true := decide_eq_true (by omega)
      have w1 : IntKind.u8.wrap (128 + (r : Int)) = 128 + (r : Int) := by rw [IntKind.wrap_u8]; omega
      clear HF hr hq
      go_wp2_with (at_builtin; refine StpQ.go ?_)
      refine ⟨?_⟩
      refine wpList_pushZ rfl (.tmp 7) (.tmp 12) rfl _ zs.length zs (128 + (r : Int)) rfl HG _ rfl rfl (by omega) ?_
      intro g7 c7 W7 HG7 _
      go_wp2
      go_roundw
      case rel => exact ⟨q, _, zs ++ [(128 + (r : Int))], rfl, rfl, by omega, hideP (by rw [List.length_append]; exact HG7.out), HF2⟩
      case measure => simp [intOf]; omega
/-- The document's number. -/
theorem dnum_any (n : Nat) (w : World) (hn : n < 9223372036854775808) :
    Calls Tryz.prog 42 #[.int .i64 n] w fun e w' => ∃ g c, e = .returned (.slice (some ⟨g, 0, none⟩) (uvb n).length c) ∧ Gro w w' 5 1 (.slice (some ⟨g, 0, none⟩) (uvb n).length c) (uvb n).length (bs (uvb n)) := by
  have CU := hideP (duv_any n w (by omega))
  generalize uvb n = U at *
  go_enter Tryz.func42, Tryz.ntmps42
  go_wp2_with (go_at_call 63; refine CU.out.mono ?_; clear CU; rintro e W1 ⟨g, c, rfl, hG⟩; have HG := hideP hG; clear hG)
  go_ret
  exact ⟨g, c, rfl, HG.out⟩
end Go.Proofs.YtidgofpmnlddaaaGreatDoor
