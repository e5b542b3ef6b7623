import Derived.Test.YtohnkamobmkhkaaDoorIza
import Derived.Test.YtohnkamobmkhkaaDoorIzb
import Derived.Test.YtohnkamobmkhkaaDoorGro
import Derived.Deep.AppendLies
namespace Go.Proofs.YtohnkamobmkhkaaDoor
open Go.ChangeShapes Go.WideShapes Go.ChangeAt Go.RowKit

structure StpQI (P : Prop) : Prop where
  go0 : P
theorem StpQI.go {P : Prop} (h : StpQI P) : P := h.go0
/-- A list that is grown: what may have changed. -/
structure GStepI (w w' : World) (v v' : Value) : Prop where
  kept : Kept (fun k => v.ownBlock = some k) w w'
  new : ∀ k, v'.ownBlock = some k → v.ownBlock = some k ∨ w.heap.size ≤ k
theorem GStepI.refl (w : World) (v : Value) : GStepI w w v v := ⟨Kept.refl _ _, fun _ h => .inl h⟩
theorem GStepI.trans {a b c : World} {v v1 v2 : Value} (h : GStepI a b v v1) (k : GStepI b c v1 v2) : GStepI a c v v2 :=
  ⟨h.kept.trans k.kept (fun i hi => h.new i hi), fun i hi => (k.new i hi).elim (fun x => h.new i x) (fun x => .inr (Nat.le_trans h.kept.size x))⟩
theorem GStepI.later {a b c : World} {v v1 : Value} (h : GStepI a b v v1) (k : Kept (fun _ => False) b c) : GStepI a c v v1 :=
  ⟨h.kept.trans k (fun _ f => f.elim), h.new⟩
theorem GStepI.ahead {a b c : World} {v v1 : Value} (k : Kept (fun _ => False) a b) (h : GStepI b c v v1) : GStepI a c v v1 :=
  ⟨(k.mono (fun _ f => f.elim)).trans h.kept (fun _ hi => .inl hi), fun i hi => (h.new i hi).imp id (fun x => Nat.le_trans k.size x)⟩
/-- Two lists lie apart. -/
def ApaI (v u : Value) : Prop := ∀ k, v.ownBlock = some k → u.ownBlock ≠ some k
theorem ApaI.symm {v u : Value} (h : ApaI v u) : ApaI u v := fun k hk e => h k e hk
theorem Gro.otherI {w0 W W' : World} {e e' : TypeId} {sz sz' : Nat} {u v v' : Value} {m n : Nat} {ys xs : List Value} (h : Gro w0 W e sz u m ys) (g : Gro w0 W e' sz' v n xs) (s : GStepI W W' v v') (ap : ApaI v u) : Gro w0 W' e sz u m ys ∧ ApaI v' u :=
  ⟨⟨s.kept.row h.own (fun j hj f => ap j f hj), h.kept.trans s.kept (fun i hi => .inr (g.own.lt i hi).1)⟩, fun k hk hu => (s.new k hk).elim (fun q => ap k q hu) (fun q => by have := (h.own.lt k hu).2; omega)⟩
/-- 'append(s, x...)' of what lies elsewhere. -/
theorem wpList_catXI {w0 W : World} {ops : Array Oper} {rest : List Oper} {o : Oper} {act : Act} {Q : Exit → Act → World → Prop} (hgd : o.guard = none) (s x : Operand) (t : TypeId)
    (ho : o.op = .call { callee := .builtin .append, args := #[s, x], argTypes := #[t, t] }) (e : TypeId) (i : TypeInfo) (z : Value) (size bytes : Nat)
    (ht : Tryd.prog.underlying t = some (.slice e)) (hi : Tryd.prog.info? e = some i) (hz : i.zero = some z) (hsize : i.size = size) (hby : i.bytes = bytes) (hzs : z.cells.size = size) (hsz : 0 < size)
    (v : Value) (n : Nat) (xs news : List Value) (hs : act.eval s = v) (hG : Hid (Gro w0 W e size v n xs)) (a : Addr) (m c : Nat) (hx : act.eval x = .slice (some a) m c)
    (hl : news.length = m * size) (hc : ∀ j u, news[j]? = some u → W.cell? (a.add j) = some u) (h1 : ∀ u ∈ news, u.oneCell' = true) (hm : 0 < m) (hb : (n + m) * bytes ≤ 140737488355328) (h63 : n + m ≤ maxLen)
    (h : ∀ g c' W', Hid (Gro w0 W' e size (.slice (some ⟨g, 0, none⟩) (n + m) c') (n + m) (xs ++ news)) → Hid (GStepI W W' v (.slice (some ⟨g, 0, none⟩) (n + m) c')) → wpList Tryd.prog ops Q rest (act.put o.dst (.slice (some ⟨g, 0, none⟩) (n + m) c')) W') : wpList Tryd.prog ops Q (o :: rest) act W := by
  refine wpList_append_lies W hgd s x t ho w0.heap.size e i z size bytes ht hi hz hsize hby hzs hsz v n xs hs hG.out.own a m c news hx hl hc h1 hm h63 hb hG.out.kept.size _ rfl ?_
  intro g c' W' ho2 hg2 hat _
  refine h g c' W' (hideI ⟨ho2, hG.out.kept.trans (Kept.grown hg2) (fun i hi => .inr (hG.out.own.lt i hi).1)⟩) (hideI ⟨Kept.grown hg2, fun k hk => ?_⟩)
  simp [Value.ownBlock] at hk
  subst hk
  exact hat.imp id (fun e => by rw [e]; exact Nat.le_refl _)
/-- 'append(s, x...)' of bytes. -/
theorem wpList_catBI {w0 W : World} {ops : Array Oper} {rest : List Oper} {o : Oper} {act : Act} {Q : Exit → Act → World → Prop} (hgd : o.guard = none) (s x : Operand)
    (ho : o.op = .call { callee := .builtin .append, args := #[s, x], argTypes := #[25, 25] }) (v : Value) (n : Nat) (xs ys : List Int) (hs : act.eval s = v) (hG : Hid (Gro w0 W 5 1 v n (bs xs))) (a : Option Addr) (m c : Nat) (hx : act.eval x = .slice a m c) (hm : m = ys.length) (hB : Hid (BytesAt W a ys)) (hm0 : 0 < m) (hb : n + m ≤ 140737488355328)
    (h : ∀ g c' W', Hid (Gro w0 W' 5 1 (.slice (some ⟨g, 0, none⟩) (n + m) c') (n + m) (bs (xs ++ ys))) → Hid (GStepI W W' v (.slice (some ⟨g, 0, none⟩) (n + m) c')) → wpList Tryd.prog ops Q rest (act.put o.dst (.slice (some ⟨g, 0, none⟩) (n + m) c')) W') : wpList Tryd.prog ops Q (o :: rest) act W := by
  obtain ⟨i0, hi, hz0, hz1, hz2⟩ := info_parts Tryd.infoB
  obtain ⟨b, off, rfl, hc⟩ := hB.out (by intro e; rw [e] at hm; simp at hm; omega)
  rw [bs_append] at h
  exact wpList_catXI hgd s x 25 ho 5 i0 (.int .u8 0) 1 1 Tryd.underlying25 hi hz0 hz1 hz2 rfl (by decide) v n (bs xs) (bs ys) hs hG ⟨b, off, none⟩ m c hx (by rw [bs_length, hm, Nat.mul_one]) (BytesAt.cells hc) (bs_one _) hm0 (by omega) (by unfold maxLen; omega) h
/-- 'append(s, x)' of one byte. -/
theorem wpList_pushZI {w0 W : World} {ops : Array Oper} {rest : List Oper} {o : Oper} {act : Act} {Q : Exit → Act → World → Prop} (hgd : o.guard = none) (s x : Operand)
    (ho : o.op = .call { callee := .builtin .append, args := #[s, x], argTypes := #[25, 25] }) (v : Value) (n : Nat) (xs : List Int) (y : Int) (hs : act.eval s = v) (hG : Hid (Gro w0 W 5 1 v n (bs xs))) (b : Nat) (hbb : b = W.heap.size) (hx : act.eval x = .slice (some ⟨b, 0, none⟩) 1 1) (hb : n + 1 ≤ 140737488355328)
    (h : ∀ g c' W', Hid (Gro w0 W' 5 1 (.slice (some ⟨g, 0, none⟩) (n + 1) c') (n + 1) (bs (xs ++ [y]))) → Hid (GStepI W W' v (.slice (some ⟨g, 0, none⟩) (n + 1) c')) → wpList Tryd.prog ops Q rest (act.put o.dst (.slice (some ⟨g, 0, none⟩) (n + 1) c')) W') : wpList Tryd.prog ops Q (o :: rest) act (W.alloc (.cells #[.int .u8 y] 5)) := by
  subst hbb
  obtain ⟨i0, hi, hz0, hz1, hz2⟩ := info_parts Tryd.infoB
  rw [bs_append] at h
  refine wpList_catXI hgd s x 25 ho 5 i0 (.int .u8 0) 1 1 Tryd.underlying25 hi hz0 hz1 hz2 rfl (by decide) v n (bs xs) (bs [y]) hs (hideI (hG.out.later (Kept.alloc W _))) ⟨W.heap.size, 0, none⟩ 1 1 hx (by rw [bs_length]; rfl) (row_news W [.int .u8 y] 5) (bs_one _) (by decide) (by omega) (by unfold maxLen; omega) ?_
  intro g c' W' hG2 hS
  exact h g c' W' hG2 (hideI (GStepI.ahead (Kept.alloc W _) hS.out))
theorem gro_bytesI {w0 W : World} {a : Option Addr} {n c : Nat} {xs : List Int} (h : Gro w0 W 5 1 (.slice a n c) n (bs xs)) : BytesAt W a xs ∧ n = xs.length ∧ n ≤ c := by
  have hn : n = xs.length := by have := h.own.1; rw [bs_length] at this; omega
  rcases h.own.2 with ⟨e1, e2⟩ | ⟨g, cap, cur, e1, hg, hh, hnc, _⟩
  · simp only [Value.slice.injEq] at e1
    obtain ⟨rfl, rfl, rfl⟩ := e1
    exact ⟨fun hne => absurd (List.eq_nil_of_length_eq_zero hn.symm) hne, hn, Nat.le_refl _⟩
  · simp only [Value.slice.injEq] at e1
    obtain ⟨rfl, _, rfl⟩ := e1
    refine ⟨fun _ => ⟨g, 0, rfl, fun k hk => ?_⟩, hn, hnc⟩
    have q0 := h.own.cells (g := g) rfl k (.int .u8 (xs[k]?.getD 0)) (by unfold bs; rw [List.getElem?_map, List.getElem?_eq_getElem hk]; simp)
    have hp : (⟨g, 0, none⟩ : Addr).add k = ⟨g, k, none⟩ := by unfold Addr.add; split <;> simp_all
    rw [hp] at q0
    rw [Nat.zero_add]
    exact q0
set_option maxRecDepth 20000 in
set_option maxHeartbeats 4000000 in
/-- The document's Uvarint. -/
theorem duv_anyI (n : Nat) (w : World) (hn : n < 18446744073709551616) :
    Calls Tryd.prog 57 #[.int .u64 n] w fun e w' => ∃ g c, e = .returned (.slice (some ⟨g, 0, none⟩) (uvb n).length c) ∧ Gro w w' 5 1 (.slice (some ⟨g, 0, none⟩) (uvb n).length c) (uvb n).length (bs (uvb n)) := by
  have HG0 := hideI (gro_empty w w 5 1 (Kept.refl _ _))
  go_enter Tryd.func57, Tryd.ntmps57
  go_wp2_with fail
  have HLn : Hid (∀ (zs : List Int) (m : Nat), zs ++ uvb m = uvb n → zs.length ≤ 10) := hideI (fun zs m e => by
    have h8 := congrArg List.length e
    rw [List.length_append] at h8
    have h9 := ulen_10 hn
    omega)
  go_loopw [0, 3] (fun v0 v3 wr => ∃ (m : Nat) (va : Value) (zs : List Int), v0 = .int .u64 m ∧ v3 = va ∧ m < 18446744073709551616 ∧ Hid (Gro w wr 5 1 va zs.length (bs zs)) ∧ Hid (zs ++ uvb m = uvb n)) (fun v0 _ _ => (intOf v0).toNat)
  case atStart => exact ⟨n, _, [], rfl, rfl, hn, HG0, hideI rfl⟩
  case round =>
    obtain ⟨m, va, zs, rfl, rfl, hm, HG, HF⟩ := hrel
    have hzl := HLn.out zs m HF.out
    by_cases h128 : m < 128
    · have d1 : ¬ (128 : Int) ≤ (m : Int) := by omega
      have d2 : decide ((128 : Int) ≤ (m : Int)) = false := decide_eq_false d1
      have d3 : decide (128 ≤ m) = false := decide_eq_false (by omega)
      have w1 : IntKind.u8.wrap (m : Int) = (m : Int) := by rw [IntKind.wrap_u8]; omega
      rw [uvb_small h128] at HF
      go_wp2_with (at_builtin; refine StpQI.go ?_)
      refine ⟨?_⟩
      refine wpList_pushZI rfl (.tmp 16) (.tmp 19) rfl _ zs.length zs (m : Int) rfl HG _ rfl rfl (by omega) ?_
      intro g7 c7 W7 HG7 _
      go_wp2
      go_ret
      have e : (uvb n).length = zs.length + 1 := by rw [← HF.out]; simp
      rw [e, ← HF.out]
      exact ⟨g7, c7, rfl, HG7.out⟩
    · obtain ⟨r, hr⟩ : ∃ r, r = m % 128 := ⟨_, rfl⟩
      obtain ⟨q, hq⟩ : ∃ q, q = m / 128 := ⟨_, rfl⟩
      have hr128 : r < 128 := by omega
      have hqm : q < m := by omega
      have e1 : (m : Int).tmod 128 = (r : Int) := by rw [Int.tmod_eq_emod_of_nonneg (by omega)]; omega
      have e2 : (m : Int).tdiv 128 = (q : Int) := by rw [Int.tdiv_eq_ediv_of_nonneg (by omega)]; omega
      have e3 : (m : Int) % 128 = (r : Int) := by omega
      have e4 : (m : Int) / 128 = (q : Int) := by omega
      have HF2 : Hid ((zs ++ [(128 + (r : Int))]) ++ uvb q = uvb n) := hideI (by
        rw [← HF.out, uvb_big h128, e3, ← hq, List.append_assoc]
        rfl)
      have d1 : (128 : Int) ≤ (m : Int) := by omega
      have d2 : decide ((128 : Int) ≤ (m : Int)) = true := decide_eq_true d1
      have d3 : decide (128 ≤ m) = true := decide_eq_true (by omega)
      have w1 : IntKind.u8.wrap (128 + (r : Int)) = 128 + (r : Int) := by rw [IntKind.wrap_u8]; omega
      clear HF hr hq
      go_wp2_with (at_builtin; refine StpQI.go ?_)
      refine ⟨?_⟩
      refine wpList_pushZI rfl (.tmp 7) (.tmp 12) rfl _ zs.length zs (128 + (r : Int)) rfl HG _ rfl rfl (by omega) ?_
      intro g7 c7 W7 HG7 _
      go_wp2
      go_roundw
      case rel => exact ⟨q, _, zs ++ [(128 + (r : Int))], rfl, rfl, by omega, hideI (by rw [List.length_append]; exact HG7.out), HF2⟩
      case measure => simp [intOf]; omega
end Go.Proofs.YtohnkamobmkhkaaDoor
