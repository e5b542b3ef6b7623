import Derived.Test.YtiiokafjfapnpaaDoorPou
import Derived.Test.YtiiokafjfapnpaaDoorMrg4
import Derived.Test.YtiiokafjfapnpaaDoorPoj
import Derived.Test.YtiiokafjfapnpaaDoorPoo
import Derived.Laws.AppendOwnNone
import Derived.Test.YtiiokafjfapnpaaDoorPov
import Derived.Deep.Upon
namespace Go.Proofs.YtiiokafjfapnpaaDoor
open Go.ChangeShapes Go.WideShapes Go.ChangeAt Go.RowKit

/-- A list that is grown: what may have changed. -/
structure GStep (w w' : World) (v v' : Value) : Prop where
  kept : Kept (fun k => v.ownBlock = some k) w w'
  new : ∀ k, v'.ownBlock = some k → v.ownBlock = some k ∨ w.heap.size ≤ k
theorem GStep.refl (w : World) (v : Value) : GStep w w v v := ⟨Kept.refl _ _, fun _ h => .inl h⟩
theorem GStep.trans {a b c : World} {v v1 v2 : Value} (h : GStep a b v v1) (k : GStep b c v1 v2) : GStep a c v v2 :=
  ⟨h.kept.trans k.kept (fun i hi => h.new i hi), fun i hi => (k.new i hi).elim (fun x => h.new i x) (fun x => .inr (Nat.le_trans h.kept.size x))⟩
theorem GStep.later {a b c : World} {v v1 : Value} (h : GStep a b v v1) (k : Kept (fun _ => False) b c) : GStep a c v v1 :=
  ⟨h.kept.trans k (fun _ f => f.elim), h.new⟩
theorem GStep.ahead {a b c : World} {v v1 : Value} (k : Kept (fun _ => False) a b) (h : GStep b c v v1) : GStep a c v v1 :=
  ⟨(k.mono (fun _ f => f.elim)).trans h.kept (fun _ hi => .inl hi), fun i hi => (h.new i hi).imp id (fun x => Nat.le_trans k.size x)⟩
/-- Two lists lie apart. -/
def Apa (v u : Value) : Prop := ∀ k, v.ownBlock = some k → u.ownBlock ≠ some k
theorem Apa.symm {v u : Value} (h : Apa v u) : Apa u v := fun k hk e => h k e hk
theorem Gro.other {w0 W W' : World} {e e' : TypeId} {sz sz' : Nat} {u v v' : Value} {m n : Nat} {ys xs : List Value} (h : Gro w0 W e sz u m ys) (g : Gro w0 W e' sz' v n xs) (s : GStep W W' v v') (ap : Apa v u) : Gro w0 W' e sz u m ys ∧ Apa v' u :=
  ⟨⟨s.kept.row h.own (fun j hj f => ap j f hj), h.kept.trans s.kept (fun i hi => .inr (g.own.lt i hi).1)⟩, fun k hk hu => (s.new k hk).elim (fun q => ap k q hu) (fun q => by have := (h.own.lt k hu).2; omega)⟩
/-- 'append(s, x...)' of what lies elsewhere. -/
theorem wpList_catX {w0 W : World} {ops : Array Oper} {rest : List Oper} {o : Oper} {act : Act} {Q : Exit → Act → World → Prop} (hgd : o.guard = none) (s x : Operand) (t : TypeId)
    (ho : o.op = .call { callee := .builtin .append, args := #[s, x], argTypes := #[t, t] }) (e : TypeId) (i : TypeInfo) (z : Value) (size bytes : Nat)
    (ht : Tryd.prog.underlying t = some (.slice e)) (hi : Tryd.prog.info? e = some i) (hz : i.zero = some z) (hsize : i.size = size) (hby : i.bytes = bytes) (hzs : z.cells.size = size) (hsz : 0 < size)
    (v : Value) (n : Nat) (xs news : List Value) (hs : act.eval s = v) (hG : Hid (Gro w0 W e size v n xs)) (a : Addr) (m c : Nat) (hx : act.eval x = .slice (some a) m c)
    (hl : news.length = m * size) (hc : ∀ j u, news[j]? = some u → W.cell? (a.add j) = some u) (h1 : ∀ u ∈ news, u.oneCell' = true) (hm : 0 < m) (hb : (n + m) * bytes ≤ 140737488355328) (h63 : n + m ≤ maxLen)
    (h : ∀ g c' W', Hid (Gro w0 W' e size (.slice (some ⟨g, 0, none⟩) (n + m) c') (n + m) (xs ++ news)) → Hid (GStep W W' v (.slice (some ⟨g, 0, none⟩) (n + m) c')) → wpList Tryd.prog ops Q rest (act.put o.dst (.slice (some ⟨g, 0, none⟩) (n + m) c')) W') : wpList Tryd.prog ops Q (o :: rest) act W := by
  refine wpList_append_lies W hgd s x t ho w0.heap.size e i z size bytes ht hi hz hsize hby hzs hsz v n xs hs hG.out.own a m c news hx hl hc h1 hm h63 hb hG.out.kept.size _ rfl ?_
  intro g c' W' ho2 hg2 hat _
  refine h g c' W' (hideP ⟨ho2, hG.out.kept.trans (Kept.grown hg2) (fun i hi => .inr (hG.out.own.lt i hi).1)⟩) (hideP ⟨Kept.grown hg2, fun k hk => ?_⟩)
  simp [Value.ownBlock] at hk
  subst hk
  exact hat.imp id (fun e => by rw [e]; exact Nat.le_refl _)
/-- 'append(s, x...)' of bytes. -/
theorem wpList_catB {w0 W : World} {ops : Array Oper} {rest : List Oper} {o : Oper} {act : Act} {Q : Exit → Act → World → Prop} (hgd : o.guard = none) (s x : Operand)
    (ho : o.op = .call { callee := .builtin .append, args := #[s, x], argTypes := #[24, 24] }) (v : Value) (n : Nat) (xs ys : List Int) (hs : act.eval s = v) (hG : Hid (Gro w0 W 5 1 v n (bs xs))) (a : Option Addr) (m c : Nat) (hx : act.eval x = .slice a m c) (hm : m = ys.length) (hB : Hid (BytesAt W a ys)) (hm0 : 0 < m) (hb : n + m ≤ 70368744177664)
    (h : ∀ g c' W', Hid (Gro w0 W' 5 1 (.slice (some ⟨g, 0, none⟩) (n + m) c') (n + m) (bs (xs ++ ys))) → Hid (GStep W W' v (.slice (some ⟨g, 0, none⟩) (n + m) c')) → wpList Tryd.prog ops Q rest (act.put o.dst (.slice (some ⟨g, 0, none⟩) (n + m) c')) W') : wpList Tryd.prog ops Q (o :: rest) act W := by
  obtain ⟨i0, hi, hz0, hz1, hz2⟩ := info_partsP Tryd.infoB
  obtain ⟨b, off, rfl, hc⟩ := hB.out (by intro e; rw [e] at hm; simp at hm; omega)
  rw [bs_append] at h
  exact wpList_catX hgd s x 24 ho 5 i0 (.int .u8 0) 1 1 Tryd.underlying24 hi hz0 hz1 hz2 rfl (by decide) v n (bs xs) (bs ys) hs hG ⟨b, off, none⟩ m c hx (by rw [bs_length, hm, Nat.mul_one]) (BytesAt.cells hc) (bs_one _) hm0 (by omega) (by unfold maxLen; omega) h
/-- 'append(s, x)' of one byte. -/
theorem wpList_pushZ {w0 W : World} {ops : Array Oper} {rest : List Oper} {o : Oper} {act : Act} {Q : Exit → Act → World → Prop} (hgd : o.guard = none) (s x : Operand)
    (ho : o.op = .call { callee := .builtin .append, args := #[s, x], argTypes := #[24, 24] }) (v : Value) (n : Nat) (xs : List Int) (y : Int) (hs : act.eval s = v) (hG : Hid (Gro w0 W 5 1 v n (bs xs))) (b : Nat) (hbb : b = W.heap.size) (hx : act.eval x = .slice (some ⟨b, 0, none⟩) 1 1) (hb : n ≤ 70368744177664)
    (h : ∀ g c' W', Hid (Gro w0 W' 5 1 (.slice (some ⟨g, 0, none⟩) (n + 1) c') (n + 1) (bs (xs ++ [y]))) → Hid (GStep W W' v (.slice (some ⟨g, 0, none⟩) (n + 1) c')) → wpList Tryd.prog ops Q rest (act.put o.dst (.slice (some ⟨g, 0, none⟩) (n + 1) c')) W') : wpList Tryd.prog ops Q (o :: rest) act (W.alloc (.cells #[.int .u8 y] 5)) := by
  subst hbb
  obtain ⟨i0, hi, hz0, hz1, hz2⟩ := info_partsP Tryd.infoB
  rw [bs_append] at h
  refine wpList_catX hgd s x 24 ho 5 i0 (.int .u8 0) 1 1 Tryd.underlying24 hi hz0 hz1 hz2 rfl (by decide) v n (bs xs) (bs [y]) hs (hideP (hG.out.later (Kept.alloc W _))) ⟨W.heap.size, 0, none⟩ 1 1 hx (by rw [bs_length]; rfl) (row_news W [.int .u8 y] 5) (bs_one _) (by decide) (by omega) (by unfold maxLen; omega) ?_
  intro g c' W' hG2 hS
  exact h g c' W' hG2 (hideP (GStep.ahead (Kept.alloc W _) hS.out))
/-- 'append(s, x)' of one number. -/
theorem wpList_pushN {w0 W : World} {ops : Array Oper} {rest : List Oper} {o : Oper} {act : Act} {Q : Exit → Act → World → Prop} (hgd : o.guard = none) (s x : Operand)
    (ho : o.op = .call { callee := .builtin .append, args := #[s, x], argTypes := #[51, 51] }) (v : Value) (n : Nat) (xs : List Int) (y : Int) (hs : act.eval s = v) (hG : Hid (Gro w0 W 3 1 v n (is xs))) (b : Nat) (hbb : b = W.heap.size) (hx : act.eval x = .slice (some ⟨b, 0, none⟩) 1 1) (hb : n ≤ 1099511627776)
    (h : ∀ g c' W', Hid (Gro w0 W' 3 1 (.slice (some ⟨g, 0, none⟩) (n + 1) c') (n + 1) (is (xs ++ [y]))) → Hid (GStep W W' v (.slice (some ⟨g, 0, none⟩) (n + 1) c')) → wpList Tryd.prog ops Q rest (act.put o.dst (.slice (some ⟨g, 0, none⟩) (n + 1) c')) W') : wpList Tryd.prog ops Q (o :: rest) act (W.alloc (.cells #[.int .i64 y] 3)) := by
  subst hbb
  obtain ⟨i0, hi, hz0, hz1, hz2⟩ := info_partsP Tryd.infoI
  rw [is_app] at h
  refine wpList_catX hgd s x 51 ho 3 i0 (.int .i64 0) 1 8 Tryd.underlying51 hi hz0 hz1 hz2 rfl (by decide) v n (is xs) [.int .i64 y] hs (hideP (hG.out.later (Kept.alloc W _))) ⟨W.heap.size, 0, none⟩ 1 1 hx (by simp) (row_news W [.int .i64 y] 3) (by intro u hu; simp at hu; subst hu; rfl) (by decide) (by omega) (by unfold maxLen; omega) ?_
  intro g c' W' hG2 hS
  exact h g c' W' hG2 (hideP (GStep.ahead (Kept.alloc W _) hS.out))
theorem gro_bytes {w0 W : World} {a : Option Addr} {n c : Nat} {xs : List Int} (h : Gro w0 W 5 1 (.slice a n c) n (bs xs)) : BytesAt W a xs ∧ n = xs.length ∧ n ≤ c := by
  have hn : n = xs.length := by have := h.own.1; rw [bs_length] at this; omega
  rcases h.own.2 with ⟨e1, e2⟩ | ⟨g, cap, cur, e1, hg, hh, hnc, _⟩
  · simp only [Value.slice.injEq] at e1
    obtain ⟨rfl, rfl, rfl⟩ := e1
    exact ⟨fun hne => absurd (List.eq_nil_of_length_eq_zero hn.symm) hne, hn, Nat.le_refl _⟩
  · simp only [Value.slice.injEq] at e1
    obtain ⟨rfl, _, rfl⟩ := e1
    refine ⟨fun _ => ⟨g, 0, rfl, fun k hk => ?_⟩, hn, hnc⟩
    have q0 := h.own.cells (g := g) rfl k (.int .u8 (xs[k]?.getD 0)) (by unfold bs; rw [List.getElem?_map, List.getElem?_eq_getElem hk]; simp)
    have hp : (⟨g, 0, none⟩ : Addr).add k = ⟨g, k, none⟩ := by unfold Addr.add; split <;> simp_all
    rw [hp] at q0
    rw [Nat.zero_add]
    exact q0
structure StpD (P : Prop) : Prop where
  go : P
set_option maxRecDepth 20000 in
set_option maxHeartbeats 4000000 in
/-- The document's Uvarint. -/
theorem duv_any (n : Nat) (w : World) (hn : n < 18446744073709551616) :
    Calls Tryd.prog 57 #[.int .u64 n] w fun e w' => ∃ g c, e = .returned (.slice (some ⟨g, 0, none⟩) (uvb n).length c) ∧ Gro w w' 5 1 (.slice (some ⟨g, 0, none⟩) (uvb n).length c) (uvb n).length (bs (uvb n)) := by
  have HG0 := hideP (gro_empty w w 5 1 (Kept.refl _ _))
  go_enter Tryd.func57, Tryd.ntmps57
  go_wp2_with fail
  have HLn : Hid (∀ (zs : List Int) (m : Nat), zs ++ uvb m = uvb n → zs.length ≤ 10) := hideP (fun zs m e => by
    have h8 := congrArg List.length e
    rw [List.length_append] at h8
    have h9 := uvb_le10P n (by omega)
    omega)
  go_loopw [0, 3] (fun v0 v3 wr => ∃ (m : Nat) (va : Value) (zs : List Int), v0 = .int .u64 m ∧ v3 = va ∧ m < 18446744073709551616 ∧ Hid (Gro w wr 5 1 va zs.length (bs zs)) ∧ Hid (zs ++ uvb m = uvb n)) (fun v0 _ _ => (intOf v0).toNat)
  case atStart => exact ⟨n, _, [], rfl, rfl, hn, HG0, hideP rfl⟩
  case round =>
    obtain ⟨m, va, zs, rfl, rfl, hm, HG, HF⟩ := hrel
    have hzl := HLn.out zs m HF.out
    by_cases h128 : m < 128
    · have d1 : ¬ (128 : Int) ≤ (m : Int) := by omega
      have d2 : decide ((128 : Int) ≤ (m : Int)) = false := decide_eq_false d1
      have d3 : decide (128 ≤ m) = false := decide_eq_false (by omega)
      have w1 : IntKind.u8.wrap (m : Int) = (m : Int) := by rw [IntKind.wrap_u8]; omega
      rw [uvb_small h128] at HF
      go_wp2_with (at_builtin; refine StpQ.go ?_)
      refine ⟨?_⟩
      refine wpList_pushZ rfl (.tmp 16) (.tmp 19) rfl _ zs.length zs (m : Int) rfl HG _ rfl rfl (by omega) ?_
      intro g7 c7 W7 HG7 _
      go_wp2
      go_ret
      have e : (uvb n).length = zs.length + 1 := by rw [← HF.out]; simp
      rw [e, ← HF.out]
      exact ⟨g7, c7, rfl, HG7.out⟩
    · obtain ⟨r, hr⟩ : ∃ r, r = m % 128 := ⟨_, rfl⟩
      obtain ⟨q, hq⟩ : ∃ q, q = m / 128 := ⟨_, rfl⟩
      have hr128 : r < 128 := by omega
      have hqm : q < m := by omega
      have e1 : (m : Int).tmod 128 = (r : Int) := by rw [Int.tmod_eq_emod_of_nonneg (by omega)]; omega
      have e2 : (m : Int).tdiv 128 = (q : Int) := by rw [Int.tdiv_eq_ediv_of_nonneg (by omega)]; omega
      have e3 : (m : Int) % 128 = (r : Int) := by omega
      have e4 : (m : Int) / 128 = (q : Int) := by omega
      have HF2 : Hid ((zs ++ [(128 + (r : Int))]) ++ uvb q = uvb n) := hideP (by
        rw [← HF.out, uvb_big h128, e3, ← hq, List.append_assoc]
        rfl)
      have d1 : (128 : Int) ≤ (m : Int) := by omega
      have d2 : decide ((128 : Int) ≤ (m : Int)) = true := decide_eq_true d1
      have d3 : decide (128 ≤ m) = true := decide_eq_true (by omega)
      have w1 : IntKind.u8.wrap (128 + (r : Int)) = 128 + (r : Int) := by rw [IntKind.wrap_u8]; omega
      clear HF hr hq
      go_wp2_with (at_builtin; refine StpQ.go ?_)
      refine ⟨?_⟩
      refine wpList_pushZ rfl (.tmp 7) (.tmp 12) rfl _ zs.length zs (128 + (r : Int)) rfl HG _ rfl rfl (by omega) ?_
      intro g7 c7 W7 HG7 _
      go_wp2
      go_roundw
      case rel => exact ⟨q, _, zs ++ [(128 + (r : Int))], rfl, rfl, by omega, hideP (by rw [List.length_append]; exact HG7.out), HF2⟩
      case measure => simp [intOf]; omega
/-- The document's number. -/
theorem dnum_any (n : Nat) (w : World) (hn : n < 9223372036854775808) :
    Calls Tryd.prog 43 #[.int .i64 n] w fun e w' => ∃ g c, e = .returned (.slice (some ⟨g, 0, none⟩) (uvb n).length c) ∧ Gro w w' 5 1 (.slice (some ⟨g, 0, none⟩) (uvb n).length c) (uvb n).length (bs (uvb n)) := by
  have CU := hideP (duv_any n w (by omega))
  generalize uvb n = U at *
  go_enter Tryd.func43, Tryd.ntmps43
  go_wp2_with (go_at_call 57; refine CU.out.mono ?_; clear CU; rintro e W1 ⟨g, c, rfl, hG⟩; have HG := hideP hG; clear hG)
  go_ret
  exact ⟨g, c, rfl, HG.out⟩
end Go.Proofs.YtiiokafjfapnpaaDoor
namespace Go.Proofs.YtiiokafjfapnpaaDoor
open Go.ChangeShapes Go.WideShapes Go.ChangeAt Go.RowKit

theorem bitLen_gt (n k : Nat) : k < bitLen n ↔ 2 ^ k ≤ n := by
  have := bitLen_le_iff n k
  omega
theorem shr_pos {n k : Nat} : n / 2 ^ k ≠ 0 ↔ k < bitLen n := by
  rw [bitLen_gt, Ne, Nat.div_eq_zero_iff]
  have := Nat.two_pow_pos k
  omega
theorem shr_cast (X q : Nat) : (X : Int) / (2 : Int) ^ q = ((X / 2 ^ q : Nat) : Int) := by rw [Int.natCast_ediv, Int.natCast_pow]; rfl
theorem shr_yes {X q : Nat} (h : q < bitLen X) : ((X : Int) / (2 : Int) ^ q != 0) = true := by
  rw [shr_cast, bne_iff_ne]
  have := shr_pos.2 h
  omega
theorem shr_no {X q : Nat} (h : ¬ q < bitLen X) : ((X : Int) / (2 : Int) ^ q != 0) = false := by
  rw [shr_cast, bne_eq_false_iff_eq]
  have := mt shr_pos.1 h
  omega
set_option maxRecDepth 20000 in
set_option maxHeartbeats 2000000 in
theorem dwid_any (l : List Int) (a : Option Addr) (c : Nat) (w : World) (hA : IntsAt w a l) (h0 : ∀ x ∈ l, 0 ≤ x) (hI : IsInts l) (hl : l.length ≤ 1099511627776) :
    Calls Tryd.prog 67 #[.slice a l.length c] w fun e w' => e = .returned (.int .i64 ((bitLen (orl l) : Nat) : Int)) ∧ w' = w := by
  have HA := hideP hA
  have H0 := hideP h0
  have HI := hideP hI
  obtain ⟨n, hn⟩ : ∃ n, n = l.length := ⟨_, rfl⟩
  rw [← hn] at hl ⊢
  have HN := hideP hn
  clear hA h0 hI hn
  go_enter Tryd.func67, Tryd.ntmps67
  go_wp2
  go_loop [3, 8] (fun v3 v8 => ∃ (j wd : Nat), j ≤ n ∧ wd ≤ 63 ∧ v8 = .int .i64 j ∧ v3 = .int .i64 wd ∧ Hid (wd = bitLen (orl (l.take j)))) (fun _ v8 => n - (intOf v8).toNat)
  case atStart => exact ⟨0, 0, by omega, by omega, rfl, rfl, hideP rfl⟩
  case round =>
    obtain ⟨j, wd, hj, hwd, rfl, rfl, HW⟩ := hrel
    by_cases hlt : j < n
    · have hjj : (j : Int) < (n : Int) := by omega
      have hjl : j < l.length := by rw [← HN.out]; exact hlt
      obtain ⟨b, off, rfl, hc⟩ := HA.out.get (k := j) hjl
      have hmem : l[j]?.getD 0 ∈ l := by rw [List.getElem?_eq_getElem hjl]; exact List.getElem_mem hjl
      have hx0 := H0.out _ hmem
      have hx1 := HI.out _ hmem
      have HS : Hid (bitLen (orl (l.take (j + 1))) = max wd (bitLen (l[j]?.getD 0).toNat)) := hideP (by
        rw [List.take_add_one, List.getElem?_eq_getElem hjl, HW.out]
        simp only [Option.toList_some, Option.getD_some]
        rw [orl_snoc, bitLen_or])
      generalize l[j]?.getD 0 = x at *
      obtain ⟨X, rfl⟩ := Int.eq_ofNat_of_zero_le hx0
      have hX : X < 2 ^ 63 := by omega
      have hB : bitLen X ≤ 63 := (bitLen_le_iff X 63).2 hX
      rw [Int.toNat_natCast] at HS
      go_wp2
      go_loop [3] (fun v3 => ∃ q : Nat, q ≤ 63 ∧ v3 = .int .i64 q ∧ Hid (wd ≤ q) ∧ Hid (q ≤ max wd (bitLen X))) (fun v3 => 63 - (intOf v3).toNat)
      case atStart => exact ⟨wd, hwd, rfl, hideP (Nat.le_refl _), hideP (Nat.le_max_left ..)⟩
      case round =>
        obtain ⟨q, hq, rfl, HQ1, HQ2⟩ := hrel
        by_cases hb : q < bitLen X
        · have hqq : (q : Int) < 63 := by omega
          have hs := shr_yes hb
          go_wp2
          go_round
          case rel => exact ⟨q + 1, by omega, by go_num, hideP (by have := HQ1.out; omega), hideP (by omega)⟩
          case measure => simp [intOf]; omega
        · have HE : Hid (q = bitLen (orl (l.take (j + 1)))) := hideP (by rw [HS.out]; have := HQ1.out; have := HQ2.out; omega)
          by_cases hq63 : q < 63
          · have hqq : (q : Int) < 63 := by omega
            have hs := shr_no hb
            go_wp2
            go_round
            case rel => exact ⟨j + 1, q, by omega, hq, by go_num, rfl, HE⟩
            case measure => simp [intOf]; omega
          · have hqq : ¬ (q : Int) < 63 := by omega
            go_wp2
            go_round
            case rel => exact ⟨j + 1, q, by omega, hq, by go_num, rfl, HE⟩
            case measure => simp [intOf]; omega
    · have hjj : ¬ (j : Int) < (n : Int) := by omega
      have HE : Hid (wd = bitLen (orl l)) := hideP (by rw [HW.out, List.take_of_length_le (by rw [← HN.out]; omega)])
      go_wp2
      go_ret
      exact ⟨by rw [HE.out]; rfl, rfl⟩
end Go.Proofs.YtiiokafjfapnpaaDoor
namespace Go.Proofs.YtiiokafjfapnpaaDoor
open Go.ChangeShapes Go.WideShapes Go.ChangeAt Go.RowKit

/-- The bits of the byte that is begun, behind t bits of N. -/
def cst (N t : Nat) : Nat := N / 256 ^ (t / 8) % 2 ^ (t % 8)
theorem pow256 (q : Nat) : 256 ^ q = 2 ^ (8 * q) := by rw [Nat.pow_mul]
theorem cst_add (N t : Nat) : cst N t + (N / 2 ^ t % 2) * 2 ^ (t % 8) = N / 256 ^ (t / 8) % 2 ^ (t % 8 + 1) := by
  unfold cst
  rw [Nat.mod_pow_succ, Nat.div_div_eq_div_mul, pow256, ← Nat.pow_add, show 8 * (t / 8) + t % 8 = t by omega, Nat.mul_comm (2 ^ (t % 8))]
theorem cst_next {N t : Nat} (h : t % 8 + 1 ≠ 8) : cst N (t + 1) = cst N t + (N / 2 ^ t % 2) * 2 ^ (t % 8) := by
  rw [cst_add]
  unfold cst
  rw [show (t + 1) / 8 = t / 8 by omega, show (t + 1) % 8 = t % 8 + 1 by omega]
theorem cst_full {N t : Nat} (h : t % 8 + 1 = 8) : cst N (t + 1) = 0 ∧ le ((t + 1) / 8) N = le (t / 8) N ++ [((cst N t + (N / 2 ^ t % 2) * 2 ^ (t % 8) : Nat) : Int)] := by
  rw [cst_add, h]
  unfold cst
  rw [show (t + 1) % 8 = 0 by omega, show (t + 1) / 8 = t / 8 + 1 by omega, le_snoc]
  exact ⟨by rw [Nat.pow_zero, Nat.mod_one], rfl⟩
theorem hd_eq {d cc pp bt h A B C : Nat} (hd : d = cc + pp) (hpp : pp = bt * 2 ^ h) (h1 : cc = A) (h2 : h = C) (h3 : B = bt) : d = A + B * 2 ^ C := by
  subst h1 h2 h3 hpp
  exact hd
theorem cst_nextD {N t d : Nat} (hd : d = cst N t + (N / 2 ^ t % 2) * 2 ^ (t % 8)) (h : t % 8 + 1 ≠ 8) : cst N (t + 1) = d := hd ▸ cst_next h
theorem cst_fullD {N t d : Nat} (hd : d = cst N t + (N / 2 ^ t % 2) * 2 ^ (t % 8)) (h : t % 8 + 1 = 8) : cst N (t + 1) = 0 ∧ le ((t + 1) / 8) N = le (t / 8) N ++ [(d : Int)] := by
  subst hd
  exact cst_full h
theorem cst_lt (N t : Nat) : cst N t < 2 ^ (t % 8) := Nat.mod_lt _ (Nat.two_pow_pos _)
theorem cst_zero (N : Nat) : cst N 0 = 0 := by unfold cst; simp [Nat.mod_one]
theorem pow8D {h : Nat} (hh : h < 8) : 2 ^ h ≤ 128 := by
  have : 2 ^ h ≤ 2 ^ 7 := Nat.pow_le_pow_right (by decide) (by omega)
  omega
theorem le_end {N t : Nat} (h : N < 2 ^ t) : le ((t + 7) / 8) N = if t % 8 = 0 then le (t / 8) N else le (t / 8) N ++ [((cst N t : Nat) : Int)] := by
  by_cases ht : t % 8 = 0
  · rw [if_pos ht, show (t + 7) / 8 = t / 8 by omega]
  · rw [if_neg ht, show (t + 7) / 8 = t / 8 + 1 by omega, le_snoc]
    have h1 : N / 256 ^ (t / 8) < 2 ^ (t % 8) := by
      rw [pow256, Nat.div_lt_iff_lt_mul (Nat.two_pow_pos _), ← Nat.pow_add, show t % 8 + 8 * (t / 8) = t by omega]
      exact h
    have h2 := pow8D (h := t % 8) (by omega)
    have h3 : cst N t = N / 256 ^ (t / 8) % 256 := by
      unfold cst
      rw [Nat.mod_eq_of_lt h1, Nat.mod_eq_of_lt (by omega)]
    rw [h3]
theorem le_endD {N t h : Nat} (hN : N < 2 ^ t) (hh : h = t % 8) : le ((t + 7) / 8) N = if h = 0 then le (t / 8) N else le (t / 8) N ++ [((cst N t : Nat) : Int)] := by
  subst hh
  exact le_end hN
theorem pk_dropN (w : Nat) : ∀ (i : Nat) (l : List Int), (∀ x ∈ l, x.toNat < 2 ^ w) → pk w l / 2 ^ (i * w) = pk w (l.drop i)
  | 0, l, _ => by simp
  | i + 1, [], _ => by simp [pk]
  | i + 1, x :: r, h => by
    have h1 := h x (List.mem_cons_self ..)
    rw [List.drop_succ_cons, ← pk_dropN w i r (fun y hy => h y (List.mem_cons_of_mem _ hy)), pk, Nat.succ_mul, Nat.add_comm (i * w), Nat.pow_add, ← Nat.div_div_eq_div_mul, Nat.add_mul_div_left _ _ (Nat.two_pow_pos _), Nat.div_eq_of_lt h1, Nat.zero_add]
theorem pk_bit {w i k : Nat} {l : List Int} (h : ∀ x ∈ l, x.toNat < 2 ^ w) (hi : i < l.length) (hk : k < w) : pk w l / 2 ^ (i * w + k) % 2 = l[i].toNat / 2 ^ k % 2 := by
  rw [Nat.pow_add, ← Nat.div_div_eq_div_mul, pk_dropN w i l h, List.drop_eq_getElem_cons hi, pk]
  obtain ⟨d, rfl⟩ : ∃ d, w = k + (d + 1) := ⟨w - k - 1, by omega⟩
  rw [Nat.pow_add, Nat.mul_assoc, Nat.add_mul_div_left _ _ (Nat.two_pow_pos _), Nat.pow_succ, Nat.mul_comm (2 ^ d) 2, Nat.mul_assoc, Nat.add_mul_mod_self_left]
set_option maxRecDepth 20000 in
set_option maxHeartbeats 4000000 in
theorem dpk_any (l : List Int) (a : Option Addr) (c : Nat) (w : World) (hA : IntsAt w a l) (h0 : ∀ x ∈ l, 0 ≤ x) (hI : IsInts l) (hl : l.length ≤ 65536) (hne : l ≠ []) :
    Calls Tryd.prog 56 #[.slice a l.length c] w fun e w' => ∃ g c', e = .returned (.tuple #[.slice (some ⟨g, 0, none⟩) (packed l).length c', .int .i64 0]) ∧ Gro w w' 5 1 (.slice (some ⟨g, 0, none⟩) (packed l).length c') (packed l).length (bs (packed l)) := by
  have CU := hideP (duv_any l.length w (by omega))
  have CW : Hid (∀ W, Kept (fun _ => False) w W → Calls Tryd.prog 67 #[.slice a l.length c] W fun e w' => e = .returned (.int .i64 ((bitLen (orl l) : Nat) : Int)) ∧ w' = W) := hideP (fun W k => dwid_any l a c W (hA.kept k) h0 hI (by omega))
  obtain ⟨wd, hwd⟩ : ∃ wd, wd = bitLen (orl l) := ⟨_, rfl⟩
  obtain ⟨N, hN⟩ : ∃ N, N = pk wd l := ⟨_, rfl⟩
  have HP : Hid (packed l = (uvb l.length ++ [(wd : Int)]) ++ le ((l.length * wd + 7) / 8) N) := hideP (by rw [packed_eq, pbody, if_neg hne, ← hwd, ← hN]; simp)
  have HX : Hid (∀ x ∈ l, x.toNat < 2 ^ wd) := hideP (fun x hx => by rw [hwd]; exact mem_lt_width hx)
  have HNl : Hid (N < 2 ^ (l.length * wd)) := hideP (by rw [hN, Nat.mul_comm]; exact pk_lt wd l HX.out)
  have hw63 : wd ≤ 63 := by rw [hwd]; exact orl_bits l h0 hI
  have HBt : Hid (∀ i k, (h : i < l.length) → k < wd → N / 2 ^ (i * wd + k) % 2 = l[i].toNat / 2 ^ k % 2) := hideP (fun i k h hk => by rw [hN]; exact pk_bit HX.out h hk)
  rw [← hwd] at CW
  have HA := hideP hA
  have H0 := hideP h0
  have HI := hideP hI
  have hn0 : 0 < l.length := List.length_pos_iff.2 hne
  have HU := uvb_le10P l.length (by omega)
  obtain ⟨U, hU⟩ : ∃ U, U = uvb l.length := ⟨_, rfl⟩
  rw [← hU] at CU HP HU
  obtain ⟨n, hn⟩ : ∃ n, n = l.length := ⟨_, rfl⟩
  rw [← hn] at hl CU CW HP HNl hn0 ⊢
  have HN := hideP hn
  have hn0b : ((n : Int) == 0) = false := by rw [beq_eq_false_iff_ne]; omega
  have hnl : decide ((65536 : Int) < (n : Int)) = false := by rw [decide_eq_false_iff_not]; omega
  clear hA h0 hI hn hne hwd hN hU
  go_enter Tryd.func56, Tryd.ntmps56
  go_wp2
  go_loop [15] (fun v15 => ∃ j : Nat, j ≤ n ∧ v15 = .int .i64 j) (fun v15 => n - (intOf v15).toNat)
  case atStart => exact ⟨0, by omega, rfl⟩
  case round =>
    obtain ⟨j, hj, rfl⟩ := hrel
    by_cases hlt : j < n
    · have hjj : (j : Int) < (n : Int) := by omega
      have hjl : j < l.length := by rw [← HN.out]; exact hlt
      obtain ⟨b, off, rfl, hc⟩ := HA.out.get (k := j) hjl
      have hx0 := H0.out (l[j]?.getD 0) (by rw [List.getElem?_eq_getElem hjl]; exact List.getElem_mem hjl)
      generalize l[j]?.getD 0 = x at *
      have hxn : ¬ x < 0 := by omega
      go_wp2
      go_round
      case rel => exact ⟨j + 1, by omega, by go_num⟩
      case measure => simp [intOf]; omega
    · have hjj : ¬ (j : Int) < (n : Int) := by omega
      have hw8 : IntKind.u8.wrap (wd : Int) = (wd : Int) := by rw [IntKind.wrap_u8]; omega
      by_cases hz0 : wd = 0
      · subst hz0
        go_wp2_with (first
          | (go_at_call 57; refine CU.out.mono ?_; clear CU; rintro e W1 ⟨g1, c1, rfl, hG1⟩; have HG1 := hideP hG1; have CW1 := hideP (CW.out W1 hG1.kept); clear hG1 CW)
          | (go_at_call 67; refine CW1.out.mono ?_; clear CW1; rintro e W1 ⟨rfl, rfl⟩)
          | (at_builtin; refine StpQ.go ?_))
        refine ⟨?_⟩
        refine wpList_pushZ rfl (.tmp 41) (.tmp 44) rfl _ U.length U 0 rfl HG1 _ rfl rfl (by omega) ?_
        clear HG1
        intro g2 c2 W2 HG2 _
        go_wp2
        have HZ : Hid (packed l = U ++ [0]) := hideP (by rw [HP.out, Nat.mul_zero, Nat.zero_add]; simp [le])
        go_loopw [6, 8, 9, 48] (fun v6 v8 v9 v48 wr => ∃ j : Nat, j ≤ n ∧ v48 = .int .i64 j ∧ v8 = .int .i64 0 ∧ v9 = .int .i64 0 ∧ v6 = .slice (some ⟨g2, 0, none⟩) (U.length + 1) c2 ∧ wr = W2) (fun _ _ _ v48 _ => n - (intOf v48).toNat)
        case atStart => exact ⟨0, by omega, rfl, rfl, rfl, rfl, rfl⟩
        case round =>
          obtain ⟨j2, hj2, rfl, rfl, rfl, rfl, rfl⟩ := hrel
          by_cases hlt2 : j2 < n
          · have hjj2 : (j2 : Int) < (n : Int) := by omega
            have hjl : j2 < l.length := by rw [← HN.out]; exact hlt2
            obtain ⟨b, off, rfl, hc⟩ := (HA.out.kept HG2.out.kept).get (k := j2) hjl
            go_wp2
            go_loopw [6, 8, 9, 12] (fun v6 v8 v9 v12 wr2 => v12 = .int .i64 0 ∧ v8 = .int .i64 0 ∧ v9 = .int .i64 0 ∧ v6 = .slice (some ⟨g2, 0, none⟩) (U.length + 1) c2 ∧ wr2 = wr) (fun _ _ _ _ _ => 0)
            case atStart => exact ⟨rfl, rfl, rfl, rfl, rfl⟩
            case round =>
              obtain ⟨rfl, rfl, rfl, rfl, rfl⟩ := hrel
              go_wp2
              go_roundw
              case rel => exact ⟨j2 + 1, by omega, by go_num, rfl, rfl, rfl, by first | rfl | trivial⟩
              case measure => simp [intOf]; omega
          · have hjj2 : ¬ (j2 : Int) < (n : Int) := by omega
            go_wp2
            go_ret2
            refine ⟨g2, c2, ?_, ?_⟩
            · rw [HZ.out, List.length_append]; rfl
            · rw [HZ.out, List.length_append]; exact HG2.out
      · have hz : ((wd : Int) == 0) = false := by rw [beq_eq_false_iff_ne]; omega
        go_wp2_with (first
          | (go_at_call 57; refine CU.out.mono ?_; clear CU; rintro e W1 ⟨g1, c1, rfl, hG1⟩; have HG1 := hideP hG1; have CW1 := hideP (CW.out W1 hG1.kept); clear hG1 CW)
          | (go_at_call 67; refine CW1.out.mono ?_; clear CW1; rintro e W1 ⟨rfl, rfl⟩)
          | (at_builtin; refine StpQ.go ?_))
        refine ⟨?_⟩
        refine wpList_pushZ rfl (.tmp 41) (.tmp 44) rfl _ U.length U (wd : Int) rfl HG1 _ rfl rfl (by omega) ?_
        clear HG1
        intro g2 c2 W2 HG2 _
        go_wp2
        have HG3 : Hid (Gro w W2 5 1 (.slice (some ⟨g2, 0, none⟩) (U.length + 1) c2) (U ++ [(wd : Int)]).length (bs (U ++ [(wd : Int)]))) := hideP (by rw [List.length_append]; exact HG2.out)
        have hLb : Hid (∀ t, t ≤ n * wd → t / 8 ≤ 1000000) := hideP (fun t ht => by
          have : n * wd ≤ 65536 * 63 := Nat.mul_le_mul hl hw63
          omega)
        clear HG2
        go_loopw [6, 8, 9, 48] (fun v6 v8 v9 v48 wr => ∃ (j h cc : Nat) (va : Value) (zs : List Int), j ≤ n ∧ h < 8 ∧ cc < 128 ∧ v48 = .int .i64 j ∧ v8 = .int .i64 h ∧ v9 = .int .i64 cc ∧ v6 = va ∧ Hid (h = (j * wd) % 8) ∧ Hid (cc = cst N (j * wd)) ∧ Hid (zs = (U ++ [(wd : Int)]) ++ le (j * wd / 8) N) ∧ Hid (Gro w wr 5 1 va zs.length (bs zs))) (fun _ _ _ v48 _ => n - (intOf v48).toNat)
        case atStart => exact ⟨0, 0, 0, _, _, by omega, by omega, by omega, rfl, rfl, rfl, rfl, hideP (by simp), hideP (by rw [Nat.zero_mul, cst_zero]), hideP (by rw [Nat.zero_mul]; exact (List.append_nil _).symm), HG3⟩
        case round =>
          obtain ⟨j2, h, cc, va, zs, hj2, hh, hcc, rfl, rfl, rfl, rfl, HH, HC, HZ, HG⟩ := hrel
          by_cases hlt2 : j2 < n
          · have hjj2 : (j2 : Int) < (n : Int) := by omega
            have hjl : j2 < l.length := by rw [← HN.out]; exact hlt2
            obtain ⟨b, off, rfl, hc⟩ := (HA.out.kept HG.out.kept).get (k := j2) hjl
            have hx0 := H0.out (l[j2]?.getD 0) (by rw [List.getElem?_eq_getElem hjl]; exact List.getElem_mem hjl)
            have HBj : Hid (∀ k, k < wd → N / 2 ^ (j2 * wd + k) % 2 = (l[j2]?.getD 0).toNat / 2 ^ k % 2) := hideP (fun k hk => by rw [HBt.out j2 k hjl hk, List.getElem?_eq_getElem hjl]; rfl)
            have HLj : Hid (∀ k, k < wd → (j2 * wd + k) / 8 ≤ 1000000) := hideP (fun k hk => hLb.out _ (by
              have h1 : (j2 + 1) * wd ≤ n * wd := Nat.mul_le_mul_right _ hlt2
              rw [Nat.succ_mul] at h1
              omega))
            generalize l[j2]?.getD 0 = x at *
            obtain ⟨X, rfl⟩ := Int.eq_ofNat_of_zero_le hx0
            rw [Int.toNat_natCast] at HBj
            go_wp2
            go_loopw [6, 8, 9, 12] (fun v6 v8 v9 v12 wr => ∃ (k h cc : Nat) (va : Value) (zs : List Int), k ≤ wd ∧ h < 8 ∧ cc < 128 ∧ v12 = .int .i64 k ∧ v8 = .int .i64 h ∧ v9 = .int .i64 cc ∧ v6 = va ∧ Hid (h = (j2 * wd + k) % 8) ∧ Hid (cc = cst N (j2 * wd + k)) ∧ Hid (zs = (U ++ [(wd : Int)]) ++ le ((j2 * wd + k) / 8) N) ∧ Hid (Gro w wr 5 1 va zs.length (bs zs))) (fun _ _ _ v12 _ => wd - (intOf v12).toNat)
            case atStart => exact ⟨0, h, cc, _, zs, by omega, hh, hcc, rfl, rfl, rfl, rfl, HH, HC, HZ, HG⟩
            case round =>
              clear HH HC HZ HG hh hcc hc
              obtain ⟨k, h, cc, va, zs, hk, hh, hcc, rfl, rfl, rfl, rfl, HH, HC, HZ, HG⟩ := hrel
              by_cases hkw : k < wd
              · have hkk : (k : Int) < (wd : Int) := by omega
                obtain ⟨Y, hY⟩ : ∃ Y, Y = X / 2 ^ k := ⟨_, rfl⟩
                obtain ⟨bt, hbt⟩ : ∃ bt, bt = Y % 2 := ⟨_, rfl⟩
                have hsh : (X : Int) / (2 : Int) ^ k = (Y : Int) := by rw [shr_cast, hY]
                have hb1 : (Y : Int).tmod 2 = (bt : Int) := by rw [Int.tmod_eq_emod_of_nonneg (by omega)]; omega
                have hb2 : (Y : Int) % 2 = (bt : Int) := by omega
                have hb3 : bt < 2 := by omega
                have HBt2 : Hid (N / 2 ^ (j2 * wd + k) % 2 = bt) := hideP (by rw [HBj.out k hkw, ← hY, ← hbt])
                have hYX : Y ≤ X := by rw [hY]; exact Nat.div_le_self _ _
                clear hY hbt
                obtain ⟨pp, hpp⟩ : ∃ pp, pp = bt * 2 ^ h := ⟨_, rfl⟩
                obtain ⟨d, hd⟩ : ∃ d, d = cc + pp := ⟨_, rfl⟩
                have hcl : cc < 2 ^ h := by rw [HC.out, HH.out]; exact cst_lt _ _
                have hpl : pp ≤ 2 ^ h := by
                  rw [hpp]
                  rcases (show bt = 0 ∨ bt = 1 by omega) with e | e <;> rw [e] <;> omega
                have h28 := pow8D hh
                have hd256 : d < 256 := by omega
                have hw3 : (d : Int) % 256 = (d : Int) := by omega
                have HW1 : Hid (wrap64 ((bt : Int) * 2 ^ h) = (pp : Int)) := by
                  apply hideP
                  have e : (bt : Int) * 2 ^ h = (pp : Int) := by rw [hpp]; push_cast; rfl
                  rw [e]
                  unfold wrap64
                  omega
                have HW2 : Hid (wrap64 ((cc : Int) + (pp : Int)) = (d : Int)) := by
                  apply hideP
                  unfold wrap64
                  omega
                have HD : Hid (d = cst N (j2 * wd + k) + (N / 2 ^ (j2 * wd + k) % 2) * 2 ^ ((j2 * wd + k) % 8)) := hideP (hd_eq hd hpp HC.out HH.out HBt2.out)
                have hzl : zs.length ≤ 2000000 := by
                  rw [HZ.out]
                  simp only [List.length_append, le_length, List.length_singleton]
                  have := HLj.out k hkw
                  omega
                clear hpp hd hcl hpl
                by_cases h8 : h + 1 = 8
                · have h8b : ((h : Int) + 1 == 8) = true := by rw [beq_iff_eq]; omega
                  have HF := hideP (cst_fullD (N := N) (t := j2 * wd + k) HD.out (by have := HH.out; omega))
                  have hw1 := HW1.out
                  have hw2 := HW2.out
                  go_wp2_with (at_builtin; refine StpQ.go ?_)
                  clear hw1 hw2
                  refine ⟨?_⟩
                  refine wpList_pushZ rfl (.tmp 69) (.tmp 72) rfl _ zs.length zs (d : Int) rfl HG _ rfl rfl (by omega) ?_
                  intro g7 c7 W7 HG7 _
                  go_wp2
                  go_roundw
                  case rel => exact ⟨k + 1, 0, 0, _, zs ++ [(d : Int)], by omega, by omega, by omega, by go_num, rfl, rfl, rfl, hideP (by have := HH.out; omega), hideP (by rw [← Nat.add_assoc]; exact HF.out.1.symm), hideP (by rw [← Nat.add_assoc, HF.out.2, HZ.out]; simp only [List.append_assoc]), hideP (by rw [List.length_append]; exact HG7.out)⟩
                  case measure => simp [intOf]; omega
                · have h8b : ((h : Int) + 1 == 8) = false := by rw [beq_eq_false_iff_ne]; omega
                  have hF := cst_nextD (N := N) (t := j2 * wd + k) HD.out (by have := HH.out; omega)
                  have HF := hideP hF
                  have hd2 : d < 128 := by
                    have h1 := cst_lt N (j2 * wd + k + 1)
                    have h2 := pow8D (h := (j2 * wd + k + 1) % 8) (by omega)
                    omega
                  clear hF
                  have hw1 := HW1.out
                  have hw2 := HW2.out
                  go_wp2
                  go_roundw
                  all_goals clear hw1 hw2
                  case rel => exact ⟨k + 1, h + 1, d, _, zs, by omega, by omega, hd2, by go_num, by go_num, by rw [HW2.out], rfl, hideP (by have := HH.out; omega), hideP (by rw [← Nat.add_assoc]; exact HF.out.symm), hideP (by rw [HZ.out]; have := HH.out; rw [show (j2 * wd + (k + 1)) / 8 = (j2 * wd + k) / 8 by omega]), HG⟩
                  case measure => simp [intOf]; omega
              · have hkk : ¬ (k : Int) < (wd : Int) := by omega
                have HE : Hid (j2 * wd + k = (j2 + 1) * wd) := hideP (by rw [Nat.succ_mul]; omega)
                go_wp2
                go_roundw
                case rel => exact ⟨j2 + 1, h, cc, _, zs, by omega, hh, hcc, by go_num, rfl, rfl, rfl, hideP (by rw [← HE.out]; exact HH.out), hideP (by rw [← HE.out]; exact HC.out), hideP (by rw [← HE.out]; exact HZ.out), HG⟩
                case measure => simp [intOf]; omega
          · have hjj2 : ¬ (j2 : Int) < (n : Int) := by omega
            obtain rfl : j2 = n := by omega
            have hE := le_endD HNl.out HH.out
            have hzl : zs.length ≤ 2000000 := by
              rw [HZ.out]
              simp only [List.length_append, le_length, List.length_singleton]
              have := hLb.out (j2 * wd) (Nat.le_refl _)
              omega
            by_cases hh0 : h = 0
            · subst hh0
              rw [if_pos rfl] at hE
              have HR : Hid (packed l = zs) := hideP (by rw [HP.out, hE, HZ.out])
              clear hE
              obtain ⟨ga, gc, hva⟩ := HG.out.shape
              subst hva
              obtain ⟨g9, rfl, -, -⟩ := HG.out.cell (by rw [HZ.out]; simp only [List.length_append, List.length_singleton]; omega)
              go_wp2
              go_ret2
              rw [HR.out]
              exact ⟨g9, gc, rfl, HG.out⟩
            · rw [if_neg hh0] at hE
              have hhb : decide ((0 : Int) < (h : Int)) = true := by rw [decide_eq_true_iff]; omega
              have hw3 : (cc : Int) % 256 = (cc : Int) := by omega
              have HR : Hid (packed l = zs ++ [(cc : Int)]) := hideP (by rw [HP.out, hE, HZ.out, HC.out]; simp only [List.append_assoc])
              clear hE
              go_wp2_with (at_builtin; refine StpQ.go ?_)
              refine ⟨?_⟩
              refine wpList_pushZ rfl (.tmp 77) (.tmp 80) rfl _ zs.length zs (cc : Int) rfl HG _ rfl rfl (by omega) ?_
              intro g7 c7 W7 HG7 _
              go_wp2
              go_ret2
              rw [HR.out, List.length_append]
              exact ⟨g7, c7, rfl, HG7.out⟩
end Go.Proofs.YtiiokafjfapnpaaDoor
namespace Go.Proofs.YtiiokafjfapnpaaDoor
open Go.ChangeShapes Go.WideShapes Go.ChangeAt Go.RowKit

set_option maxRecDepth 20000 in
set_option maxHeartbeats 2000000 in
theorem dtot_any (L : List Pg) (a : Option Addr) (c : Nat) (w : World) (h : PsAt w a L) (hl : L.length ≤ 1099511627776) (ht : tot (pol L) ≤ 1099511627776) :
    Calls Tryd.prog 14 #[.slice a L.length c] w fun e w' => e = .returned (.int .i64 ((tot (pol L) : Nat) : Int)) ∧ Kept (fun _ => False) w w' := by
  have HP := hideP h
  obtain ⟨nl, hnl⟩ : ∃ nl, nl = L.length := ⟨_, rfl⟩
  rw [← hnl] at hl ⊢
  have HNL := hideP hnl
  obtain ⟨T, hT⟩ : ∃ T, T = tot (pol L) := ⟨_, rfl⟩
  rw [← hT] at ht ⊢
  have HT := hideP hT
  clear h hnl hT
  go_enter Tryd.func14, Tryd.ntmps14
  go_wp2
  go_loopw [3, 8] (fun v3 v8 wr => ∃ (j s : Nat), j ≤ nl ∧ s ≤ T ∧ v8 = .int .i64 j ∧ v3 = .int .i64 s ∧ Hid (s = tot (pol (L.take j))) ∧ Hid (Kept (fun _ => False) w wr)) (fun _ v8 _ => nl - (intOf v8).toNat)
  case atStart => exact ⟨0, 0, by omega, by omega, rfl, rfl, hideP rfl, hideP (Kept.refl _ _)⟩
  case round =>
    obtain ⟨j, s, hj, hs, rfl, rfl, HS, HK⟩ := hrel
    by_cases hlt : j < nl
    · have hjj : (j : Int) < (nl : Int) := by omega
      have hjl : j < L.length := by rw [← HNL.out]; exact hlt
      obtain ⟨bl, off, rfl, hc⟩ := (HP.out.kept HK.out) (by intro e; rw [e] at hjl; simp at hjl)
      obtain ⟨x0, x1, -⟩ := hc j hjl
      have h2 : s + L[j].ps.length = tot (pol (L.take (j + 1))) := by rw [pol_step hjl, tot_append, ← HS.out]; simp [tot]
      have h3 : s + L[j].ps.length ≤ T := by
        rw [h2, pol_take, HT.out]
        exact tot_take_le _ _
      have HS2 := hideP h2
      clear h2 hc HS
      generalize L[j] = en at *
      obtain ⟨d, pa, pc, ps⟩ := en
      simp only at x0 x1 h3 HS2
      generalize ps.length = n at *
      have HK2 := hideP (HK.out.trans (Kept.alloc wr (.cells #[.int .i64 d, .slice pa n pc] 53)) (fun _ f => f.elim))
      go_wp2
      go_roundw
      case rel => exact ⟨j + 1, s + n, by omega, h3, by go_num, by go_num, HS2, HK2⟩
      case measure => simp [intOf]; omega
    · have hjj : ¬ (j : Int) < (nl : Int) := by omega
      have HE : Hid (s = T) := hideP (by rw [HS.out, HT.out, List.take_of_length_le (by have := HNL.out; omega)])
      go_wp2
      go_ret
      exact ⟨by rw [← HE.out]; rfl, HK.out⟩
/-- The document's number of a fault. -/
def fnm (k : Nat) : Int := if k = 0 then 0 else if k = 3 then 4 else 8
theorem any_head {l : List Int} {j : Nat} {f : Int → Bool} (h : (l.take j).any f = false) (hj : j < l.length) (hx : f (l[j]?.getD 0) = false) : (l.take (j + 1)).any f = false := by
  rw [any_snoc f hj, h, hx]
  rfl
set_option maxRecDepth 20000 in
set_option maxHeartbeats 2000000 in
theorem dgood_any (d : Int) (a : Option Addr) (c : Nat) (ps : List Int) (b : Int) (w : World) (hA : IntsAt w a ps) (hl : ps.length ≤ 1099511627776) :
    Calls Tryd.prog 41 #[.agg #[.int .i64 d, .slice a ps.length c], .int .i64 b] w fun e w' => e = .returned (.int .i64 (fnm (flt b ⟨d, ps⟩))) ∧ Kept (fun _ => False) w w' := by
  have K0 := Kept.alloc w (.cells #[.int .i64 d, .slice a ps.length c] 53)
  have HA := hideP (hA.kept K0)
  have HK := hideP K0
  obtain ⟨V, hV⟩ : ∃ V, V = fnm (flt b ⟨d, ps⟩) := ⟨_, rfl⟩
  rw [← hV]
  unfold flt at hV
  simp only at hV
  clear hA K0
  by_cases h1 : d < 0
  · rw [if_pos (.inl h1)] at hV
    have HV : Hid (V = 8) := hideP hV
    clear hV
    go_enter Tryd.func41, Tryd.ntmps41
    go_wp2
    go_ret
    exact ⟨by rw [HV.out]; rfl, HK.out⟩
  by_cases h2 : 2147483647 ≤ d
  · rw [if_pos (.inr (by omega))] at hV
    have HV : Hid (V = 8) := hideP hV
    clear hV
    go_enter Tryd.func41, Tryd.ntmps41
    go_wp2
    go_ret
    exact ⟨by rw [HV.out]; rfl, HK.out⟩
  rw [if_neg (by omega)] at hV
  by_cases h3 : d ≤ b
  · rw [if_pos h3] at hV
    have HV : Hid (V = 4) := hideP hV
    clear hV
    go_enter Tryd.func41, Tryd.ntmps41
    go_wp2
    go_ret
    exact ⟨by rw [HV.out]; rfl, HK.out⟩
  rw [if_neg h3] at hV
  by_cases h4 : ps = []
  · rw [if_pos (.inl h4)] at hV
    have HV : Hid (V = 8) := hideP hV
    subst h4
    rw [List.length_nil] at *
    clear hV
    go_enter Tryd.func41, Tryd.ntmps41
    go_wp2
    go_ret
    exact ⟨by rw [HV.out]; rfl, HK.out⟩
  have hp : 0 < ps.length := List.length_pos_iff.2 h4
  have HV : Hid (V = if ps.any (fun x => decide (x < 0)) = true then 8 else if riseB ps = true then 0 else 4) := hideP (by
    rw [hV]
    by_cases h5 : ps.any (fun x => decide (x < 0)) = true
    · rw [if_pos (.inr h5), if_pos h5]; rfl
    · rw [if_neg (by intro h; exact h.elim h4 h5), if_neg h5]
      split <;> rfl)
  clear hV h4
  obtain ⟨n, hn⟩ : ∃ n, n = ps.length := ⟨_, rfl⟩
  rw [← hn] at hp hl HK HA ⊢
  have HN := hideP hn
  have hn0 : ((n : Int) == 0) = false := by rw [beq_eq_false_iff_ne]; omega
  have gP := heap_alloc_new w (.cells #[.int .i64 d, .slice a n c] 53)
  have HG := hideP gP
  clear hn gP
  go_enter Tryd.func41, Tryd.ntmps41
  go_wp2
  generalize w.alloc (.cells #[.int .i64 d, .slice a n c] 53) = W0 at *
  go_loop [27] (fun v27 => ∃ j : Nat, j ≤ n ∧ v27 = .int .i64 j ∧ Hid ((ps.take j).any (fun x => decide (x < 0)) = false)) (fun v27 => n - (intOf v27).toNat)
  case atStart => exact ⟨0, by omega, rfl, hideP rfl⟩
  case round =>
    obtain ⟨j, hj, rfl, HJ⟩ := hrel
    by_cases hlt : j < n
    · have hjj : (j : Int) < (n : Int) := by omega
      have hjl : j < ps.length := by rw [← HN.out]; exact hlt
      obtain ⟨ab, ao, rfl, hc⟩ := HA.out.get (k := j) hjl
      obtain ⟨x, hx⟩ : ∃ x, x = ps[j]?.getD 0 := ⟨_, rfl⟩
      have HX := hideP hx
      rw [← hx] at hc
      clear hx
      by_cases hx0 : x < 0
      · have HE : Hid (V = 8) := hideP (by
          rw [HV.out, if_pos]
          rw [List.any_eq_true]
          exact ⟨x, by rw [HX.out, List.getElem?_eq_getElem hjl]; exact List.getElem_mem hjl, by simpa using hx0⟩)
        go_wp2
        go_ret
        exact ⟨by rw [HE.out]; rfl, HK.out⟩
      · have HJ2 := hideP (any_head (f := fun x => decide (x < 0)) HJ.out hjl (by rw [← HX.out]; simpa using hx0))
        go_wp2
        go_round
        case rel => exact ⟨j + 1, by omega, by go_num, HJ2⟩
        case measure => simp [intOf]; omega
    · have hjj : ¬ (j : Int) < (n : Int) := by omega
      have HV2 : Hid (V = if riseB ps = true then 0 else 4) := hideP (by
        rw [HV.out, if_neg]
        have h1 := HJ.out
        rw [List.take_of_length_le (by have := HN.out; omega)] at h1
        rw [h1]
        simp)
      go_wp2
      have x1 : W0.cell? ⟨w.heap.size, 1, none⟩ = some (.slice a n c) := by rw [cell_of_row _ _ _ _ _ _ HG.out]; rfl
      go_loopw [7] (fun v7 wr => (∃ m, wr = W0.drewN m) ∧ ∃ k : Nat, k + 1 ≤ n ∧ v7 = .int .i64 ((k : Int) + 1) ∧ Hid (∀ j, j < k → ps[j]?.getD 0 < ps[j + 1]?.getD 0)) (fun v7 _ => n + 1 - (intOf v7).toNat)
      case atStart => exact ⟨⟨0, rfl⟩, 0, by omega, rfl, hideP (fun j hj => by omega)⟩
      case round =>
        obtain ⟨⟨m, rfl⟩, k, hk, rfl, HR⟩ := hrel
        by_cases hlt : k + 1 < n
        · have hkk : (k : Int) + 1 < (n : Int) := by omega
          obtain ⟨ab, ao, rfl, hc⟩ := HA.out.get (k := k) (by rw [← HN.out]; omega)
          obtain ⟨ab', ao', e, hc'⟩ := HA.out.get (k := k + 1) (by rw [← HN.out]; exact hlt)
          cases e
          obtain ⟨x, hx⟩ : ∃ x, x = ps[k]?.getD 0 := ⟨_, rfl⟩
          obtain ⟨y, hy⟩ : ∃ y, y = ps[k + 1]?.getD 0 := ⟨_, rfl⟩
          rw [← hx] at hc
          rw [← hy] at hc'
          have HX := hideP hx
          have HY := hideP hy
          clear hx hy
          by_cases hle : y ≤ x
          · have HE : Hid (V = 4) := hideP (by
              rw [HV2.out, if_neg]
              intro hr
              have := (riseB_iff ps).1 hr k (by rw [← HN.out]; exact hlt)
              rw [← HX.out, ← HY.out] at this
              omega)
            go_wp2_with fail
            go_quiet (fail)
            go_wp2
            go_ret
            exact ⟨by rw [HE.out]; rfl, HK.out.trans ((Kept.drewN W0 m).trans (Kept.drewN _ _) (fun _ f => f.elim)) (fun _ f => f.elim)⟩
          · have HR2 : Hid (∀ j, j < k + 1 → ps[j]?.getD 0 < ps[j + 1]?.getD 0) := hideP (fun j hj => by
              by_cases e : j = k
              · subst e; rw [← HX.out, ← HY.out]; omega
              · exact HR.out j (by omega))
            go_wp2_with fail
            go_quiet (fail)
            go_wp2
            go_roundw
            case rel => exact ⟨⟨m + nq, rfl⟩, k + 1, by omega, by go_num, HR2⟩
            case measure => simp [intOf]; omega
        · have hkk : ¬ (k : Int) + 1 < (n : Int) := by omega
          have HE : Hid (V = 0) := hideP (by
            rw [HV2.out, if_pos]
            rw [riseB_iff]
            intro j hj
            exact HR.out j (by have := HN.out; omega))
          go_wp2
          go_ret
          exact ⟨by rw [HE.out]; rfl, HK.out.trans (Kept.drewN W0 m) (fun _ f => f.elim)⟩
set_option maxRecDepth 20000 in
set_option maxHeartbeats 2000000 in
theorem dcheck_any (L : List Pg) (a : Option Addr) (c : Nat) (w : World) (hP : PsAt w a L) (hl : L.length ≤ 1099511627776) (ht : tot (pol L) ≤ 1099511627776) :
    Calls Tryd.prog 21 #[.slice a L.length c] w fun e w' => e = .returned (.int .i64 (fnm (flts (-1) (pol L)))) ∧ Kept (fun _ => False) w w' := by
  have HP := hideP hP
  have HT := hideP ht
  obtain ⟨nl, hnl⟩ : ∃ nl, nl = L.length := ⟨_, rfl⟩
  rw [← hnl] at hl ⊢
  have HNL := hideP hnl
  obtain ⟨V, hV⟩ : ∃ V, V = fnm (flts (-1) (pol L)) := ⟨_, rfl⟩
  rw [← hV]
  have HV := hideP hV
  clear hP ht hnl hV
  go_enter Tryd.func21, Tryd.ntmps21
  go_wp2
  go_loopw [3, 9] (fun v3 v9 wr => ∃ (j : Nat) (z : Int), j ≤ nl ∧ v9 = .int .i64 j ∧ v3 = .int .i64 z ∧ Hid (flts (-1) (pol L) = flts z (pol (L.drop j))) ∧ Hid (Kept (fun _ => False) w wr)) (fun _ v9 _ => nl - (intOf v9).toNat)
  case atStart => exact ⟨0, -1, by omega, rfl, rfl, hideP rfl, hideP (Kept.refl _ _)⟩
  case round =>
    obtain ⟨j, z, hj, rfl, rfl, HF, HK⟩ := hrel
    by_cases hlt : j < nl
    · have hjj : (j : Int) < (nl : Int) := by omega
      have hjl : j < L.length := by rw [← HNL.out]; exact hlt
      obtain ⟨bl, off, rfl, hc⟩ := (HP.out.kept HK.out) (by intro e; rw [e] at hjl; simp at hjl)
      obtain ⟨x0, x1, x2⟩ := hc j hjl
      have q5 : L[j].ps.length ≤ 1099511627776 := Nat.le_trans (tot_mem (pol_at hjl)) HT.out
      have HS := hideP (flts_step hjl z)
      clear hc
      generalize L[j] = en at *
      obtain ⟨d, pa, pc, ps⟩ := en
      simp only at x0 x1 x2 q5 HS
      have kA := Kept.alloc wr (.cells #[.int .i64 d, .slice pa ps.length pc] 53)
      have gA := heap_alloc_new wr (.cells #[.int .i64 d, .slice pa ps.length pc] 53)
      have CG := dgood_any d pa pc ps z _ (x2.kept kA) q5
      have HKA := hideP (HK.out.trans kA (fun _ f => f.elim))
      obtain ⟨F, hF⟩ : ∃ F, F = flt z ⟨d, ps⟩ := ⟨_, rfl⟩
      rw [← hF] at CG HS
      have HGA := hideP gA
      have HCG := hideP CG
      have hor := flt_or z ⟨d, ps⟩
      rw [← hF] at hor
      clear CG kA gA x2 hF
      generalize ps.length = n at *
      by_cases h0 : F = 0
      · subst h0
        have HF2 : Hid (flts (-1) (pol L) = flts d (pol (L.drop (j + 1)))) := hideP (by rw [HF.out, HS.out, if_pos rfl])
        rw [show fnm 0 = 0 from rfl] at HCG
        go_wp2_with (go_at_call 41; refine HCG.out.mono ?_; clear HCG; rintro e W5 ⟨rfl, k5⟩; have HK5 := hideP (HKA.out.trans k5 (fun _ f => f.elim)); have y0 : W5.cell? ⟨wr.heap.size, 0, none⟩ = some (.int .i64 d) := (by rw [cell_of_row _ _ _ _ _ _ (k5.heap HGA.out (fun f => f))]; rfl); clear k5)
        go_roundw
        case rel => exact ⟨j + 1, d, by omega, by go_num, rfl, HF2, HK5⟩
        case measure => simp [intOf]; omega
      · have HE : Hid (V = fnm F) := hideP (by rw [HV.out, HF.out, HS.out, if_neg h0])
        obtain ⟨q, hq⟩ : ∃ q, q = fnm F := ⟨_, rfl⟩
        rw [← hq] at HCG HE
        have hqn : (q != 0) = true := by
          rw [hq]
          rcases hor with e | e | e
          · exact absurd e h0
          · rw [e]; rfl
          · rw [e]; rfl
        clear hq
        go_wp2_with (go_at_call 41; refine HCG.out.mono ?_; clear HCG; rintro e W5 ⟨rfl, k5⟩; have HK5 := hideP (HKA.out.trans k5 (fun _ f => f.elim)); clear k5)
        go_ret
        exact ⟨by rw [HE.out]; rfl, HK5.out⟩
    · have hjj : ¬ (j : Int) < (nl : Int) := by omega
      have HE : Hid (V = 0) := hideP (by rw [HV.out, HF.out, List.drop_of_length_le (by have := HNL.out; omega)]; rfl)
      go_wp2
      go_ret
      exact ⟨by rw [HE.out]; rfl, HK.out⟩
end Go.Proofs.YtiiokafjfapnpaaDoor
namespace Go.Proofs.YtiiokafjfapnpaaDoor
open Go.ChangeShapes Go.WideShapes Go.ChangeAt Go.RowKit

theorem Gro.base {w0 w1 W : World} {e : TypeId} {sz : Nat} {v : Value} {n : Nat} {xs : List Value} (h : Gro w1 W e sz v n xs) (k : Kept (fun _ => False) w0 w1) : Gro w0 W e sz v n xs := by
  refine ⟨⟨h.own.1, ?_⟩, k.trans h.kept (fun _ f => f.elim)⟩
  rcases h.own.2 with q | ⟨g, cap, cur, e1, hg, r⟩
  · exact .inl q
  · exact .inr ⟨g, cap, cur, e1, Nat.le_trans k.size hg, r⟩
theorem apa_new {w0 W W' : World} {e e' : TypeId} {sz sz' : Nat} {u v : Value} {m n : Nat} {ys xs : List Value} (h : Gro w0 W e sz u m ys) (g : Gro W W' e' sz' v n xs) : Apa v u := fun k hk hu => by
  have := (g.own.lt k hk).1
  have := (h.own.lt k hu).2
  omega
theorem gro_ints {w0 W : World} {a : Option Addr} {n c : Nat} {xs : List Int} (h : Gro w0 W 3 1 (.slice a n c) n (is xs)) : IntsAt W a xs ∧ n = xs.length := by
  have hn : n = xs.length := by have := h.own.1; rw [is_length] at this; omega
  rcases h.own.2 with ⟨e1, e2⟩ | ⟨g, cap, cur, e1, hg, hh, hnc, _⟩
  · simp only [Value.slice.injEq] at e1
    obtain ⟨rfl, rfl, rfl⟩ := e1
    exact ⟨fun hne => absurd (List.eq_nil_of_length_eq_zero hn.symm) hne, hn⟩
  · simp only [Value.slice.injEq] at e1
    obtain ⟨rfl, _, rfl⟩ := e1
    refine ⟨fun _ => ⟨g, 0, rfl, fun k hk => ?_⟩, hn⟩
    have q0 := h.own.cells (g := g) rfl k (.int .i64 (xs[k]?.getD 0)) (by unfold is; rw [List.getElem?_map, List.getElem?_eq_getElem hk]; simp)
    have hp : (⟨g, 0, none⟩ : Addr).add k = ⟨g, k, none⟩ := by unfold Addr.add; split <;> simp_all
    rw [hp] at q0
    rw [Nat.zero_add]
    exact q0
/-- Three lists that grow side by side. -/
structure Tri (w0 W : World) (v5 v6 v7 : Value) (X Y Z : List Int) : Prop where
  g5 : Gro w0 W 3 1 v5 X.length (is X)
  g6 : Gro w0 W 3 1 v6 Y.length (is Y)
  g7 : Gro w0 W 5 1 v7 Z.length (bs Z)
  a56 : Apa v5 v6
  a57 : Apa v5 v7
  a67 : Apa v6 v7
theorem Tri.later {w0 W W' : World} {v5 v6 v7 : Value} {X Y Z : List Int} (h : Tri w0 W v5 v6 v7 X Y Z) (k : Kept (fun _ => False) W W') : Tri w0 W' v5 v6 v7 X Y Z := ⟨h.g5.later k, h.g6.later k, h.g7.later k, h.a56, h.a57, h.a67⟩
theorem Tri.push5 {w0 W W' : World} {v5 v6 v7 v : Value} {X Y Z X' : List Int} (h : Tri w0 W v5 v6 v7 X Y Z) (g : Gro w0 W' 3 1 v X'.length (is X')) (s : GStep W W' v5 v) : Tri w0 W' v v6 v7 X' Y Z :=
  ⟨g, (h.g6.other h.g5 s h.a56).1, (h.g7.other h.g5 s h.a57).1, (h.g6.other h.g5 s h.a56).2, (h.g7.other h.g5 s h.a57).2, h.a67⟩
theorem Tri.push6 {w0 W W' : World} {v5 v6 v7 v : Value} {X Y Z X' : List Int} (h : Tri w0 W v5 v6 v7 X Y Z) (g : Gro w0 W' 3 1 v X'.length (is X')) (s : GStep W W' v6 v) : Tri w0 W' v5 v v7 X X' Z :=
  ⟨(h.g5.other h.g6 s h.a56.symm).1, g, (h.g7.other h.g6 s h.a67).1, (h.g5.other h.g6 s h.a56.symm).2.symm, h.a57, (h.g7.other h.g6 s h.a67).2⟩
theorem Tri.push7 {w0 W W' : World} {v5 v6 v7 v : Value} {X Y Z X' : List Int} (h : Tri w0 W v5 v6 v7 X Y Z) (g : Gro w0 W' 5 1 v X'.length (bs X')) (s : GStep W W' v7 v) : Tri w0 W' v5 v6 v X Y X' :=
  ⟨(h.g5.other h.g7 s h.a57.symm).1, (h.g6.other h.g7 s h.a67.symm).1, g, h.a56, (h.g5.other h.g7 s h.a57.symm).2.symm, (h.g6.other h.g7 s h.a67.symm).2.symm⟩
theorem Tri.start (w : World) : Tri w (((w.alloc (.cells #[] 3)).alloc (.cells #[] 3)).alloc (.cells #[] 5)) (.slice (some ⟨w.heap.size, 0, none⟩) 0 0) (.slice (some ⟨w.heap.size + 1, 0, none⟩) 0 0) (.slice (some ⟨w.heap.size + 1 + 1, 0, none⟩) 0 0) [] [] [] := by
  have k1 := Kept.alloc w (.cells #[] 3)
  have k2 := Kept.alloc (w.alloc (.cells #[] 3)) (.cells #[] 3)
  have k3 := Kept.alloc ((w.alloc (.cells #[] 3)).alloc (.cells #[] 3)) (.cells #[] 5)
  have e1 : (w.alloc (.cells #[] 3)).heap.size = w.heap.size + 1 := by simp
  have e2 : ((w.alloc (.cells #[] 3)).alloc (.cells #[] 3)).heap.size = w.heap.size + 1 + 1 := by simp
  have g5 := ((gro_empty w w 3 1 (Kept.refl _ _)).later k2).later k3
  have g6 := (gro_empty w (w.alloc (.cells #[] 3)) 3 1 k1).later k3
  have g7 := gro_empty w ((w.alloc (.cells #[] 3)).alloc (.cells #[] 3)) 5 1 (k1.trans k2 (fun _ f => f.elim))
  rw [e1] at g6
  rw [e2] at g7
  refine ⟨g5, g6, g7, ?_, ?_, ?_⟩ <;> (intro k hk he; simp [Value.ownBlock] at hk he; omega)
theorem gps_snoc (b : Int) (F : List Po) (p : Po) : gps b (F ++ [p]) = gps b F ++ [p.d - 1 - lastd b F] := by rw [gps_append]; rfl
theorem mos_snoc (F : List Po) (p : Po) : mos (F ++ [p]) = mos F ++ [(p.ps.length : Int) - 1] := by rw [mos_append]; rfl
theorem psb_snoc (F : List Po) (p : Po) : psb (F ++ [p]) = psb F ++ risb p.ps 0 := by rw [psb_append]; simp [psb]
theorem lastd_snoc (b : Int) (F : List Po) (p : Po) : lastd b (F ++ [p]) = p.d := by rw [lastd_append]; rfl
set_option maxRecDepth 20000 in
set_option maxHeartbeats 4000000 in
theorem dblk_any (F : List Pg) (a : Option Addr) (c : Nat) (b : Int) (w : World) (hP : PsAt w a F) (hg : gdl b (pol F)) (hb : -1 ≤ b) (hne : F ≠ []) (hl : F.length ≤ 16) (ht : tot (pol F) ≤ 1099511627776) :
    Calls Tryd.prog 42 #[.slice a F.length c, .int .i64 b] w fun e w' => ∃ g c', e = .returned (.slice (some ⟨g, 0, none⟩) (blk b (pol F)).length c') ∧ Gro w w' 5 1 (.slice (some ⟨g, 0, none⟩) (blk b (pol F)).length c') (blk b (pol F)).length (bs (blk b (pol F))) := by
  have HP := hideP hP
  have HGd := hideP hg
  have HTt := hideP ht
  have HT0 := hideP (Tri.start w)
  have hg1 := gps_ints hg hb
  have hm1 := mos_intsG hg
  have HG1 := hideP hg1
  have HM1 := hideP hm1
  have hne' : pol F ≠ [] := by intro e; apply hne; exact List.eq_nil_of_length_eq_zero (by rw [← pol_len, e]; rfl)
  have hpb : 0 < (psb (pol F)).length := by
    have h1 := tot_psb (pol F)
    have h2 := len_tot hg
    have := List.length_pos_iff.2 hne'
    omega
  have hb2 : b ≤ 2147483646 := by have := (gdl_last _ _ hg).2 hne'; omega
  have hpl := psb_le (F := pol F) (fun p hp => (gdl_pos hg p hp).2)
  have hn1 : 0 < F.length := List.length_pos_iff.2 hne
  obtain ⟨n, hn⟩ : ∃ n, n = F.length := ⟨_, rfl⟩
  rw [← hn] at hl hn1 ⊢
  have HN := hideP hn
  clear hP hg ht hn hg1 hm1 hne hne'
  go_enter Tryd.func42, Tryd.ntmps42
  go_wp2
  go_loopw [1, 5, 6, 7, 22] (fun v1 v5 v6 v7 v22 wr => ∃ (j : Nat) (z : Int) (u5 u6 u7 : Value) (Z : List Int), j ≤ n ∧ -1 ≤ z ∧ z ≤ 2147483646 ∧ v22 = .int .i64 j ∧ v1 = .int .i64 z ∧ v5 = u5 ∧ v6 = u6 ∧ v7 = u7 ∧ Hid (z = lastd b (pol (F.take j))) ∧ Hid (Z = psb (pol (F.take j))) ∧ Hid (Tri w wr u5 u6 u7 (gps b (pol (F.take j))) (mos (pol (F.take j))) Z)) (fun _ _ _ _ v22 _ => n - (intOf v22).toNat)
  case atStart =>
    exact ⟨0, b, _, _, _, [], by omega, hb, hb2, rfl, rfl, rfl, rfl, rfl, hideP rfl, hideP rfl, HT0⟩
  case round =>
    obtain ⟨j, z, u5, u6, u7, Z, hj, hz1, hz2, rfl, rfl, rfl, rfl, rfl, HZl, HZ, HT⟩ := hrel
    clear HT0
    by_cases hlt : j < n
    · have hjj : (j : Int) < (n : Int) := by omega
      have hjl : j < F.length := by rw [← HN.out]; exact hlt
      obtain ⟨bl, off, rfl, hc⟩ := (HP.out.kept HT.out.g5.kept) (by intro e; rw [e] at hjl; simp at hjl)
      obtain ⟨x0, x1, -⟩ := hc j hjl
      have HIn : Hid (∀ W, Kept (fun _ => False) w W → IntsAt W F[j].a F[j].ps) := hideP (fun W k => by
        obtain ⟨_, _, _, hc2⟩ := (HP.out.kept k) (by intro e; rw [e] at hjl; simp at hjl)
        exact (hc2 j hjl).2.2)
      have hstep := pol_step hjl
      have hgd1 : Gd1 z ⟨F[j].d, F[j].ps⟩ := by
        have h1 := gdl_take HGd.out (j + 1)
        rw [← pol_take, hstep, gdl_append] at h1
        have h2 := h1.2.1
        rw [← HZl.out] at h2
        exact h2
      have HS : Hid (pol (F.take (j + 1)) = pol (F.take j) ++ [⟨F[j].d, F[j].ps⟩]) := hideP hstep
      have hZ10 : Z.length ≤ 10 * tot (pol (F.take j)) := by
        rw [HZ.out]
        exact psb_le (fun p hp => by
          rw [pol_take] at hp
          exact (gdl_pos HGd.out p (List.mem_of_mem_take hp)).2)
      have hTj : tot (pol (F.take j)) + F[j].ps.length ≤ tot (pol F) := by
        have h1 := tot_take_le (pol F) (j + 1)
        rw [← pol_take, hstep, tot_append] at h1
        simp only [tot] at h1
        omega
      have hTm := HTt.out
      have hXl : (gps b (pol (F.take j))).length = j := by rw [gps_length, pol_len, List.length_take]; omega
      have hYl : (mos (pol (F.take j))).length = j := by rw [mos_length, pol_len, List.length_take]; omega
      clear hc hstep
      generalize F[j] = en at *
      obtain ⟨d, pa, pc, ps⟩ := en
      simp only at x0 x1 HIn hgd1 HS hTj
      have hd0 := hgd1.lo
      have hd1 := hgd1.hi
      have hdz := hgd1.up
      have hpn0 : 0 < ps.length := List.length_pos_iff.2 hgd1.ne
      have HRi := hideP hgd1.ri
      simp only at hd0 hd1 hdz
      obtain ⟨X, hX⟩ : ∃ X, X = gps b (pol (F.take j)) := ⟨_, rfl⟩
      obtain ⟨Y, hY⟩ : ∃ Y, Y = mos (pol (F.take j)) := ⟨_, rfl⟩
      rw [← hX] at HT hXl
      rw [← hY] at HT hYl
      have HX := hideP hX
      have HY := hideP hY
      obtain ⟨pn, hpn⟩ : ∃ pn, pn = ps.length := ⟨_, rfl⟩
      rw [← hpn] at x1 hTj hpn0
      have HPn := hideP hpn
      obtain ⟨gq, hgq⟩ : ∃ gq : Int, gq = d - z - 1 := ⟨_, rfl⟩
      have hgq2 : d - z - 1 = gq := hgq.symm
      obtain ⟨pm, hpm⟩ : ∃ pm : Nat, pn = pm + 1 := ⟨pn - 1, by omega⟩
      have hpm2 : (pn : Int) - 1 = (pm : Int) := by omega
      have HGq := hideP hgq
      have HPm := hideP hpm
      have kA := Kept.alloc wr (.cells #[.int .i64 d, .slice pa pn pc] 53)
      have HGA := hideP (heap_alloc_new wr (.cells #[.int .i64 d, .slice pa pn pc] 53))
      have HTA := hideP (HT.out.later kA)
      have hgr : -1 ≤ gq ∧ gq ≤ 2147483647 := by omega
      have hno5 : ¬ u5.ownBlock = some wr.heap.size := fun e => by have := (HT.out.g5.own.lt _ e).2; omega
      have hno6 : ¬ u6.ownBlock = some wr.heap.size := fun e => by have := (HT.out.g6.own.lt _ e).2; omega
      have HN5 := hideP hno5
      have HN6 := hideP hno6
      clear hX hY hpn hgd1 hgq hpm kA hno5 hno6
      go_wp2_with (at_builtin; refine StpQ.go ?_)
      refine ⟨?_⟩
      refine wpList_pushN rfl (.tmp 26) (.tmp 32) rfl _ X.length X gq rfl (hideP HTA.out.g5) _ (by simp) rfl (by omega) ?_
      intro g7 c7 W7 HG7 HS7
      have HT7 := hideP (HTA.out.push5 (X' := X ++ [gq]) (by rw [List.length_append]; exact HG7.out) HS7.out)
      have HGA7 := hideP (HS7.out.kept.heap HGA.out HN5.out)
      have y0 : W7.cell? ⟨wr.heap.size, 0, none⟩ = some (.int .i64 d) := by rw [cell_of_row _ _ _ _ _ _ HGA7.out]; rfl
      have y1 : W7.cell? ⟨wr.heap.size, 1, none⟩ = some (.slice pa pn pc) := by rw [cell_of_row _ _ _ _ _ _ HGA7.out]; rfl
      clear HG7 HS7 HTA HGA x0 x1
      go_wp2_with (at_builtin; refine StpQ.go ?_)
      refine ⟨?_⟩
      refine wpList_pushN rfl (.tmp 34) (.tmp 39) rfl _ Y.length Y (pm : Int) rfl (hideP HT7.out.g6) _ rfl rfl (by omega) ?_
      intro g8 c8 W8 HG8 HS8
      have HT8 := hideP (HT7.out.push6 (X' := Y ++ [(pm : Int)]) (by rw [List.length_append]; exact HG8.out) HS8.out)
      have HGA8 := hideP (HS8.out.kept.heap HGA7.out HN6.out)
      have y0 : W8.cell? ⟨wr.heap.size, 0, none⟩ = some (.int .i64 d) := by rw [cell_of_row _ _ _ _ _ _ HGA8.out]; rfl
      have y1 : W8.cell? ⟨wr.heap.size, 1, none⟩ = some (.slice pa pn pc) := by rw [cell_of_row _ _ _ _ _ _ HGA8.out]; rfl
      clear HG8 HS8 HT7 HGA7
      go_wp2
      go_loopw [7, 10, 46] (fun v7 v10 v46 wr2 => ∃ (i : Nat) (q : Int) (t7 : Value) (Z2 : List Int), i ≤ pn ∧ -1 ≤ q ∧ v46 = .int .i64 i ∧ v10 = .int .i64 q ∧ v7 = t7 ∧ Hid (q = (nxt (ps.take i) 0 : Int) - 1) ∧ Hid (Z2 = Z ++ risb (ps.take i) 0) ∧ Hid (Tri w wr2 (.slice (some ⟨g7, 0, none⟩) (X.length + 1) c7) (.slice (some ⟨g8, 0, none⟩) (Y.length + 1) c8) t7 (X ++ [gq]) (Y ++ [(pm : Int)]) Z2)) (fun _ _ v46 _ => pn - (intOf v46).toNat)
      case atStart => exact ⟨0, -1, _, Z, by omega, by omega, rfl, rfl, rfl, hideP rfl, hideP (by simp [risb]), HT8⟩
      case round =>
        obtain ⟨i, q, t7, Z2, hi, hq1, rfl, rfl, rfl, HQ, HZ2, HT9⟩ := hrel
        clear HT8 y0 y1 HGA8
        by_cases hli : i < pn
        · have hii : (i : Int) < (pn : Int) := by omega
          have hil : i < ps.length := by rw [← HPn.out]; exact hli
          obtain ⟨ib, io, rfl, hc⟩ := (HIn.out wr HT9.out.g5.kept).get (k := i) hil
          have hx := HRi.out.mem (ps[i]?.getD 0) (by rw [List.getElem?_eq_getElem hil]; exact List.getElem_mem hil)
          have hnx : (nxt (ps.take i) 0 : Int) ≤ ps[i]?.getD 0 := by
            rw [List.getElem?_eq_getElem hil]
            exact nxt_le (fun y hy => (HRi.out.mem y hy).1) HRi.out.rise hil
          have HZ3 : Hid (Z ++ risb (ps.take (i + 1)) 0 = Z2 ++ uvb ((ps[i]?.getD 0).toNat - nxt (ps.take i) 0)) := hideP (by
            rw [List.take_add_one, List.getElem?_eq_getElem hil]
            simp only [Option.toList_some, Option.getD_some]
            rw [risb_snoc, HZ2.out, List.append_assoc])
          have HQ3 : Hid (((nxt (ps.take (i + 1)) 0 : Nat) : Int) - 1 = ((ps[i]?.getD 0).toNat : Int)) := hideP (by
            rw [List.take_add_one, List.getElem?_eq_getElem hil]
            simp only [Option.toList_some, Option.getD_some]
            rw [nxt_snoc]
            omega)
          have hrl : (risb (ps.take i) 0).length ≤ 10 * i := by
            have := risb_length (ps.take i) 0 (fun y hy => (HRi.out.mem y (List.mem_of_mem_take hy)).2)
            rw [List.length_take] at this
            omega
          have hZl : Z2.length ≤ 10995116300000 := by
            rw [HZ2.out, List.length_append]
            omega
          have hqx := HQ.out
          generalize ps[i]?.getD 0 = x at *
          obtain ⟨m, hm⟩ : ∃ m : Nat, m = x.toNat - nxt (ps.take i) 0 := ⟨_, rfl⟩
          rw [← hm] at HZ3
          have hm63 : m < 9223372036854775808 := by omega
          have HMx : Hid (wrap64 (wrap64 (x - q) - 1) = (m : Int)) := hideP (by unfold wrap64; omega)
          have HQ4 : Hid (x = ((nxt (ps.take (i + 1)) 0 : Nat) : Int) - 1) := hideP (by rw [HQ3.out]; omega)
          have CN := hideP (dnum_any m wr hm63)
          have hu10 := uvb_le10P m (by omega)
          have hu1 := uvb_pos m
          obtain ⟨U, hU⟩ : ∃ U, U = uvb m := ⟨_, rfl⟩
          rw [← hU] at CN HZ3 hu10 hu1
          clear hm hqx hU hnx hrl
          have hmx := HMx.out
          go_wp2_with (first
            | (go_at_call 43; refine CN.out.mono ?_; clear CN; rintro e W9 ⟨g9, c9, rfl, hG9⟩; have HT10 := hideP (HT9.out.later hG9.kept); have HB9 := hideP (gro_bytes hG9).1; clear hG9)
            | (at_builtin; refine StpQ.go ?_))
          clear hmx
          refine ⟨?_⟩
          refine wpList_catB rfl (.tmp 50) (.tmp 55) rfl _ Z2.length Z2 U rfl (hideP HT10.out.g7) (some ⟨g9, 0, none⟩) U.length c9 rfl rfl HB9 (by omega) (by omega) ?_
          intro g11 c11 W11 HG11 HS11
          have HT11 := hideP (HT10.out.push7 (X' := Z2 ++ U) (by rw [List.length_append]; exact HG11.out) HS11.out)
          clear HG11 HS11 HT10 HB9 HT9
          go_wp2
          go_roundw
          case rel => exact ⟨i + 1, x, _, Z2 ++ U, by omega, by omega, by go_num, rfl, rfl, HQ4, hideP HZ3.out.symm, HT11⟩
          case measure => simp [intOf]; omega
        · have hii : ¬ (i : Int) < (pn : Int) := by omega
          have hTf : Tri w wr (.slice (some ⟨g7, 0, none⟩) (j + 1) c7) (.slice (some ⟨g8, 0, none⟩) (j + 1) c8) u7 (gps b (pol (F.take (j + 1)))) (mos (pol (F.take (j + 1)))) Z2 := by
            have h := HT9.out
            rw [hXl, hYl] at h
            rw [HS.out, gps_snoc, mos_snoc, ← HX.out, ← HY.out, ← HZl.out]
            simp only
            rw [show d - 1 - z = gq by rw [HGq.out]; omega, show (ps.length : Int) - 1 = (pm : Int) by rw [← HPn.out]; omega]
            exact h
          have HTf := hideP hTf
          have HZf : Hid (Z2 = psb (pol (F.take (j + 1)))) := hideP (by
            rw [HS.out, psb_snoc, ← HZ.out, HZ2.out, List.take_of_length_le (by have := HPn.out; omega)])
          have HLf : Hid (d = lastd b (pol (F.take (j + 1)))) := hideP (by rw [HS.out, lastd_snoc])
          clear hTf
          go_wp2
          go_roundw
          case rel => exact ⟨j + 1, d, _, _, _, Z2, by omega, by omega, by omega, by go_num, rfl, rfl, rfl, rfl, HLf, HZf, HTf⟩
          case measure => simp [intOf]; omega
    · have hjj : ¬ (j : Int) < (n : Int) := by omega
      have hall : F.take j = F := List.take_of_length_le (by have := HN.out; omega)
      rw [hall] at HT HZ
      have HZ0 := hideP HZ.out
      obtain ⟨X, hX⟩ : ∃ X, X = gps b (pol F) := ⟨_, rfl⟩
      obtain ⟨Y, hY⟩ : ∃ Y, Y = mos (pol F) := ⟨_, rfl⟩
      have hXl : X.length = n := by rw [hX, gps_length, pol_len, HN.out]
      have hYl : Y.length = n := by rw [hY, mos_length, pol_len, HN.out]
      have HB : Hid (blk b (pol F) = (packed X ++ packed Y) ++ Z) := hideP (by rw [hX, hY, HZ.out]; rfl)
      rw [← hX, ← hY] at HT
      rw [← hX] at HG1
      rw [← hY] at HM1
      rw [← HZ.out] at hpb hpl
      have hZ40 : Z.length ≤ 10995116277760 := by have := HTt.out; omega
      obtain ⟨a5, c5, h5⟩ := HT.out.g5.shape
      obtain ⟨a6, c6, h6⟩ := HT.out.g6.shape
      obtain ⟨a7, c7, h7⟩ := HT.out.g7.shape
      subst h5 h6 h7
      have CP5 := dpk_any X a5 c5 wr (gro_ints HT.out.g5).1 (fun x hx => (HG1.out x hx).1) (fun x hx => by have := HG1.out x hx; omega) (by omega) (by intro e; rw [e] at hXl; simp at hXl; omega)
      have CP6 : Hid (∀ W, Kept (fun _ => False) wr W → Calls Tryd.prog 56 #[.slice a6 Y.length c6] W fun e w' => ∃ g c', e = .returned (.tuple #[.slice (some ⟨g, 0, none⟩) (packed Y).length c', .int .i64 0]) ∧ Gro W w' 5 1 (.slice (some ⟨g, 0, none⟩) (packed Y).length c') (packed Y).length (bs (packed Y))) := hideP (fun W k =>
        dpk_any Y a6 c6 W ((gro_ints HT.out.g6).1.kept k) (fun x hx => (HM1.out x hx).1) (fun x hx => by have := HM1.out x hx; omega) (by omega) (by intro e; rw [e] at hYl; simp at hYl; omega))
      have hp5 : (packed X).length ≤ 1000 := by
        have h1 := orl_bits X (fun x hx => (HG1.out x hx).1) (fun x hx => by have := HG1.out x hx; omega)
        have h2 := packed_length X
        have h3 := uvb_le10P X.length (by omega)
        rw [uvb_length] at h3
        have h4 : X.length * bitLen (orl X) ≤ 16 * 63 := Nat.mul_le_mul (by omega) h1
        split at h2 <;> omega
      have hp6 : (packed Y).length ≤ 1000 ∧ 0 < (packed Y).length := by
        have h1 := orl_bits Y (fun x hx => (HM1.out x hx).1) (fun x hx => by have := HM1.out x hx; omega)
        have h2 := packed_length Y
        have h3 := uvb_le10P Y.length (by omega)
        have h5 := uvb_pos Y.length
        rw [uvb_length] at h3 h5
        have h4 : Y.length * bitLen (orl Y) ≤ 16 * 63 := Nat.mul_le_mul (by omega) h1
        split at h2 <;> omega
      obtain ⟨PX, hPX⟩ : ∃ PX, PX = packed X := ⟨_, rfl⟩
      obtain ⟨PY, hPY⟩ : ∃ PY, PY = packed Y := ⟨_, rfl⟩
      rw [← hPX] at CP5 HB hp5
      rw [← hPY] at CP6 HB hp6
      rw [hXl] at CP5
      rw [hYl] at CP6
      have hT2 := HT.out
      rw [hXl, hYl] at hT2 ⊢
      have HCP5 := hideP CP5
      clear CP5 HG1 HM1 hX hY hPX hPY hall hT2
      go_wp2_with (first
        | (go_at_call 56; refine HCP5.out.mono ?_; clear HCP5; rintro e W9 ⟨g9, c9, rfl, hG9⟩; have HG9 := hideP hG9; have CP6b := hideP (CP6.out W9 hG9.kept); clear hG9 CP6)
        | (go_at_call 56; refine CP6b.out.mono ?_; clear CP6b; rintro e W10 ⟨g10, c10, rfl, hG10⟩; have HG10 := hideP hG10; clear hG10)
        | (at_builtin; refine StpQ.go ?_))
      refine ⟨?_⟩
      have HG9b := hideP ((HG9.out.later HG10.out.kept).base HT.out.g7.kept)
      have HA7 := hideP (apa_new HT.out.g7 HG9.out)
      have H7b := hideP ((HT.out.g7.later HG9.out.kept).later HG10.out.kept)
      have HB10 := hideP (gro_bytes HG10.out).1
      refine wpList_catB rfl (.tmp 70) (.tmp 71) rfl _ PX.length PX PY rfl HG9b (some ⟨g10, 0, none⟩) PY.length c10 rfl rfl HB10 hp6.2 (by omega) ?_
      intro g12 c12 W12 HG12 HS12
      have HB7 := hideP (gro_bytes (H7b.out.other HG9b.out HS12.out HA7.out).1).1
      go_wp2_with (at_builtin; refine StpQ.go ?_)
      refine ⟨?_⟩
      refine wpList_catB rfl (.tmp 73) (.tmp 74) rfl _ (PX.length + PY.length) (PX ++ PY) Z rfl HG12 a7 Z.length c7 rfl rfl HB7 hpb (by omega) ?_
      intro g13 c13 W13 HG13 HS13
      go_wp2
      go_ret
      rw [HB.out, List.length_append, List.length_append]
      exact ⟨g13, c13, rfl, HG13.out⟩
end Go.Proofs.YtiiokafjfapnpaaDoor
namespace Go.Proofs.YtiiokafjfapnpaaDoor
open Go.ChangeShapes Go.WideShapes Go.ChangeAt Go.RowKit

theorem wpList_pushK {w0 W : World} {ops : Array Oper} {rest : List Oper} {o : Oper} {act : Act} {Q : Exit → Act → World → Prop} (hgd : o.guard = none) (s x : Operand)
    (ho : o.op = .call { callee := .builtin .append, args := #[s, x], argTypes := #[37, 37] }) (v : Value) (n : Nat) (xs : List Value) (e1 e2 e3 e4 : Int) (hs : act.eval s = v) (hG : Hid (Gro w0 W 45 4 v n xs)) (b : Nat) (hbb : b = W.heap.size) (hx : act.eval x = .slice (some ⟨b, 0, none⟩) 1 1) (hb : n ≤ 1099511627776)
    (h : ∀ g c' W', Hid (Gro w0 W' 45 4 (.slice (some ⟨g, 0, none⟩) (n + 1) c') (n + 1) (xs ++ [.int .i64 e1, .int .i64 e2, .int .i64 e3, .int .i64 e4])) → Hid (GStep W W' v (.slice (some ⟨g, 0, none⟩) (n + 1) c')) → wpList Tryd.prog ops Q rest (act.put o.dst (.slice (some ⟨g, 0, none⟩) (n + 1) c')) W') : wpList Tryd.prog ops Q (o :: rest) act (W.alloc (.cells #[.int .i64 e1, .int .i64 e2, .int .i64 e3, .int .i64 e4] 45)) := by
  subst hbb
  obtain ⟨i0, hi, hz0, hz1, hz2⟩ := info_partsP Tryd.infoSk
  refine wpList_catX hgd s x 37 ho 45 i0 (.agg #[.int .i64 0, .int .i64 0, .int .i64 0, .int .i64 0]) 4 32 Tryd.underlying37 hi hz0 hz1 hz2 rfl (by decide) v n xs [.int .i64 e1, .int .i64 e2, .int .i64 e3, .int .i64 e4] hs (hideP (hG.out.later (Kept.alloc W _))) ⟨W.heap.size, 0, none⟩ 1 1 hx rfl (row_news W [.int .i64 e1, .int .i64 e2, .int .i64 e3, .int .i64 e4] 45) (by intro u hu; simp at hu; rcases hu with rfl | rfl | rfl | rfl <;> rfl) (by decide) (by omega) (by unfold maxLen; omega) ?_
  intro g c' W' hG2 hS
  exact h g c' W' hG2 (hideP (GStep.ahead (Kept.alloc W _) hS.out))
theorem gro_skips {w0 W : World} {a : Option Addr} {n c : Nat} {S : List Sk} (h : Gro w0 W 45 4 (.slice a n c) n (scs 0 S)) : SkAt W a S 0 ∧ n = S.length := by
  have hn : n = S.length := by have := h.own.1; rw [scs_length] at this; omega
  refine ⟨fun hne => ?_, hn⟩
  have h0 : 0 < n := by rw [hn]; exact List.length_pos_iff.2 hne
  obtain ⟨g, rfl, _, hc⟩ := h.cell h0
  refine ⟨g, 0, rfl, fun k hk => ?_⟩
  simp only [Nat.zero_add]
  have q := fun j hj => hc (k * 4 + j) _ (by rw [scs_at S 0 k j hk hj]; exact List.getElem?_eq_getElem (by simpa using hj))
  have q0 := q 0 (by decide)
  have q1 := q 1 (by decide)
  have q2 := q 2 (by decide)
  have q3 := q 3 (by decide)
  simp only [List.getElem_cons_zero, List.getElem_cons_succ, Nat.zero_add, Nat.add_zero] at q0 q1 q2 q3
  exact ⟨q0, q1, q2, q3⟩
theorem skl_next : ∀ (k : Nat) (L : List Po) (b : Int), skl b (chp (k + 1) L) = skl b (chp k L) ++ [⟨bbN b L (k + 1), (blN L k).length, (blk (bbN b L k) (blN L k)).length⟩]
  | 0, L, b => by
    rw [bbN_succ, bbN_zero]
    simp [chp, skl, blN]
  | k + 1, L, b => by
    rw [chp, skl, skl_next k (L.drop 16), chp, skl, List.cons_append, bbN_step b L (k + 1), bbN_step b L k, blN_step]
/-- What skips leaves. -/
def skPost (P : List Po) (w : World) (e : Ending) (w' : World) : Prop := ∃ (a4 a5 : Option Addr) (c4 c5 : Nat), e = .returned (.tuple #[.slice a4 (nbp P.length) c4, .slice a5 (bkb (-1) (chp (nbp P.length) P)).length c5]) ∧ Gro w w' 45 4 (.slice a4 (nbp P.length) c4) (nbp P.length) (scs 0 (skl (-1) (chp (nbp P.length) P))) ∧ Gro w w' 5 1 (.slice a5 (bkb (-1) (chp (nbp P.length) P)).length c5) (bkb (-1) (chp (nbp P.length) P)).length (bs (bkb (-1) (chp (nbp P.length) P))) ∧ Apa (.slice a4 (nbp P.length) c4) (.slice a5 (bkb (-1) (chp (nbp P.length) P)).length c5)
theorem pol_cut {L : List Pg} {P : List Po} {k f : Nat} (hP : P = pol L) (hf : f = (blN P k).length) : pol ((L.drop (16 * k)).take f) = blN P k := by
  have h1 := blN_len P k
  rw [hP] at hf h1 ⊢
  rw [hf, h1]
  unfold blN
  simp only [pol, List.map_take, List.map_drop, List.length_map]
  apply List.ext_getElem?
  intro i
  rw [List.getElem?_take, List.getElem?_take]
  by_cases hi : i < 16
  · rw [if_pos hi]
    by_cases hi2 : i < min 16 (L.length - 16 * k)
    · rw [if_pos hi2]
    · rw [if_neg hi2, List.getElem?_eq_none (by rw [List.length_drop, List.length_map]; omega)]
  · rw [if_neg hi, if_neg (by omega)]
set_option maxRecDepth 20000 in
set_option maxHeartbeats 4000000 in
theorem dskips_any (L : List Pg) (a : Option Addr) (c : Nat) (w : World) (hP : PsAt w a L) (hg : gdl (-1) (pol L)) (hl : L.length ≤ 1048576) (hlc : L.length ≤ c) (ht : tot (pol L) ≤ 1048576) :
    Calls Tryd.prog 22 #[.slice a L.length c] w (skPost (pol L) w) := by
  obtain ⟨P, hPe⟩ : ∃ P, P = pol L := ⟨_, rfl⟩
  rw [← hPe] at hg ht ⊢
  have HP := hideP hP
  have HPe := hideP hPe
  have HGd := hideP hg
  have HTt := hideP ht
  have k1 := Kept.alloc w (.cells #[] 45)
  have g4 := (gro_empty w w 45 4 (Kept.refl _ _)).later (Kept.alloc (w.alloc (.cells #[] 45)) (.cells #[] 5))
  have g5 := gro_empty w (w.alloc (.cells #[] 45)) 5 1 k1
  rw [show (w.alloc (.cells #[] 45)).heap.size = w.heap.size + 1 by simp] at g5
  have HA0 : Hid (Apa (.slice (some ⟨w.heap.size, 0, none⟩) 0 0) (.slice (some ⟨w.heap.size + 1, 0, none⟩) 0 0)) := hideP (by intro k hk he; simp [Value.ownBlock] at hk he; omega)
  have HG4 := hideP g4
  have HG5 := hideP g5
  have hPn : P.length = L.length := by rw [hPe, pol_len]
  obtain ⟨n, hn⟩ : ∃ n, n = L.length := ⟨_, rfl⟩
  rw [← hn] at hl hlc hPn ⊢
  have HN := hideP hn
  have HPn := hideP hPn
  unfold skPost
  rw [hPn]
  obtain ⟨m, hm⟩ : ∃ m, m = nbp n := ⟨_, rfl⟩
  rw [← hm]
  have HM := hideP hm
  have hm1 : m ≤ 65536 := by rw [hm]; unfold nbp; omega
  have HBl : Hid (∀ k, k ≤ m → (bkb (-1) (chp k P)).length ≤ 100000000) := hideP (fun k hk => by
    have := (bkb_le (m := k) HGd.out (by omega) (by have := HTt.out; omega)).1
    have := HTt.out
    omega)
  clear hP hg ht k1 g4 g5 hn hPn hm hPe
  go_enter Tryd.func22, Tryd.ntmps22
  go_wp2
  go_loopw [4, 5, 6, 7] (fun v4 v5 v6 v7 wr => ∃ (k x7 : Nat) (z : Int) (u4 u5 : Value) (Z : List Int), k ≤ m ∧ v7 = .int .i64 x7 ∧ v6 = .int .i64 z ∧ v4 = u4 ∧ v5 = u5 ∧ Hid (x7 = 16 * k) ∧ Hid (z = bbN (-1) P k) ∧ Hid (Z = bkb (-1) (chp k P)) ∧ Hid (Gro w wr 45 4 u4 k (scs 0 (skl (-1) (chp k P)))) ∧ Hid (Gro w wr 5 1 u5 Z.length (bs Z)) ∧ Hid (Apa u4 u5)) (fun _ _ _ v7 _ => 16 * m - (intOf v7).toNat)
  case atStart => exact ⟨0, 0, -1, _, _, [], by omega, rfl, rfl, rfl, rfl, hideP rfl, hideP (bbN_zero _ _).symm, hideP rfl, HG4, HG5, HA0⟩
  case round =>
    obtain ⟨k, x7, z, u4, u5, Z, hk, rfl, rfl, rfl, rfl, HX7, HZ, HZb, HG4, HG5, HA⟩ := hrel
    obtain ⟨a4, c4, h4⟩ := HG4.out.shape
    obtain ⟨a5, c5, h5⟩ := HG5.out.shape
    subst h4 h5
    by_cases hlt : k < m
    · have h16 : 16 * k < n := by have := HM.out; unfold nbp at this; omega
      have hx7 : x7 < n := by rw [HX7.out]; exact h16
      have hjj : (x7 : Int) < (n : Int) := by omega
      obtain ⟨lb, lo, hla, hc⟩ := (HP.out.kept HG4.out.kept) (by intro e; have := HN.out; rw [e] at this; simp at this; omega)
      subst hla
      have hbl := blN_len P k
      rw [HPn.out] at hbl
      obtain ⟨f, hf⟩ : ∃ f, f = (blN P k).length := ⟨_, rfl⟩
      rw [← hf] at hbl
      have hf0 : 0 < f := by omega
      have hf16 : f ≤ 16 := by omega
      obtain ⟨to, hto⟩ : ∃ to, to = x7 + f := ⟨_, rfl⟩
      have hton : to ≤ n := by rw [hto, HX7.out]; omega
      have hmn : (to : Int) = if (n : Int) < (x7 : Int) + 16 then (n : Int) else (x7 : Int) + 16 := by
        have := HX7.out
        split <;> omega
      obtain ⟨t1, ht1⟩ : ∃ t1, to = t1 + 1 := ⟨to - 1, by omega⟩
      have hs1 : (to : Int) - 1 = (t1 : Int) := by omega
      have hs2 : (to : Int) - (x7 : Int) = (f : Int) := by omega
      have hs3 : to - x7 = f := by omega
      have h7t : (x7 : Int) ≤ (to : Int) := by omega
      have htc : (to : Int) ≤ (c : Int) := by omega
      have ht1n : (t1 : Int) < (n : Int) := by omega
      have hcut := pol_cut HPe.out hf
      have CB := dblk_any ((L.drop x7).take f) (some ⟨lb, lo + x7 * 2, none⟩) (c - x7) z wr ((HP.out.kept HG4.out.kept).cut x7 f) (by rw [HX7.out, hcut, HZ.out]; exact gdl_blN HGd.out k) (by rw [HZ.out]; exact (bbN_ge HGd.out k).1) (by intro e; have := congrArg List.length e; rw [List.length_take, List.length_drop] at this; simp at this; have := HN.out; omega) (by rw [List.length_take]; omega) (by
        rw [HX7.out, hcut]
        have h1 := tot_dropN' P k
        have := HTt.out
        omega)
      rw [show ((L.drop x7).take f).length = f by rw [List.length_take, List.length_drop]; have := HN.out; omega, HX7.out, hcut, HZ.out, ← HX7.out] at CB
      have hd1 : (L[t1]'(by have := HN.out; omega)).d = bbN (-1) P (k + 1) := by
        rw [bbN_succ, lastd_get (blN P k) _ (by rw [← hf]; omega)]
        have h2 := pol_get (L := (L.drop x7).take f) (k := f - 1) (by rw [List.length_take, List.length_drop]; have := HN.out; omega) (by rw [pol_len, List.length_take, List.length_drop]; have := HN.out; omega)
        have h3 : ∀ (A B : List Po) (i j : Nat) (hi : i < A.length) (hj : j < B.length), A = B → i = j → A[i].d = B[j].d := by
          intro A B i j hi hj e1 e2
          subst e1 e2
          rfl
        rw [h3 (blN P k) (pol ((L.drop x7).take f)) _ (f - 1) (by rw [← hf]; omega) (by rw [pol_len, List.length_take, List.length_drop]; have := HN.out; omega) (by rw [HX7.out, hcut]) (by rw [← hf]), h2]
        simp only [Pg.po, List.getElem_take, List.getElem_drop]
        congr 2
        omega
      have y0 := (hc t1 (by have := HN.out; omega)).1
      rw [hd1] at y0
      have HY : Hid (∀ W, Kept (fun _ => False) w W → W.cell? ⟨lb, lo + t1 * 2, none⟩ = some (.int .i64 (bbN (-1) P (k + 1)))) := hideP (fun W kw => by
        obtain ⟨lb', lo', e, hc2⟩ := (HP.out.kept kw) (by intro e; have := HN.out; rw [e] at this; simp at this; omega)
        cases e
        have := (hc2 t1 (by have := HN.out; omega)).1
        rw [hd1] at this
        exact this)
      have HF := hideP hf
      have HMn := hideP hmn
      obtain ⟨b1, hb1⟩ : ∃ b1, b1 = bbN (-1) P (k + 1) := ⟨_, rfl⟩
      rw [← hb1] at HY y0
      obtain ⟨BK, hBK⟩ : ∃ BK, BK = blk (bbN (-1) P k) (blN P k) := ⟨_, rfl⟩
      have hBKl : BK.length ≤ 100000000 ∧ 0 < BK.length := by
        have h1 := blk_le (gdl_blN HGd.out k) (bbN_ge HGd.out k).1 (by rw [← hf]; exact hf16)
        have h2 := tot_dropN' P k
        have h3 := HTt.out
        have h4 := blk_pos (gdl_blN HGd.out k) (by intro e; rw [e] at hf; simp at hf; omega)
        rw [hBK]
        omega
      have HZn : Hid (Z ++ BK = bkb (-1) (chp (k + 1) P)) := hideP (by rw [bkb_next, HZb.out, hBK])
      have HSn : Hid (scs 0 (skl (-1) (chp (k + 1) P)) = scs 0 (skl (-1) (chp k P)) ++ [.int .i64 b1, .int .i64 (f : Int), .int .i64 (Z.length : Int), .int .i64 (BK.length : Int)]) := hideP (by
        rw [skl_next, scs_snoc, szs_skl, Nat.zero_add, ← HZb.out, ← hb1, ← hBK, ← hf])
      have HB1 := hideP hb1
      rw [← HZ.out, show blk z (blN P k) = BK by rw [hBK, HZ.out]] at CB
      have hZl := HBl.out k hk
      rw [← HZb.out] at hZl
      have HCB := hideP CB
      have hz1 : -1 ≤ z ∧ z ≤ 2147483646 := by rw [HZ.out]; exact bbN_ge HGd.out k
      clear hmn CB hcut hd1 hc hf hb1 hBK hto ht1 hbl y0
      go_wp2_with (first
        | (refine wpList_minP rfl _ _ rfl ((x7 : Int) + 16) (n : Int) (to : Int) rfl rfl HMn.out ?_)
        | (go_at_call 42; refine HCB.out.mono ?_; clear HCB; rintro e W9 ⟨g9, c9, rfl, hG9⟩; have HG9 := hideP hG9; have y0 := HY.out W9 (HG4.out.kept.trans hG9.kept (fun _ f => f.elim)); clear hG9)
        | (at_builtin; refine StpQ.go ?_))
      refine ⟨?_⟩
      have HG9b := hideP (HG9.out.base HG4.out.kept)
      have HA94 := hideP (apa_new HG4.out HG9.out).symm
      have HG4b := hideP (HG4.out.later HG9.out.kept)
      have HG5b := hideP (HG5.out.later HG9.out.kept)
      refine wpList_pushK rfl (.tmp 35) (.tmp 45) rfl _ k (scs 0 (skl (-1) (chp k P))) b1 (f : Int) (Z.length : Int) (BK.length : Int) rfl HG4b _ rfl rfl (by omega) ?_
      intro g11 c11 W11 HG11 HS11
      have o9 := HG9b.out.other HG4b.out HS11.out HA94.out
      have o5 := HG5b.out.other HG4b.out HS11.out HA.out
      have HB9 := hideP (gro_bytes o9.1).1
      have HG5c := hideP o5.1
      have HAc := hideP o5.2
      clear o9 o5 y0
      go_wp2_with (at_builtin; refine StpQ.go ?_)
      refine ⟨?_⟩
      refine wpList_catB rfl (.tmp 47) (.tmp 48) rfl _ Z.length Z BK rfl HG5c (some ⟨g9, 0, none⟩) BK.length c9 rfl rfl HB9 hBKl.2 (by omega) ?_
      intro g12 c12 W12 HG12 HS12
      have o4 := HG11.out.other HG5c.out HS12.out HAc.out.symm
      have HG4f : Hid (Gro w W12 45 4 (.slice (some ⟨g11, 0, none⟩) (k + 1) c11) (k + 1) (scs 0 (skl (-1) (chp (k + 1) P)))) := hideP (by rw [HSn.out]; exact o4.1)
      have HG5f : Hid (Gro w W12 5 1 (.slice (some ⟨g12, 0, none⟩) (Z.length + BK.length) c12) (Z ++ BK).length (bs (Z ++ BK))) := hideP (by rw [List.length_append]; exact HG12.out)
      have HAf := hideP o4.2.symm
      clear o4
      go_wp2
      go_roundw
      case rel => exact ⟨k + 1, x7 + 16, b1, _, _, Z ++ BK, by omega, by go_num, rfl, rfl, rfl, hideP (by have := HX7.out; omega), HB1, HZn, HG4f, HG5f, HAf⟩
      case measure => simp [intOf]; have := HX7.out; have := HM.out; unfold nbp at this; omega
    · have hkm : k = m := by omega
      subst hkm
      have hx7 : ¬ (x7 : Int) < (n : Int) := by have := HX7.out; have := HM.out; unfold nbp at this; omega
      have HZf := HZb.out
      subst HZf
      go_wp2
      go_ret2
      exact ⟨a4, a5, c4, c5, rfl, HG4.out, HG5.out, HA.out⟩
end Go.Proofs.YtiiokafjfapnpaaDoor
namespace Go.Proofs.YtiiokafjfapnpaaDoor
open Go.ChangeShapes Go.WideShapes Go.ChangeAt Go.RowKit

theorem skb_next (k : Nat) (L : List Po) (b : Int) : skb b (chp (k + 1) L) = skb b (chp k L) ++ (uvb (bbN b L (k + 1) - 1 - bbN b L k).toNat ++ uvb (blk (bbN b L k) (blN L k)).length) := by
  rw [chp_snoc, skb_snoc, lasB_chp]
  rw [bbN_succ]
  rfl
set_option maxRecDepth 20000 in
set_option maxHeartbeats 4000000 in
theorem dhead_any (L : List Pg) (a : Option Addr) (c : Nat) (a4 : Option Addr) (c4 : Nat) (w : World) (hP : PsAt w a L) (hS : SkAt w a4 (skl (-1) (chp (nbp L.length) (pol L))) 0) (hg : gdl (-1) (pol L)) (hl : L.length ≤ 1048576) (ht : tot (pol L) ≤ 1048576) :
    Calls Tryd.prog 23 #[.slice a L.length c, .slice a4 (nbp L.length) c4] w fun e w' => ∃ g c', e = .returned (.slice (some ⟨g, 0, none⟩) (hdl (pol L)) c') ∧ Gro w w' 5 1 (.slice (some ⟨g, 0, none⟩) (hdl (pol L)) c') (hdl (pol L)) (bs ((uvb L.length ++ uvb (tot (pol L))) ++ skb (-1) (chp (nbp L.length) (pol L)))) := by
  have hPn : (pol L).length = L.length := pol_len L
  have hH : hdl (pol L) = ((uvb L.length ++ uvb (tot (pol L))) ++ skb (-1) (chp (nbp L.length) (pol L))).length := by unfold hdl; rw [hPn]
  have CN1 := hideP (dnum_any L.length w (by omega))
  have CT : Hid (∀ W, Kept (fun _ => False) w W → Calls Tryd.prog 14 #[.slice a L.length c] W fun e w' => e = .returned (.int .i64 ((tot (pol L) : Nat) : Int)) ∧ Kept (fun _ => False) W w') := hideP (fun W k => dtot_any L a c W (hP.kept k) (by omega) (by omega))
  obtain ⟨P, hPe⟩ : ∃ P, P = pol L := ⟨_, rfl⟩
  rw [← hPe] at hS hg ht hPn hH CT ⊢
  obtain ⟨n, hn⟩ : ∃ n, n = L.length := ⟨_, rfl⟩
  rw [← hn] at hS hl hPn hH CN1 CT ⊢
  obtain ⟨T, hT⟩ : ∃ T, T = tot P := ⟨_, rfl⟩
  rw [← hT] at ht hH CT ⊢
  have CN2 : Hid (∀ W, Calls Tryd.prog 43 #[.int .i64 T] W fun e w' => ∃ g c, e = .returned (.slice (some ⟨g, 0, none⟩) (uvb T).length c) ∧ Gro W w' 5 1 (.slice (some ⟨g, 0, none⟩) (uvb T).length c) (uvb T).length (bs (uvb T))) := hideP (fun W => dnum_any T W (by omega))
  obtain ⟨m, hm⟩ : ∃ m, m = nbp n := ⟨_, rfl⟩
  have hm1 : m ≤ 65536 := by rw [hm]; unfold nbp; omega
  rw [← hm] at hS hH ⊢
  have HSk : Hid (∀ W k, Kept (fun _ => False) w W → k < m → ∃ b off, a4 = some ⟨b, off, none⟩ ∧ W.cell? ⟨b, off + k * 4, none⟩ = some (.int .i64 (bbN (-1) P (k + 1))) ∧ W.cell? ⟨b, off + k * 4 + 1, none⟩ = some (.int .i64 ((blN P k).length : Nat)) ∧ W.cell? ⟨b, off + k * 4 + 2, none⟩ = some (.int .i64 ((szs ((skl (-1) (chp m P)).take k) : Nat) : Int)) ∧ W.cell? ⟨b, off + k * 4 + 3, none⟩ = some (.int .i64 ((blk (bbN (-1) P k) (blN P k)).length : Nat))) := hideP (fun W k kw hk => by
    have hkl : k < (skl (-1) (chp m P)).length := by rw [skl_len]; exact hk
    obtain ⟨b, off, e, hc⟩ := (hS.kept kw) (by intro e; rw [e] at hkl; simp at hkl)
    have e2 := skl_get k m P (-1) hk
    rw [List.getElem?_eq_getElem hkl, Option.some.injEq] at e2
    obtain ⟨q0, q1, q2, q3⟩ := hc k hkl
    rw [e2] at q0 q1 q3
    rw [Nat.zero_add] at q2
    exact ⟨b, off, e, q0, q1, q2, q3⟩)
  have HGd := hideP hg
  have HM := hideP hm
  have HPn := hideP hPn
  have HH := hideP hH
  have hu1 := uvb_le10P n (by omega)
  have hu2 := uvb_le10P T (by omega)
  have hu3 := uvb_pos T
  obtain ⟨U1, hU1⟩ : ∃ U1, U1 = uvb n := ⟨_, rfl⟩
  obtain ⟨U2, hU2⟩ : ∃ U2, U2 = uvb T := ⟨_, rfl⟩
  have HBl : Hid (∀ k, k ≤ m → ((U1 ++ U2) ++ skb (-1) (chp k P)).length ≤ 100000000) := hideP (fun k hk => by
    have := (bkb_le (m := k) hg (by omega) (by omega)).2
    rw [List.length_append, List.length_append, hU1, hU2]
    omega)
  have HBk : Hid (∀ k, (blk (bbN (-1) P k) (blN P k)).length ≤ 100000000) := hideP (fun k => by
    have h1 := blk_le (gdl_blN hg k) (bbN_ge hg k).1 (by rw [blN_len]; omega)
    have h2 := tot_dropN' P k
    omega)
  rw [← hU1] at CN1 hu1 HH ⊢
  rw [← hU2] at CN2 hu2 hu3 HH ⊢
  rw [HH.out]
  obtain ⟨R, hR⟩ : ∃ R, R = (U1 ++ U2) ++ skb (-1) (chp m P) := ⟨_, rfl⟩
  rw [← hR]
  have HR := hideP hR
  clear hR
  clear hP hS hg hPe hn hT hm hPn hH hU1 hU2
  go_enter Tryd.func23, Tryd.ntmps23
  go_wp2_with (first
    | (go_at_call 43; refine CN1.out.mono ?_; clear CN1; rintro e W1 ⟨g1, c1, rfl, hG1⟩; have HG1 := hideP hG1; have CT1 := hideP (CT.out W1 hG1.kept); clear hG1 CT)
    | (go_at_call 14; refine CT1.out.mono ?_; clear CT1; rintro e W2 ⟨rfl, k2⟩; have HG2 := hideP (HG1.out.later k2); clear k2 HG1)
    | (go_at_call 43; refine (CN2.out _).mono ?_; clear CN2; rintro e W3 ⟨g3, c3, rfl, hG3⟩; have HG3 := hideP (HG2.out.later hG3.kept); have HB3 := hideP (gro_bytes hG3).1; clear hG3 HG2)
    | (at_builtin; refine StpQ.go ?_))
  refine ⟨?_⟩
  refine wpList_catB rfl (.tmp 11) (.tmp 14) rfl _ U1.length U1 U2 rfl HG3 (some ⟨g3, 0, none⟩) U2.length c3 rfl rfl HB3 (by omega) (by omega) ?_
  intro g5 c5 W5 HG5 _
  have HG6 : Hid (Gro w W5 5 1 (.slice (some ⟨g5, 0, none⟩) (U1.length + U2.length) c5) (U1 ++ U2).length (bs (U1 ++ U2))) := hideP (by rw [List.length_append]; exact HG5.out)
  clear HG5 HG3 HB3
  go_wp2
  go_loopw [5, 6, 18] (fun v5 v6 v18 wr => ∃ (k : Nat) (z : Int) (u5 : Value) (Z : List Int), k ≤ m ∧ -1 ≤ z ∧ z ≤ 2147483646 ∧ v18 = .int .i64 k ∧ v6 = .int .i64 z ∧ v5 = u5 ∧ Hid (z = bbN (-1) P k) ∧ Hid (Z = (U1 ++ U2) ++ skb (-1) (chp k P)) ∧ Hid (Gro w wr 5 1 u5 Z.length (bs Z)) ∧ Hid (∃ g c, u5 = .slice (some ⟨g, 0, none⟩) Z.length c)) (fun _ _ v18 _ => m - (intOf v18).toNat)
  case atStart => exact ⟨0, -1, _, U1 ++ U2, by omega, by omega, by omega, rfl, rfl, rfl, hideP (bbN_zero _ _).symm, hideP (by simp [chp, skb]), HG6, hideP ⟨g5, c5, by rw [List.length_append]⟩⟩
  case round =>
    obtain ⟨k, z, u5, Z, hk, hz1, hz2, rfl, rfl, rfl, HZ, HZb, HG, HSh⟩ := hrel
    clear HG6
    obtain ⟨ga, gc, hu5⟩ := HSh.out
    subst hu5
    by_cases hlt : k < m
    · have hkk : (k : Int) < (m : Int) := by omega
      obtain ⟨sb, so, rfl, q0, q1, q2, q3⟩ := HSk.out wr k HG.out.kept hlt
      have hb1 := bbN_ge HGd.out (k + 1)
      have hbz : z < bbN (-1) P (k + 1) := by
        have h1 := (gdl_last _ _ (gdl_blN HGd.out k)).2 (by
          intro e
          have h2 := blN_len P k
          rw [e] at h2
          have := HPn.out
          have h3 := HM.out
          unfold nbp at h3
          simp at h2
          omega)
        rw [HZ.out, bbN_succ]
        exact h1.1
      have HZn : Hid ((U1 ++ U2) ++ skb (-1) (chp (k + 1) P) = (Z ++ uvb (bbN (-1) P (k + 1) - 1 - z).toNat) ++ uvb (blk (bbN (-1) P k) (blN P k)).length) := hideP (by
        rw [skb_next, HZb.out, HZ.out]
        simp only [List.append_assoc])
      have hBk := HBk.out k
      have hZl := HBl.out k hk
      rw [← HZb.out] at hZl
      obtain ⟨b1, hb1e⟩ : ∃ b1, b1 = bbN (-1) P (k + 1) := ⟨_, rfl⟩
      rw [← hb1e] at q0 hb1 hbz HZn
      have HB1 := hideP hb1e
      generalize (blk (bbN (-1) P k) (blN P k)).length = zz at *
      generalize szs ((skl (-1) (chp m P)).take k) = at0 at *
      generalize (blN P k).length = f at *
      obtain ⟨m1, hm1e⟩ : ∃ m1 : Nat, m1 = (b1 - 1 - z).toNat := ⟨_, rfl⟩
      rw [← hm1e] at HZn
      have hmx : b1 - z - 1 = (m1 : Int) := by omega
      have hml : m1 ≤ 2147483647 := by omega
      have kA := Kept.alloc wr (.cells #[.int .i64 b1, .int .i64 (f : Int), .int .i64 (at0 : Int), .int .i64 (zz : Int)] 45)
      have HGA := hideP (skO_new wr b1 (f : Int) (at0 : Int) (zz : Int))
      have HGw := hideP (HG.out.later kA)
      have CA := hideP (dnum_any m1 (wr.alloc (.cells #[.int .i64 b1, .int .i64 (f : Int), .int .i64 (at0 : Int), .int .i64 (zz : Int)] 45)) (by omega))
      have CB : Hid (∀ W, Calls Tryd.prog 43 #[.int .i64 zz] W fun e w' => ∃ g c, e = .returned (.slice (some ⟨g, 0, none⟩) (uvb zz).length c) ∧ Gro W w' 5 1 (.slice (some ⟨g, 0, none⟩) (uvb zz).length c) (uvb zz).length (bs (uvb zz))) := hideP (fun W => dnum_any zz W (by omega))
      have hv1 := uvb_le10P m1 (by omega)
      have hv2 := uvb_le10P zz (by omega)
      have hv3 := uvb_pos m1
      have hv4 := uvb_pos zz
      have HNo : Hid (ga < wr.heap.size) := hideP (HG.out.own.lt ga rfl).2
      obtain ⟨V1, hV1⟩ : ∃ V1, V1 = uvb m1 := ⟨_, rfl⟩
      obtain ⟨V2, hV2⟩ : ∃ V2, V2 = uvb zz := ⟨_, rfl⟩
      rw [← hV1] at CA HZn hv1 hv3
      rw [← hV2] at CB HZn hv2 hv4
      clear hb1e hm1e kA hV1 hV2
      go_wp2_with (first
        | (go_at_call 43; refine CA.out.mono ?_; clear CA; rintro e W7 ⟨g7, c7, rfl, hG7⟩; have HG8 := hideP (HGw.out.later hG7.kept); have HB7 := hideP (gro_bytes hG7).1; have HGA7 := hideP (hG7.kept.heap HGA.out (fun f => f)); clear hG7)
        | (at_builtin; refine StpQ.go ?_))
      refine ⟨?_⟩
      refine wpList_catB rfl (.tmp 22) (.tmp 28) rfl (.slice (some ⟨ga, 0, none⟩) Z.length gc) Z.length Z V1 rfl HG8 (some ⟨g7, 0, none⟩) V1.length c7 rfl rfl HB7 (by omega) (by omega) ?_
      intro g9 c9 W9 HG9 HS9
      have HGA9 := hideP (HS9.out.kept.heap HGA7.out (fun e => by simp [Value.ownBlock] at e; have := HNo.out; omega))
      have HNo9 : Hid (¬ g9 = wr.heap.size) := hideP (fun e => by
        rcases HS9.out.new g9 rfl with q | q
        · simp [Value.ownBlock] at q
          have := HNo.out
          omega
        · have h1 : wr.heap.size < W7.heap.size := by
            rcases Nat.lt_or_ge wr.heap.size W7.heap.size with h | h
            · exact h
            · have := HGA7.out
              rw [Array.getElem?_eq_none h] at this
              cases this
          omega)
      obtain ⟨⟨y0, y1, y2, y3⟩, -⟩ := skO_cells HGA9.out
      clear q0 q1 q2 q3
      go_wp2_with (first
        | (go_at_call 43; refine (CB.out _).mono ?_; clear CB; rintro e W10 ⟨g10, c10, rfl, hG10⟩; have HG11 := hideP (HG9.out.later hG10.kept); have HB10 := hideP (gro_bytes hG10).1; have HGA10 := hideP (hG10.kept.heap HGA9.out (fun f => f)); clear hG10)
        | (at_builtin; refine StpQ.go ?_))
      refine ⟨?_⟩
      refine wpList_catB rfl (.tmp 30) (.tmp 33) rfl (.slice (some ⟨g9, 0, none⟩) (Z.length + V1.length) c9) (Z.length + V1.length) (Z ++ V1) V2 rfl HG11 (some ⟨g10, 0, none⟩) V2.length c10 rfl rfl HB10 (by omega) (by omega) ?_
      intro g12 c12 W12 HG12 HS12
      have HGA12 := hideP (HS12.out.kept.heap HGA10.out (fun e => by simp [Value.ownBlock] at e; exact HNo9.out e))
      obtain ⟨⟨y0, y1, y2, y3⟩, -⟩ := skO_cells HGA12.out
      have HGf : Hid (Gro w W12 5 1 (.slice (some ⟨g12, 0, none⟩) (Z.length + V1.length + V2.length) c12) ((Z ++ V1) ++ V2).length (bs ((Z ++ V1) ++ V2))) := hideP (by rw [List.length_append, List.length_append]; exact HG12.out)
      go_wp2
      go_roundw
      case rel => exact ⟨k + 1, b1, _, (Z ++ V1) ++ V2, by omega, by omega, by omega, by go_num, rfl, rfl, HB1, hideP HZn.out.symm, HGf, hideP ⟨g12, c12, by rw [List.length_append, List.length_append]⟩⟩
      case measure => simp [intOf]; omega
    · have hkk : ¬ (k : Int) < (m : Int) := by omega
      obtain rfl : k = m := by omega
      have hZ : R = Z := by rw [HZb.out, HR.out]
      subst hZ
      go_wp2
      go_ret
      exact ⟨ga, gc, rfl, HG.out⟩
end Go.Proofs.YtiiokafjfapnpaaDoor
namespace Go.Proofs.YtiiokafjfapnpaaDoor
open Go.ChangeShapes Go.WideShapes Go.ChangeAt Go.RowKit

/-- 'append(s, x...)' of nothing. -/
theorem wpList_cat0 {w0 W : World} {ops : Array Oper} {rest : List Oper} {o : Oper} {act : Act} {Q : Exit → Act → World → Prop} (hgd : o.guard = none) (s x : Operand)
    (ho : o.op = .call { callee := .builtin .append, args := #[s, x], argTypes := #[24, 24] }) (v : Value) (n : Nat) (xs : List Int) (hs : act.eval s = v) (hG : Hid (Gro w0 W 5 1 v n (bs xs))) (a : Option Addr) (c : Nat) (hx : act.eval x = .slice a 0 c)
    (h : wpList Tryd.prog ops Q rest (act.put o.dst v) W) : wpList Tryd.prog ops Q (o :: rest) act W := by
  obtain ⟨i0, hi, hz0, hz1, hz2⟩ := info_partsP Tryd.infoB
  obtain ⟨sa, sc, rfl⟩ := hG.out.shape
  refine wpList_plain hgd fun K hK => ?_
  have hrun := run_append_nothing (P := Tryd.prog) W 24 24 o.type 5 i0 Tryd.underlying24 hi sa n sc (gro_bytes hG.out).2.2 (.slice a 0 c) ⟨.inl ⟨_, Tryd.underlying24⟩, fun _ => rfl, by cases a <;> simp [Builtin.firstCells, loadCells, loadCellsFrom], by cases a <;> simp [Builtin.firstCells, loadCells, loadCellsFrom], by simp, by simp⟩
  unfold Oper.wp
  simp [execOp, ho, resolve, invoke, builtin, hs, hx, hrun, Result.andThen]
  exact hK _ _ h
/-- What the document's Encode leaves. -/
def dePostD (L : List Pg) (w : World) (e : Ending) (w' : World) : Prop :=
  (flts (-1) (pol L) = 0 ∧ ∃ g c, e = .returned (.tuple #[.slice (some ⟨g, 0, none⟩) (img (pol L)).length c, .int .i64 0]) ∧ Gro w w' 5 1 (.slice (some ⟨g, 0, none⟩) (img (pol L)).length c) (img (pol L)).length (bs (img (pol L))))
  ∨ (flts (-1) (pol L) ≠ 0 ∧ e = .returned (.tuple #[.slice none 0 0, .int .i64 (fnm (flts (-1) (pol L)))]) ∧ Kept (fun _ => False) w w')
set_option maxRecDepth 20000 in
set_option maxHeartbeats 4000000 in
theorem dencode_any (L : List Pg) (a : Option Addr) (c : Nat) (w : World) (hP : PsAt w a L) (hI : ∀ g ∈ L, IsInts g.ps) (hl : L.length ≤ 1048576) (hlc : L.length ≤ c) (ht : tot (pol L) ≤ 1048576) :
    Calls Tryd.prog 8 #[.slice a L.length c] w (dePostD L w) := by
  have CC := dcheck_any L a c w hP (by omega) (by omega)
  have hfi := flts_iff (L := pol L) (b := -1) (fun p hp => by
    obtain ⟨g, hgm, rfl⟩ := List.mem_map.1 hp
    exact hI g hgm)
  unfold dePostD
  have hor := flts_or (pol L) (-1)
  obtain ⟨F, hF⟩ : ∃ F, F = flts (-1) (pol L) := ⟨_, rfl⟩
  rw [← hF] at CC hfi hor ⊢
  by_cases h0 : F = 0
  · have hg := hfi.1 h0
    subst h0
    rw [show fnm 0 = 0 from rfl] at CC
    have CS : Hid (∀ W, Kept (fun _ => False) w W → Calls Tryd.prog 22 #[.slice a L.length c] W (skPost (pol L) W)) := hideP (fun W k => dskips_any L a c W (hP.kept k) hg hl hlc ht)
    have CH : Hid (∀ W a4 c4, Kept (fun _ => False) w W → SkAt W a4 (skl (-1) (chp (nbp L.length) (pol L))) 0 → Calls Tryd.prog 23 #[.slice a L.length c, .slice a4 (nbp L.length) c4] W fun e w' => ∃ g c', e = .returned (.slice (some ⟨g, 0, none⟩) (hdl (pol L)) c') ∧ Gro W w' 5 1 (.slice (some ⟨g, 0, none⟩) (hdl (pol L)) c') (hdl (pol L)) (bs ((uvb L.length ++ uvb (tot (pol L))) ++ skb (-1) (chp (nbp L.length) (pol L))))) := hideP (fun W a4 c4 k hs => dhead_any L a c a4 c4 W (hP.kept k) hs hg hl ht)
    unfold skPost at CS
    have hIm : img (pol L) = ((uvb L.length ++ uvb (tot (pol L))) ++ skb (-1) (chp (nbp L.length) (pol L))) ++ bkb (-1) (chp (nbp L.length) (pol L)) := by unfold img; rw [pol_len]; simp only [List.append_assoc]
    have hil := img_le hg (by rw [pol_len]; exact hl) ht
    have hHd : hdl (pol L) = ((uvb L.length ++ uvb (tot (pol L))) ++ skb (-1) (chp (nbp L.length) (pol L))).length := by unfold hdl; rw [pol_len]
    rw [pol_len] at CS
    obtain ⟨IM, hIM⟩ : ∃ IM, IM = img (pol L) := ⟨_, rfl⟩
    rw [← hIM] at hIm hil ⊢
    obtain ⟨HD, hHD⟩ : ∃ HD, HD = (uvb L.length ++ uvb (tot (pol L))) ++ skb (-1) (chp (nbp L.length) (pol L)) := ⟨_, rfl⟩
    rw [← hHD] at hIm CH hHd
    obtain ⟨BB, hBB⟩ : ∃ BB, BB = bkb (-1) (chp (nbp L.length) (pol L)) := ⟨_, rfl⟩
    rw [← hBB] at hIm CS
    rw [hHd] at CH
    obtain ⟨S, hS⟩ : ∃ S, S = skl (-1) (chp (nbp L.length) (pol L)) := ⟨_, rfl⟩
    rw [← hS] at CH CS
    generalize nbp L.length = m at *
    have HIm := hideP hIm
    have HCC := hideP CC
    have hll : HD.length + BB.length ≤ 500000000 := by rw [hIm, List.length_append] at hil; exact hil
    generalize L.length = n at *
    clear CC hfi hor hF hP hI hg hIm hHd hIM hHD hBB hS hil
    go_enter Tryd.func8, Tryd.ntmps8
    go_wp2_with (first
      | (go_at_call 21; refine HCC.out.mono ?_; clear HCC; rintro e W1 ⟨rfl, k1⟩; have HK1 := hideP k1; have CS1 := hideP (CS.out W1 k1); clear k1 CS)
      | (go_at_call 22; refine CS1.out.mono ?_; clear CS1; rintro e W2 ⟨a4, a5, c4, c5, rfl, hG4, hG5, hA⟩; have HK2 := hideP (HK1.out.trans hG4.kept (fun _ f => f.elim)); have HG5 := hideP hG5; have CH2 := hideP (CH.out W2 a4 c4 HK2.out (gro_skips hG4).1); clear hG4 hG5 hA CH)
      | (go_at_call 23; refine CH2.out.mono ?_; clear CH2; rintro e W3 ⟨g3, c3, rfl, hG3⟩; have HG3 := hideP (hG3.base HK2.out); have HB5 := hideP (gro_bytes (HG5.out.later hG3.kept)).1; clear hG3)
      | (at_builtin; refine StpQ.go ?_))
    refine ⟨?_⟩
    by_cases hb0 : BB = []
    · subst hb0
      refine wpList_cat0 rfl (.tmp 19) (.tmp 20) rfl _ HD.length HD rfl HG3 a5 c5 rfl ?_
      go_wp2
      go_ret2
      refine .inl ⟨by first | rfl | trivial, g3, c3, ?_, ?_⟩
      · rw [HIm.out, List.append_nil]; rfl
      · rw [HIm.out, List.append_nil]; exact HG3.out
    · have hbl : 0 < BB.length := List.length_pos_iff.2 hb0
      refine wpList_catB rfl (.tmp 19) (.tmp 20) rfl (.slice (some ⟨g3, 0, none⟩) HD.length c3) HD.length HD BB rfl HG3 a5 BB.length c5 rfl rfl HB5 hbl (by omega) ?_
      intro g5 c6 W5 HG6 _
      go_wp2
      go_ret2
      refine .inl ⟨by first | rfl | trivial, g5, c6, ?_, ?_⟩
      · rw [HIm.out, List.length_append]; rfl
      · rw [HIm.out, List.length_append]; exact HG6.out
  · have HCC := hideP CC
    have hfn : fnm F = 4 ∨ fnm F = 8 := by
      rcases hor with e | e | e
      · exact absurd e h0
      · rw [e]; exact .inl rfl
      · rw [e]; exact .inr rfl
    have hq : (fnm F != 0) = true := by rcases hfn with e | e <;> rw [e] <;> rfl
    clear CC hfi hor hF hP hI hfn
    generalize L.length = n at *
    go_enter Tryd.func8, Tryd.ntmps8
    generalize fnm F = q at *
    go_wp2_with (go_at_call 21; refine HCC.out.mono ?_; clear HCC; rintro e W1 ⟨rfl, k1⟩; have HK1 := hideP k1; clear k1)
    go_ret2
    exact .inr ⟨h0, rfl, HK1.out⟩
end Go.Proofs.YtiiokafjfapnpaaDoor
namespace Go.Proofs.YtiiokafjfapnpaaDoor
open Go.ChangeShapes Go.WideShapes Go.ChangeAt Go.RowKit

set_option maxRecDepth 20000 in
set_option maxHeartbeats 1000000 in
theorem num_rangeP {w : World} {ad : Nat → Addr} (h : Errs13 w ad) : Calls Tryd.prog 9 #[.iface 120 (.pointer (some (ad 7)))] w fun e w' => e = .returned (.int .i64 8) ∧ w' = w := by
  have v0 := h.s0.var
  have v1 := h.s1.var
  have v2 := h.s2.var
  have v3 := h.s3.var
  have v4 := h.s4.var
  have v5 := h.s5.var
  have v6 := h.s6.var
  have v7 := h.s7.var
  have e0 := err_neqF h.s7 h.s0 (by decide)
  have e1 := err_neqF h.s7 h.s1 (by decide)
  have e2 := err_neqF h.s7 h.s2 (by decide)
  have e3 := err_neqF h.s7 h.s3 (by decide)
  have e4 := err_neqF h.s7 h.s4 (by decide)
  have e5 := err_neqF h.s7 h.s5 (by decide)
  have e6 := err_neqF h.s7 h.s6 (by decide)
  have e7 := errEq w (ad 7)
  clear h
  go_enter Tryd.func9, Tryd.ntmps9
  go_wp2
  go_ret
  exact ⟨rfl, rfl⟩
set_option maxRecDepth 20000 in
set_option maxHeartbeats 8000000 in
theorem encodes_walk (L : List Pg) (la : Option Addr) (lc : Nat) (ad : Nat → Addr) (w : World) (hP : PsAt w la L) (hI : ∀ g ∈ L, IsInts g.ps) (hl : L.length ≤ 1048576) (hlc : L.length ≤ lc) (ht : tot (pol L) ≤ 1048576) (hE : Errs13 w ad) :
    Calls Tryd.prog 3 #[.slice la L.length lc] w fun e w' => e = .returned (.bool true) ∧ Kept (fun _ => False) w w' := by
  have HE := hideP hE
  have CV := hideP (plives_any ad _ hE.toQ)
  have CE : Hid (∀ W, Kept (fun _ => False) w W → Calls Tryd.prog 7 #[.slice la L.length lc] W fun e w' => enPost L (ad 3) (ad 7) W e w') := hideP (fun W k => pencode_any L la lc (ad 3) (ad 7) W (hP.kept k) hI (by omega) hlc (by omega) (hE.kept k).s3.var (hE.kept k).s7.var)
  have CD : Hid (∀ W, Kept (fun _ => False) w W → Calls Tryd.prog 8 #[.slice la L.length lc] W (dePostD L W)) := hideP (fun W k => dencode_any L la lc W (hP.kept k) hI hl hlc ht)
  generalize L.length = n at *
  clear hP hI hE
  go_enter Tryd.func3, Tryd.ntmps3
  go_wp2_with (first
    | (go_at_call 6; refine CV.out.mono ?_; clear CV; rintro e W1 ⟨rfl, k1⟩; have HK1 := hideP k1; clear k1)
    | (go_at_call 7; refine StpQ.go ?_))
  refine ⟨?_⟩
  refine (CE.out W1 HK1.out).mono ?_
  clear CE
  rintro e W2 ⟨k2, hres⟩
  have HK2 := hideP (HK1.out.trans k2 (fun _ f => f.elim))
  clear k2 HK1
  have CD2 := CD.out W2 HK2.out
  unfold dePostD at CD2
  rcases hres with ⟨h0, g, hg, rfl, ho⟩ | ⟨h0, rfl⟩ | ⟨h0, rfl⟩
  · rw [h0] at CD2
    have HCD := hideP CD2
    have HO := hideP ho
    obtain ⟨IM, hIM⟩ : ∃ IM, IM = img (pol L) := ⟨_, rfl⟩
    rw [← hIM] at HCD HO ⊢
    clear CD2 CD ho h0 hg hIM
    go_wp2_with (first
      | (go_at_call 8; refine StpQ.go ?_))
    refine ⟨?_⟩
    refine HCD.out.mono ?_
    clear HCD
    rintro e W3 (⟨-, g3, c3, rfl, hG3⟩ | ⟨h, -⟩)
    · have HK3 := hideP (HK2.out.trans hG3.kept (fun _ f => f.elim))
      have cva := conv_own (hG3.kept.row HO.out (fun _ _ f => f))
      have cvb := conv_at (some ⟨g3, 0, none⟩) IM.length c3 W3 IM rfl (gro_bytes hG3).1
      have nsa := eqSP 9 (strOfNums IM) (strOfNums IM)
      have nsb : ((strOfNums IM).toList == (strOfNums IM).toList) = true := by simp
      rw [nsb] at nsa
      have CN := hideP (num_nil W3)
      clear hG3 nsb HO
      go_wp2_with (go_at_call 9; refine CN.out.mono ?_; clear CN; rintro e W4 ⟨rfl, rfl⟩)
      go_ret
      exact ⟨rfl, HK3.out⟩
    · exact absurd rfl h
  · rw [h0] at CD2
    have HCD := hideP CD2
    rw [show errV (ad 3) = .iface 120 (.pointer (some (ad 3))) from rfl]
    clear CD2 CD h0
    go_wp2_with (go_at_call 8; refine StpQ.go ?_)
    refine ⟨?_⟩
    refine HCD.out.mono ?_
    clear HCD
    rintro e W3 (⟨h, -⟩ | ⟨-, rfl, k3⟩)
    · cases h
    · rw [show fnm 3 = 4 from rfl]
      have HK3 := hideP (HK2.out.trans k3 (fun _ f => f.elim))
      have cva := conv_at none 0 0 W3 [] rfl (fun e => (e rfl).elim)
      have CN := hideP (num_order (HE.out.kept HK3.out))
      clear k3
      go_wp2_with (go_at_call 9; refine CN.out.mono ?_; clear CN; rintro e W4 ⟨rfl, rfl⟩)
      go_ret
      exact ⟨rfl, HK3.out⟩
  · rw [h0] at CD2
    have HCD := hideP CD2
    rw [show errV (ad 7) = .iface 120 (.pointer (some (ad 7))) from rfl]
    clear CD2 CD h0
    go_wp2_with (go_at_call 8; refine StpQ.go ?_)
    refine ⟨?_⟩
    refine HCD.out.mono ?_
    clear HCD
    rintro e W3 (⟨h, -⟩ | ⟨-, rfl, k3⟩)
    · cases h
    · rw [show fnm 7 = 8 from rfl]
      have HK3 := hideP (HK2.out.trans k3 (fun _ f => f.elim))
      have cva := conv_at none 0 0 W3 [] rfl (fun e => (e rfl).elim)
      have CN := hideP (num_rangeP (HE.out.kept HK3.out))
      clear k3
      go_wp2_with (go_at_call 9; refine CN.out.mono ?_; clear CN; rintro e W4 ⟨rfl, rfl⟩)
      go_ret
      exact ⟨rfl, HK3.out⟩
end Go.Proofs.YtiiokafjfapnpaaDoor
namespace Go.Proofs.YtiiokafjfapnpaaDoor
open Go.ChangeShapes Go.WideShapes Go.ChangeAt Go.RowKit

set_option maxRecDepth 20000 in
set_option maxHeartbeats 4000000 in
theorem dSkips_any (L : List Pg) (a : Option Addr) (c : Nat) (w : World) (hP : PsAt w a L) (hg : gdl (-1) (pol L)) (hl : L.length ≤ 1048576) (hlc : L.length ≤ c) (ht : tot (pol L) ≤ 1048576) :
    Calls Tryd.prog 11 #[.slice a L.length c] w fun e w' => ∃ a4 c4, e = .returned (.slice a4 (nbp L.length) c4) ∧ SkAt w' a4 (skl (-1) (chp (nbp L.length) (pol L))) (hdl (pol L)) ∧ Kept (fun _ => False) w w' := by
  have CS := dskips_any L a c w hP hg hl hlc ht
  have CH : Hid (∀ W a4 c4, Kept (fun _ => False) w W → SkAt W a4 (skl (-1) (chp (nbp L.length) (pol L))) 0 → Calls Tryd.prog 23 #[.slice a L.length c, .slice a4 (nbp L.length) c4] W fun e w' => ∃ g c', e = .returned (.slice (some ⟨g, 0, none⟩) (hdl (pol L)) c') ∧ Gro W w' 5 1 (.slice (some ⟨g, 0, none⟩) (hdl (pol L)) c') (hdl (pol L)) (bs ((uvb L.length ++ uvb (tot (pol L))) ++ skb (-1) (chp (nbp L.length) (pol L))))) := hideP (fun W a4 c4 k hs => dhead_any L a c a4 c4 W (hP.kept k) hs hg hl ht)
  unfold skPost at CS
  rw [pol_len] at CS
  have hil := img_le hg (by rw [pol_len]; exact hl) ht
  rw [img_hdl] at hil
  have hskl : (skl (-1) (chp (nbp L.length) (pol L))).length = nbp L.length := skl_len _ _ _
  have hsz : szs (skl (-1) (chp (nbp L.length) (pol L))) = (bkb (-1) (chp (nbp L.length) (pol L))).length := szs_skl _ _
  rw [pol_len] at hil
  rw [← hsz] at hil
  obtain ⟨S, hS⟩ : ∃ S, S = skl (-1) (chp (nbp L.length) (pol L)) := ⟨_, rfl⟩
  rw [← hS] at CS CH hil hskl ⊢
  obtain ⟨H, hH⟩ : ∃ H, H = hdl (pol L) := ⟨_, rfl⟩
  rw [← hH] at CH hil ⊢
  have hmb : nbp L.length ≤ 65536 := by unfold nbp; omega
  generalize nbp L.length = m at *
  generalize L.length = n at *
  have HSl := hideP hskl
  have HCS := hideP CS
  clear CS hP hg hS hH hskl hsz
  go_enter Tryd.func11, Tryd.ntmps11
  go_wp2_with (first
    | (go_at_call 22; refine HCS.out.mono ?_; clear HCS; rintro e W2 ⟨a4, a5, c4, c5, rfl, hG4, -, -⟩; have HG4 := hideP hG4; have CH2 := hideP (CH.out W2 a4 c4 hG4.kept (gro_skips hG4).1); clear hG4 CH)
    | (go_at_call 23; refine CH2.out.mono ?_; clear CH2; rintro e W3 ⟨g3, c3, rfl, hG3⟩; have HG5 := hideP (HG4.out.later hG3.kept); clear hG3))
  have HB0 : Hid (0 < m → ∃ g, a4 = some ⟨g, 0, none⟩ ∧ w.heap.size ≤ g ∧ Skw W3 g S H 0) := hideP (fun h0 => by
    obtain ⟨g, rfl, hg, _⟩ := HG5.out.cell h0
    exact ⟨g, rfl, hg, Skw.start HG5.out.own H⟩)
  have HK0 := hideP HG5.out.kept
  go_loopw [18] (fun v18 wr => ∃ k : Nat, v18 = .int .i64 k ∧ k ≤ m ∧ Hid (0 < m → ∃ g, a4 = some ⟨g, 0, none⟩ ∧ w.heap.size ≤ g ∧ Skw wr g S H k) ∧ Hid (Kept (fun _ => False) w wr)) (fun v18 _ => m - (intOf v18).toNat)
  case atStart => exact ⟨0, rfl, by omega, HB0, HK0⟩
  case round =>
    obtain ⟨k, rfl, hk, HBk, HKk⟩ := hrel
    clear HB0 HK0 HG5 HG4
    by_cases hkm : k < m
    · have hkk : (k : Int) < (m : Int) := by omega
      obtain ⟨g, rfl, hg, hSk⟩ := HBk.out (by omega)
      obtain ⟨cc, ff⟩ := hSk.cell (by rw [HSl.out]; exact hkm)
      have hPut := hSk.put (by rw [HSl.out]; exact hkm)
      obtain ⟨a0, ha0⟩ : ∃ a0, a0 = szs (S.take k) := ⟨_, rfl⟩
      rw [← ha0] at cc hPut
      have ha1 : a0 ≤ szs S := by
        have := szs_append (S.take k) (S.drop k)
        rw [List.take_append_drop] at this
        omega
      obtain ⟨y2, hy2⟩ : ∃ y2, y2 = H + a0 := ⟨_, rfl⟩
      rw [← hy2] at hPut
      have ks := Kept.setCell wr ⟨g, k * 4 + 2, none⟩ (.int .i64 (y2 : Int))
      have HK2 := hideP (HKk.out.trans ks (fun i hi => .inr (by simp only at hi; omega)))
      have HB2 : Hid (0 < m → ∃ g', (some (⟨g, 0, none⟩ : Addr)) = some ⟨g', 0, none⟩ ∧ w.heap.size ≤ g' ∧ Skw (wr.setCell ⟨g, k * 4 + 2, none⟩ (.int .i64 (y2 : Int))) g' S H (k + 1)) := hideP (fun _ => ⟨g, rfl, hg, hPut⟩)
      have eq2 : (a0 : Int) + (H : Int) = (y2 : Int) := by omega
      have ew : IntKind.i64.wrap ((a0 : Int) + (H : Int)) = (y2 : Int) := by rw [IntKind.wrap_i64]; omega
      clear hy2 hSk ks ha0 hPut HBk HKk
      go_wp2
      go_roundw
      case rel => exact ⟨k + 1, by go_num, by omega, HB2, HK2⟩
      case measure => simp [intOf]; omega
    · have hkk : ¬ (k : Int) < (m : Int) := by omega
      have hkj2 : k = m := by omega
      have HSkA : Hid (SkAt wr a4 S H) := hideP (by
        by_cases h0 : 0 < m
        · obtain ⟨g, rfl, _, hSk⟩ := HBk.out h0
          rw [hkj2, ← HSl.out] at hSk
          exact hSk.at
        · intro hne
          exact absurd (List.eq_nil_of_length_eq_zero (by rw [HSl.out]; omega)) hne)
      clear hkj2
      go_wp2
      go_ret
      first | exact ⟨a4, c4, rfl, HSkA.out, HKk.out⟩ | exact ⟨a4, ⟨c4, rfl⟩, HSkA.out, HKk.out⟩
/-- A cell that is no byte stays where a byte of a list is written. -/
theorem cell_set {w W : World} {g k N c : Nat} {xs : List Int} (hG : Gro w W 5 1 (.slice (some ⟨g, 0, none⟩) N c) N (bs xs)) (hk : k < N) {b o : Nat} {v : Value} (hc : W.cell? ⟨b, o, none⟩ = some v) (hv : ∀ x, v ≠ .int .u8 x) (u : Value) : (W.setCell ⟨g, k, none⟩ u).cell? ⟨b, o, none⟩ = some v := by
  have hl : N = xs.length := by have := hG.own.1; rw [bs_length] at this; omega
  have hq := hG.at (j := k) (u := .int .u8 (xs[k]?.getD 0)) (by unfold bs; rw [List.getElem?_map, List.getElem?_eq_getElem (by omega)]; simp)
  have hne : (⟨g, k, none⟩ : Addr) ≠ ⟨b, o, none⟩ := by
    intro e
    injection e with e1 e2
    subst e1 e2
    rw [hq] at hc
    injection hc with hc
    exact hv _ hc.symm
  exact (World.cell?_setCell_other (h := hne) ..).trans hc
theorem SkAt.set {w W : World} {g k N c : Nat} {xs : List Int} (hG : Gro w W 5 1 (.slice (some ⟨g, 0, none⟩) N c) N (bs xs)) (hk : k < N) (u : Value) {a : Option Addr} {S : List Sk} {p0 : Nat} (h : SkAt W a S p0) : SkAt (W.setCell ⟨g, k, none⟩ u) a S p0 := by
  intro hne
  obtain ⟨b, off, e, hc⟩ := h hne
  refine ⟨b, off, e, fun j hj => ?_⟩
  obtain ⟨x0, x1, x2, x3⟩ := hc j hj
  exact ⟨cell_set hG hk x0 (fun _ e => by cases e) u, cell_set hG hk x1 (fun _ e => by cases e) u, cell_set hG hk x2 (fun _ e => by cases e) u, cell_set hG hk x3 (fun _ e => by cases e) u⟩
theorem OpdG.set {w W : World} {g k N c bl gi : Nat} {xs : List Int} {L : List Po} (hG : Gro w W 5 1 (.slice (some ⟨g, 0, none⟩) N c) N (bs xs)) (hk : k < N) (u : Value) (hne : g ≠ gi) (h : OpdG W bl gi L) : OpdG (W.setCell ⟨g, k, none⟩ u) bl gi L := by
  obtain ⟨sa, sc, h⟩ := h
  refine ⟨sa, sc, cell_set hG hk h.c0 (fun _ e => by cases e) u, cell_set hG hk h.c1 (fun _ e => by cases e) u, cell_set hG hk h.c2 (fun _ e => by cases e) u, cell_set hG hk h.c3 (fun _ e => by cases e) u, fun he => ?_, h.cp, h.sk.set hG hk u⟩
  obtain ⟨b, off, e, hc⟩ := h.im he
  injection e with e
  injection e with e1 e2
  subst e1 e2
  exact ⟨gi, 0, rfl, fun j hj => by
    have hn2 : (⟨g, k, none⟩ : Addr) ≠ ⟨gi, 0 + j, none⟩ := by intro e; injection e with e1; exact hne e1
    exact (World.cell?_setCell_other (h := hn2) ..).trans (hc j hj)⟩
end Go.Proofs.YtiiokafjfapnpaaDoor
namespace Go.Proofs.YtiiokafjfapnpaaDoor
open Go.ChangeShapes Go.WideShapes Go.ChangeAt Go.RowKit

/-- A script as it lies. -/
def OpAt (w : World) (a : Option Addr) (O : List (Int × Int)) : Prop :=
  O ≠ [] → ∃ b off, a = some ⟨b, off, none⟩ ∧ ∀ k (h : k < O.length), w.cell? ⟨b, off + k * 2, none⟩ = some (.int .i64 O[k].1) ∧ w.cell? ⟨b, off + k * 2 + 1, none⟩ = some (.int .i64 O[k].2)
theorem OpAt.kept {w w' : World} {a : Option Addr} {O : List (Int × Int)} (h : OpAt w a O) (k : Kept (fun _ => False) w w') : OpAt w' a O := by
  intro hne
  obtain ⟨b, off, e, hc⟩ := h hne
  refine ⟨b, off, e, fun j hj => ?_⟩
  obtain ⟨x0, x1⟩ := hc j hj
  exact ⟨k.cell x0 (fun f => f), k.cell x1 (fun f => f)⟩
theorem bs_set (xs : List Int) (k : Nat) (y : Int) : (bs xs).set k (.int .u8 y) = bs (xs.set k y) := by unfold bs; rw [List.map_set]
set_option maxRecDepth 20000 in
set_option maxHeartbeats 8000000 in
theorem lists_walk (L : List Pg) (la : Option Addr) (lc : Nat) (O : List (Int × Int)) (oa : Option Addr) (oc : Nat) (ad : Nat → Addr) (w : World) (hP : PsAt w la L) (hI : ∀ g ∈ L, IsInts g.ps) (hl : L.length ≤ 1048576) (hlc : L.length ≤ lc) (ht : tot (pol L) ≤ 1048576) (hO : OpAt w oa O) (hOl : O.length ≤ 1048576) (hE : ErQ w ad) :
    Calls Tryd.prog 4 #[.slice la L.length lc, .slice oa O.length oc] w fun e w' => e = .returned (.bool true) ∧ Kept (fun _ => False) w w' := by
  have HE := hideP hE
  have HP := hideP hP
  have HOp := hideP hO
  have CV := hideP (plives_any ad _ hE)
  have CD : Hid (∀ W, Kept (fun _ => False) w W → Calls Tryd.prog 8 #[.slice la L.length lc] W (dePostD L W)) := hideP (fun W k => dencode_any L la lc W (hP.kept k) hI hl hlc ht)
  have hfi := flts_iff (L := pol L) (b := -1) (fun p hp => by
    obtain ⟨g, hgm, rfl⟩ := List.mem_map.1 hp
    exact hI g hgm)
  have HFi := hideP hfi
  have HT := hideP ht
  obtain ⟨n, hn⟩ : ∃ n, n = L.length := ⟨_, rfl⟩
  obtain ⟨no, hno⟩ : ∃ no, no = O.length := ⟨_, rfl⟩
  rw [← hn] at hl hlc CD ⊢
  rw [← hno] at hOl ⊢
  have HN := hideP hn
  have HNo := hideP hno
  clear hP hI hE hO hn hno hfi ht
  go_enter Tryd.func4, Tryd.ntmps4
  go_wp2_with (first
    | (go_at_call 6; refine CV.out.mono ?_; clear CV; rintro e W1 ⟨rfl, k1⟩; have HK1 := hideP k1; clear k1)
    | (go_at_call 8; refine StpQ.go ?_))
  refine ⟨?_⟩
  have CD2 := CD.out W1 HK1.out
  unfold dePostD at CD2
  refine CD2.mono ?_
  clear CD2 CD
  rintro e W2 (⟨h0, g, c2, rfl, hG2⟩ | ⟨h0, rfl, k2⟩)
  · have hgd := HFi.out.1 h0
    obtain ⟨P, hPe⟩ : ∃ P, P = pol L := ⟨_, rfl⟩
    have HPe := hideP hPe
    have hPn : P.length = n := by rw [hPe, pol_len, HN.out]
    rw [← hPe] at hgd hG2 ⊢
    have HT2 : Hid (tot P ≤ 1048576) := hideP (by rw [hPe]; exact HT.out)
    have hil := img_le hgd (by rw [hPn]; exact hl) HT2.out
    have hip := img_pos' P
    have HG2 := hideP (hG2.base HK1.out)
    have HK2 := hideP HG2.out.kept
    have CO := popen_goodG P (some ⟨g, 0, none⟩) c2 ad W2 (gro_bytes hG2).1 hgd (by omega) (HE.out.kept HK2.out)
    have CS : Hid (∀ W, Kept (fun _ => False) w W → Calls Tryd.prog 11 #[.slice la n lc] W fun e w' => ∃ a4 c4, e = .returned (.slice a4 (nbp n) c4) ∧ SkAt w' a4 (skl (-1) (chp (nbp n) P)) (hdl P) ∧ Kept (fun _ => False) W w') := hideP (fun W k => by
      have h1 := dSkips_any L la lc W (HP.out.kept k) (by rw [← HPe.out]; exact hgd) (by rw [← HN.out]; exact hl) (by rw [← HN.out]; exact hlc) (by rw [← HPe.out]; exact HT2.out)
      rw [← HN.out, ← HPe.out] at h1
      exact h1)
    obtain ⟨N, hNe⟩ : ∃ N, N = (img P).length := ⟨_, rfl⟩
    rw [← hNe] at CO hil hip HG2 ⊢
    have hgl : g < W2.heap.size := (HG2.out.own.lt g rfl).2
    have HNe := hideP hNe
    have HGd := hideP hgd
    have HPn := hideP hPn
    have HCO := hideP CO
    obtain ⟨m, hm⟩ : ∃ m, m = nbp n := ⟨_, rfl⟩
    rw [← hm] at CS
    have HM := hideP hm
    have hml : m ≤ 65536 := by rw [hm]; unfold nbp; omega
    clear h0 hgd hNe hPe hPn hm CO hG2
    go_wp2_with (first
      | (go_at_call 10; refine HCO.out.mono ?_; clear HCO; rintro e W3 ⟨bl, gi, rfl, ho, hgi, k3⟩; have HK3 := hideP (HK2.out.trans k3 (fun _ f => f.elim)); have HO3 := hideP ho; have HG3 := hideP (HG2.out.later k3); have CS3 := hideP (CS.out W3 HK3.out); have HNi : Hid (g ≠ gi) := hideP (by omega); clear ho hgi k3 CS)
      | (go_at_call 11; refine CS3.out.mono ?_; clear CS3; rintro e W4 ⟨a4, c4, rfl, hS4, k4⟩; have HK4 := hideP (HK3.out.trans k4 (fun _ f => f.elim)); have HO4 := hideP (HO3.out.kept k4); have HG4 := hideP (HG3.out.later k4); have HS4 := hideP hS4; clear hS4 k4))
    have HXs : Hid (∃ xs : List Int, Gro w W4 5 1 (.slice (some ⟨g, 0, none⟩) N c2) N (bs xs)) := hideP ⟨_, HG4.out⟩
    clear HG4 HG3 HG2 HO3 HK3 HK2 HK1
    go_loopw [42] (fun v42 wr => ∃ k : Nat, v42 = .int .i64 k ∧ k ≤ N ∧ Hid (Kept (fun _ => False) w wr) ∧ Hid (OpdG wr bl gi P) ∧ Hid (SkAt wr a4 (skl (-1) (chp m P)) (hdl P)) ∧ Hid (∃ xs : List Int, Gro w wr 5 1 (.slice (some ⟨g, 0, none⟩) N c2) N (bs xs))) (fun v42 _ => N - (intOf v42).toNat)
    case atStart => exact ⟨0, rfl, by omega, HK4, HO4, HS4, HXs⟩
    case round =>
      clear HK4 HO4 HS4 HXs
      obtain ⟨k, rfl, hk, HK, HO, HS, HX⟩ := hrel
      by_cases hlt : k < N
      · have hkk : (k : Int) < (N : Int) := by omega
        obtain ⟨xs, hG⟩ := HX.out
        have hlx : N = xs.length := by have := hG.own.1; rw [bs_length] at this; omega
        have hst := hG.set k (.int .u8 85)
        rw [bs_set] at hst
        have ff := hst.2
        have cc := hG.at (j := k) (u := .int .u8 (xs[k]?.getD 0)) (by unfold bs; rw [List.getElem?_map, List.getElem?_eq_getElem (by omega)]; simp)
        have HX2 : Hid (∃ ys : List Int, Gro w (wr.setCell ⟨g, k, none⟩ (.int .u8 85)) 5 1 (.slice (some ⟨g, 0, none⟩) N c2) N (bs ys)) := hideP ⟨_, hst.1⟩
        have HK5 := hideP hst.1.kept
        have HO5 := hideP (HO.out.set hG hlt (.int .u8 85) HNi.out)
        have HS5 := hideP (HS.out.set hG hlt (.int .u8 85))
        clear hst hG HX HO HS HK hlx
        generalize xs[k]?.getD 0 = y at *
        go_wp2
        go_roundw
        case rel => exact ⟨k + 1, by go_num, by omega, HK5, HO5, HS5, HX2⟩
        case measure => simp [intOf]; omega
      · have hkk : ¬ (k : Int) < (N : Int) := by omega
        clear HX
        have HOp2 := hideP HO.out.opd
        clear HO
        go_wp2
        clear HFi HT
        go_loopw [51] (fun v51 wr => ∃ i : Nat, v51 = .int .i64 i ∧ i ≤ no ∧ Hid (Kept (fun _ => False) w wr) ∧ Hid (Opd wr bl P) ∧ Hid (SkAt wr a4 (skl (-1) (chp m P)) (hdl P))) (fun v51 _ => no - (intOf v51).toNat)
        case atStart => exact ⟨0, rfl, by omega, HK, HOp2, HS⟩
        case round =>
          clear HK HOp2 HS
          obtain ⟨i, rfl, hi, HK, HO, HS⟩ := hrel
          by_cases hlt2 : i < no
          · have hii : (i : Int) < (no : Int) := by omega
            have hil2 : i < O.length := by rw [← HNo.out]; exact hlt2
            obtain ⟨ob, oo, rfl, hc⟩ := (HOp.out.kept HK.out) (by intro e; rw [e] at hil2; simp at hil2)
            obtain ⟨x0, x1⟩ := hc i hil2
            clear hc
            generalize O[i] = op at *
            obtain ⟨kd, K⟩ := op
            simp only at x0 x1
            obtain ⟨u, hu⟩ : ∃ u : Nat, IntKind.u64.wrap kd = (u : Int) := ⟨(IntKind.u64.wrap kd).toNat, by rw [IntKind.wrap_u64]; omega⟩
            obtain ⟨r, hr⟩ : ∃ r, r = u % 5 := ⟨_, rfl⟩
            have hrm : (u : Int) % 5 = (r : Int) := by rw [hr]; simp
            have hr5 : r < 5 := by rw [hr]; exact Nat.mod_lt _ (by decide)
            have kA := Kept.alloc wr (.cells #[.int .i64 kd, .int .i64 K] 40)
            have HKA := hideP (HK.out.trans kA (fun _ f => f.elim))
            have HOA := hideP (HO.out.kept kA)
            have HSA := hideP (HS.out.kept kA)
            have HGA := hideP (heap_alloc_new wr (.cells #[.int .i64 kd, .int .i64 K] 40))
            clear hr kA
            rcases (show r = 0 ∨ r = 1 ∨ r = 2 ∨ r = 3 ∨ r = 4 by omega) with rfl | rfl | rfl | rfl | rfl
            · have CDo := docs_of bl P _ HOA.out
              rw [HPn.out] at CDo
              have HCDo := hideP CDo
              clear CDo
              go_wp2_with (go_at_call 12; refine HCDo.out.mono ?_; clear HCDo; rintro e W5 ⟨rfl, rfl⟩)
              go_roundw
              case rel => exact ⟨i + 1, by go_num, by omega, HKA, HOA, HSA⟩
              case measure => simp [intOf]; omega
            · have CT := hideP (total_of bl P _ HOA.out)
              have CT2 : Hid (∀ W, Kept (fun _ => False) w W → Calls Tryd.prog 14 #[.slice la n lc] W fun e w' => e = .returned (.int .i64 ((tot P : Nat) : Int)) ∧ Kept (fun _ => False) W w') := hideP (fun W k => by
                have h1 := dtot_any L la lc W (HP.out.kept k) (by rw [← HN.out]; omega) (by rw [← HPe.out]; have := HT2.out; omega)
                rw [← HN.out, ← HPe.out] at h1
                exact h1)
              generalize tot P = T at *
              go_wp2_with (first
                | (go_at_call 13; refine CT.out.mono ?_; clear CT; rintro e W5 ⟨rfl, rfl⟩; have CT3 := hideP (CT2.out _ HKA.out); clear CT2)
                | (go_at_call 14; refine CT3.out.mono ?_; clear CT3; rintro e W6 ⟨rfl, k6⟩; have HK6 := hideP (HKA.out.trans k6 (fun _ f => f.elim)); have HO6 := hideP (HOA.out.kept k6); have HS6 := hideP (HSA.out.kept k6); clear k6))
              go_roundw
              case rel => exact ⟨i + 1, by go_num, by omega, HK6, HO6, HS6⟩
              case measure => simp [intOf]; omega
            · have CBk := blocks_of bl P _ HOA.out
              rw [HPn.out, ← HM.out] at CBk
              have HCBk := hideP CBk
              clear CBk
              go_wp2_with (go_at_call 15; refine HCBk.out.mono ?_; clear HCBk; rintro e W5 ⟨rfl, rfl⟩)
              go_roundw
              case rel => exact ⟨i + 1, by go_num, by omega, HKA, HOA, HSA⟩
              case measure => simp [intOf]; omega
            · by_cases hK : 0 ≤ K ∧ K < (m : Int)
              · obtain ⟨k, rfl⟩ := Int.eq_ofNat_of_zero_le hK.1
                have hkm : k < m := by omega
                have hk0 : (0 : Int) ≤ (k : Int) := by omega
                have hkz : (k : Int) < (m : Int) := by omega
                have CSk := skip_in bl P k _ HOA.out (by rw [HPn.out, ← HM.out]; exact hkm)
                have e := skl_get k m P (-1) hkm
                have hkl : k < (skl (-1) (chp m P)).length := by rw [skl_len]; exact hkm
                rw [List.getElem?_eq_getElem hkl, Option.some.injEq] at e
                have HSc : Hid (∀ W, SkAt W a4 (skl (-1) (chp m P)) (hdl P) → ∃ sb so, a4 = some ⟨sb, so, none⟩ ∧ W.cell? ⟨sb, so + k * 4, none⟩ = some (.int .i64 (bbN (-1) P (k + 1))) ∧ W.cell? ⟨sb, so + k * 4 + 1, none⟩ = some (.int .i64 ((blN P k).length : Nat)) ∧ W.cell? ⟨sb, so + k * 4 + 2, none⟩ = some (.int .i64 (atN P k : Nat)) ∧ W.cell? ⟨sb, so + k * 4 + 3, none⟩ = some (.int .i64 ((blk (bbN (-1) P k) (blN P k)).length : Nat))) := hideP (fun W hW => by
                  obtain ⟨sb, so, e4, hc⟩ := hW (by intro e; rw [e] at hkl; simp at hkl)
                  obtain ⟨q0, q1, q2, q3⟩ := hc k hkl
                  rw [e] at q0 q1 q3
                  rw [skl_take k _ P (-1) (by omega), szs_skl, show hdl P + (bkb (-1) (chp k P)).length = atN P k from rfl] at q2
                  exact ⟨sb, so, e4, q0, q1, q2, q3⟩)
                unfold skV at CSk
                generalize bbN (-1) P (k + 1) = v0 at *
                generalize (blN P k).length = v1 at *
                generalize atN P k = v2 at *
                generalize (blk (bbN (-1) P k) (blN P k)).length = v3 at *
                have HCSk := hideP CSk
                clear CSk e hkl hK
                go_wp2_with (go_at_call 16; refine StpQ.go ?_)
                refine ⟨?_⟩
                refine HCSk.out.mono ?_
                clear HCSk
                rintro e W5 ⟨rfl, k5⟩
                have kB := Kept.alloc W5 (.cells #[.int .i64 v0, .int .i64 (v1 : Int), .int .i64 (v2 : Int), .int .i64 (v3 : Int)] 45)
                have HKB := hideP ((HKA.out.trans k5 (fun _ f => f.elim)).trans kB (fun _ f => f.elim))
                have HOB := hideP ((HOA.out.kept k5).kept kB)
                have HSB := hideP ((HSA.out.kept k5).kept kB)
                have y1 : (W5.alloc (.cells #[.int .i64 v0, .int .i64 (v1 : Int), .int .i64 (v2 : Int), .int .i64 (v3 : Int)] 45)).cell? ⟨wr.heap.size, 1, none⟩ = some (.int .i64 (k : Int)) := by rw [cell_of_row _ _ _ _ _ _ (kB.heap (k5.heap HGA.out (fun f => f)) (fun f => f))]; rfl
                have y1a : W5.cell? ⟨wr.heap.size, 1, none⟩ = some (.int .i64 (k : Int)) := by rw [cell_of_row _ _ _ _ _ _ (k5.heap HGA.out (fun f => f))]; rfl
                obtain ⟨⟨z0, z1, z2, z3⟩, -⟩ := skO_cells (skO_new W5 v0 (v1 : Int) (v2 : Int) (v3 : Int))
                obtain ⟨sb, so, hsa, q0, q1, q2, q3⟩ := HSc.out _ HSB.out
                subst hsa
                clear kB k5 x0 x1
                go_wp2_with fail
                generalize W5.alloc (.cells #[.int .i64 v0, .int .i64 (v1 : Int), .int .i64 (v2 : Int), .int .i64 (v3 : Int)] 45) = WB at *
                go_quiet (fail)
                have HKC := hideP (HKB.out.trans (Kept.drewN WB nq) (fun _ f => f.elim))
                have HOC := hideP (HOB.out.kept (Kept.drewN WB nq))
                have HSC := hideP (HSB.out.kept (Kept.drewN WB nq))
                go_wp2
                go_roundw
                case rel => exact ⟨i + 1, by go_num, by omega, HKC, HOC, HSC⟩
                case measure => simp [intOf]; omega
              · have CSk := skip_out bl P K _ HOA.out (by rw [HPn.out, ← HM.out]; omega)
                unfold skV at CSk
                have HCSk := hideP CSk
                have hKc : (decide (0 ≤ K) = false) ∨ (decide (0 ≤ K) = true ∧ decide (K < (m : Int)) = false) := by
                  by_cases h : 0 ≤ K
                  · exact .inr ⟨decide_eq_true h, decide_eq_false (by omega)⟩
                  · exact .inl (decide_eq_false h)
                clear CSk
                go_wp2_with (go_at_call 16; refine StpQ.go ?_)
                refine ⟨?_⟩
                refine HCSk.out.mono ?_
                clear HCSk
                rintro e W5 ⟨rfl, k5⟩
                have kB := Kept.alloc W5 (.cells #[.int .i64 0, .int .i64 0, .int .i64 0, .int .i64 0] 45)
                have HKB := hideP ((HKA.out.trans k5 (fun _ f => f.elim)).trans kB (fun _ f => f.elim))
                have HOB := hideP ((HOA.out.kept k5).kept kB)
                have HSB := hideP ((HSA.out.kept k5).kept kB)
                have y1 : (W5.alloc (.cells #[.int .i64 0, .int .i64 0, .int .i64 0, .int .i64 0] 45)).cell? ⟨wr.heap.size, 1, none⟩ = some (.int .i64 K) := by rw [cell_of_row _ _ _ _ _ _ (kB.heap (k5.heap HGA.out (fun f => f)) (fun f => f))]; rfl
                obtain ⟨⟨z0, z1, z2, z3⟩, -⟩ := skO_cells (skO_new W5 0 0 0 0)
                clear kB k5 x0 x1 hK
                rcases hKc with hk0 | ⟨hk0, hkz⟩
                all_goals
                  go_wp2_with fail
                  generalize W5.alloc (.cells #[.int .i64 0, .int .i64 0, .int .i64 0, .int .i64 0] 45) = WB at *
                  go_quiet (fail)
                  have HKC := hideP (HKB.out.trans (Kept.drewN WB nq) (fun _ f => f.elim))
                  have HOC := hideP (HOB.out.kept (Kept.drewN WB nq))
                  have HSC := hideP (HSB.out.kept (Kept.drewN WB nq))
                  go_wp2
                  go_roundw
                  case rel => exact ⟨i + 1, by go_num, by omega, HKC, HOC, HSC⟩
                  case measure => simp [intOf]; omega
            · have kE := Kept.alloc (wr.alloc (.cells #[.int .i64 kd, .int .i64 K] 40)) (.cells #[] 53)
              have HKE := hideP (HKA.out.trans kE (fun _ f => f.elim))
              have HOE := hideP (HOA.out.kept kE)
              have HSE := hideP (HSA.out.kept kE)
              have y1 : ((wr.alloc (.cells #[.int .i64 kd, .int .i64 K] 40)).alloc (.cells #[] 53)).cell? ⟨wr.heap.size, 1, none⟩ = some (.int .i64 K) := by rw [cell_of_row _ _ _ _ _ _ (kE.heap HGA.out (fun f => f))]; rfl
              clear kE
              by_cases hK : 0 ≤ K ∧ K < (m : Int)
              · obtain ⟨k, rfl⟩ := Int.eq_ofNat_of_zero_le hK.1
                have hkm : k < m := by omega
                have hk0 : (0 : Int) ≤ (k : Int) := by omega
                have hkz : (k : Int) < (m : Int) := by omega
                have h16 : 16 * k < n := by have := HM.out; unfold nbp at this; omega
                have hbl := blN_len P k
                rw [HPn.out] at hbl
                obtain ⟨f, hf⟩ : ∃ f, f = (blN P k).length := ⟨_, rfl⟩
                rw [← hf] at hbl
                obtain ⟨x7, hx7⟩ : ∃ x7, x7 = 16 * k := ⟨_, rfl⟩
                obtain ⟨to, hto⟩ : ∃ to, to = x7 + f := ⟨_, rfl⟩
                have hm16 : 16 * (k : Int) = (x7 : Int) := by omega
                have HMn : Hid ((to : Int) = if (n : Int) < (x7 : Int) + 16 then (n : Int) else (x7 : Int) + 16) := hideP (by split <;> omega)
                have hs3 : to - x7 = f := by omega
                have h7t : (x7 : Int) ≤ (to : Int) := by omega
                have htc : (to : Int) ≤ (lc : Int) := by omega
                have h7n : x7 < n := by omega
                have hcut := pol_cut HPe.out hf
                obtain ⟨lb, lo, hla, -⟩ := HP.out (by intro e; have := HN.out; rw [e] at this; simp at this; omega)
                subst hla
                have CBl := block_in bl P k ad _ HOE.out HGd.out (by rw [← HNe.out]; omega) (by rw [HPn.out, ← HM.out]; exact hkm) (HE.out.kept HKE.out)
                have CQ : Hid (∀ (W : World) (FL : List Pg) (pa : Option Addr) (pc : Nat), Kept (fun _ => False) w W → pol FL = blN P k → PsAt W pa FL → Calls Tryd.prog 17 #[.slice pa FL.length pc, .slice (some ⟨lb, lo + x7 * 2, none⟩) f (lc - x7)] W fun e w' => e = .returned (.bool true) ∧ Kept (fun _ => False) W w') := hideP (fun W FL pa pc kw hFL hps => by
                  have h1 := (HP.out.kept kw).cut x7 f
                  have h2 : pol FL = pol ((L.drop x7).take f) := by rw [hFL, hx7, hcut]
                  have hFn : FL.length = f := by rw [← pol_len, hFL, hf]
                  have h3 := psame_true FL ((L.drop x7).take f) pa _ pc (lc - x7) W hps h1 h2 (by omega) (by rw [hFL]; have := tot_dropN' P k; have := HT2.out; omega)
                  rw [show ((L.drop x7).take f).length = f by rw [← pol_len, ← h2, pol_len, hFn]] at h3
                  exact h3)
                have HCBl := hideP CBl
                clear hf hto hx7 hcut CBl hK hbl
                go_wp2_with (first
                  | (refine wpList_minP rfl _ _ rfl ((x7 : Int) + 16) (n : Int) (to : Int) rfl rfl HMn.out ?_)
                  | (go_at_call 18; refine HCBl.out.mono ?_; clear HCBl; rintro e W6 ⟨FL, pa, pc, hFL, rfl, hPs, hpc, hfar, k6⟩; have HK6 := hideP (HKE.out.trans k6 (fun _ f => f.elim)); have HO6 := hideP (HOE.out.kept k6); have HS6 := hideP (HSE.out.kept k6); have CQ6 := hideP (CQ.out W6 FL pa pc HK6.out hFL hPs); clear hFL hPs hpc hfar k6 CQ)
                  | (go_at_call 17; refine CQ6.out.mono ?_; clear CQ6; rintro e W7 ⟨rfl, k7⟩; have HK7 := hideP (HK6.out.trans k7 (fun _ f => f.elim)); have HO7 := hideP (HO6.out.kept k7); have HS7 := hideP (HS6.out.kept k7); clear k7))
                go_roundw
                case rel => exact ⟨i + 1, by go_num, by omega, HK7, HO7, HS7⟩
                case measure => simp [intOf]; omega
              · have CBl := hideP (block_out bl P K _ HOE.out (by rw [HPn.out, ← HM.out]; omega))
                have CQ := hideP (psame_true [] [] none (some ⟨wr.heap.size + 1, 0, none⟩) 0 0 ((wr.alloc (.cells #[.int .i64 kd, .int .i64 K] 40)).alloc (.cells #[] 53)) (fun e => (e rfl).elim) (fun e => (e rfl).elim) rfl (by decide) (by decide))
                rw [List.length_nil] at CQ
                have hKc : (decide (0 ≤ K) = false) ∨ (decide (0 ≤ K) = true ∧ decide (K < (m : Int)) = false) := by
                  by_cases h : 0 ≤ K
                  · exact .inr ⟨decide_eq_true h, decide_eq_false (by omega)⟩
                  · exact .inl (decide_eq_false h)
                clear hK
                rcases hKc with hk0 | ⟨hk0, hkz⟩
                all_goals
                  go_wp2_with (first
                    | (go_at_call 18; refine CBl.out.mono ?_; clear CBl; rintro e W6 ⟨rfl, rfl⟩)
                    | (go_at_call 17; refine CQ.out.mono ?_; clear CQ; rintro e W7 ⟨rfl, k7⟩; have HK7 := hideP (HKE.out.trans k7 (fun _ f => f.elim)); have HO7 := hideP (HOE.out.kept k7); have HS7 := hideP (HSE.out.kept k7); clear k7))
                  go_roundw
                  case rel => exact ⟨i + 1, by go_num, by omega, HK7, HO7, HS7⟩
                  case measure => simp [intOf]; omega
          · have hii : ¬ (i : Int) < (no : Int) := by omega
            go_wp2
            go_ret
            exact ⟨rfl, HK.out⟩
  · have HK2 := hideP (HK1.out.trans k2 (fun _ f => f.elim))
    have hor := flts_or (pol L) (-1)
    have hq : (fnm (flts (-1) (pol L)) != 0) = true := by
      rcases hor with e | e | e
      · exact absurd e h0
      · rw [e]; rfl
      · rw [e]; rfl
    clear hor h0 k2
    generalize fnm (flts (-1) (pol L)) = q at *
    go_wp2
    go_ret
    exact ⟨rfl, HK2.out⟩
end Go.Proofs.YtiiokafjfapnpaaDoor
