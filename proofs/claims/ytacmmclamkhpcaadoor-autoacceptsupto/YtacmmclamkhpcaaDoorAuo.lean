import Derived.Test.YtacmmclamkhpcaaDoorAum
namespace Go.Proofs.YtacmmclamkhpcaaDoor
open Go.ChangeShapes Go.WideShapes Go.ChangeAt Go.RowKit

/-! An automaton of any kind: what its next state is (nx), which states it comes to (Inv). -/
def st2 (nx : List Int → Nat → List Int) (S : List Int) (b : UInt8) : List Int := if S = [] then [] else nx S b.toNat
def runK (nx : List Int → Nat → List Int) (S0 : List Int) (l : List UInt8) : List Int := l.foldl (st2 nx) S0
theorem st2_dead (nx : List Int → Nat → List Int) : ∀ l : List UInt8, l.foldl (st2 nx) [] = []
  | [] => rfl
  | b :: l => by rw [List.foldl_cons]; exact st2_dead nx l
theorem runK_app (nx : List Int → Nat → List Int) (S0 : List Int) (l m : List UInt8) : runK nx S0 (l ++ m) = m.foldl (st2 nx) (runK nx S0 l) := by unfold runK; rw [List.foldl_append]
theorem runK_dead {nx : List Int → Nat → List Int} {S0 : List Int} {l : List UInt8} (h : runK nx S0 l = []) (m : List UInt8) : runK nx S0 (l ++ m) = [] := by rw [runK_app, h]; exact st2_dead nx m
/-- A kind's interface value, with its methods' contracts in every world that keeps w0. -/
structure Knd (w0 : World) (ty : TypeId) (ag : Value) (fN fA : FuncId) (nx : List Int → Nat → List Int) (ac : List Int → Bool) (Inv : List Int → Prop) : Prop where
  mN : ∀ w, (method 220 ty ag "concord/auto.next").run Tryd.prog w = .ok (fN, ag) w
  mA : ∀ w, (method 220 ty ag "concord/auto.accepts").run Tryd.prog w = .ok (fA, ag) w
  eN : ∀ args w, (callFunc fN args).run Tryd.prog w = .ok (.enter fN args) w
  eA : ∀ args w, (callFunc fA args).run Tryd.prog w = .ok (.enter fA args) w
  inv : ∀ S b, b < 256 → Inv S → S ≠ [] → Inv (nx S b)
  next : ∀ W S a c b, S.length ≤ c → Kept (fun _ => False) w0 W → NsAt W a S → Inv S → S ≠ [] → b < 256 → Calls Tryd.prog fN #[ag, .slice a S.length c, .int .u8 (b : Nat)] W fun e w' => (∃ a' c', e = .returned (.slice a' (nx S b).length c') ∧ NsAt w' a' (nx S b) ∧ (nx S b).length ≤ c') ∧ Kept (fun _ => False) W w'
  acc : ∀ W S a c, S.length ≤ c → Kept (fun _ => False) w0 W → NsAt W a S → Inv S → S ≠ [] → Calls Tryd.prog fA #[ag, .slice a S.length c] W fun e w' => e = .returned (.bool (ac S)) ∧ Kept (fun _ => False) W w'
/-- An automaton at block ba. -/
structure AuK (w : World) (ba : Nat) (ty : TypeId) (ag : Value) (S0 : List Int) (sa : Option Addr) (sc : Nat) : Prop where
  c0 : w.cell? ⟨ba, 0, none⟩ = some (.iface ty ag)
  c1 : w.cell? ⟨ba, 1, none⟩ = some (.slice sa S0.length sc)
  s : NsAt w sa S0
  cap : S0.length ≤ sc
theorem AuK.kept {w w' : World} {ba : Nat} {ty : TypeId} {ag : Value} {S0 : List Int} {sa : Option Addr} {sc : Nat} (h : AuK w ba ty ag S0 sa sc) (k : Kept (fun _ => False) w w') : AuK w' ba ty ag S0 sa sc :=
  ⟨k.cell h.c0 (fun f => f), k.cell h.c1 (fun f => f), h.s.kept k, h.cap⟩
set_option maxRecDepth 20000 in
set_option maxHeartbeats 4000000 in
theorem behindK_any {w0 : World} {ty : TypeId} {ag : Value} {fN fA : FuncId} {nx : List Int → Nat → List Int} {ac : List Int → Bool} {Inv : List Int → Prop} (hK : Knd w0 ty ag fN fA nx ac Inv) (S0 : List Int) (hI0 : Inv S0) (sa : Option Addr) (sc ba : Nat) (l : List UInt8) (w : World) (hw : Kept (fun _ => False) w0 w) (hA : AuK w ba ty ag S0 sa sc) (hl : l.length ≤ 1099511627776) :
    Calls Tryd.prog 21 #[.pointer (some ⟨ba, 0, none⟩), .string (bq l)] w fun e w' => (∃ a c t, e = .returned (.tuple #[.slice a (runK nx S0 l).length c, .int .i64 t]) ∧ NsAt w' a (runK nx S0 l) ∧ Inv (runK nx S0 l) ∧ (runK nx S0 l).length ≤ c) ∧ Kept (fun _ => False) w w' := by
  obtain ⟨Z, hZ⟩ : ∃ Z, Z = runK nx S0 l := ⟨_, rfl⟩
  obtain ⟨s, hs⟩ : ∃ s, s = bq l := ⟨_, rfl⟩
  have HX : Hid (∀ k (h : k < l.length) (h2 : k < s.size), s[k] = l[k]) := hideG (fun k h h2 => by subst hs; rfl)
  obtain ⟨N, hN⟩ : ∃ N, N = s.size := ⟨_, rfl⟩
  have hNl : N = l.length := by rw [hN, hs]; exact bq_size l
  have HNl := hideG hNl
  rw [← hs, ← hZ]
  have HZ := hideG hZ
  have c1 := hA.c1
  have HC0 : Hid (∀ W, Kept (fun _ => False) w W → W.cell? ⟨ba, 0, none⟩ = some (.iface ty ag)) := hideG (fun W k => k.cell hA.c0 (fun f => f))
  have HA := hideG hA
  have HKn := hideG hK
  have HW0 := hideG hw
  have HI0 := hideG hI0
  obtain ⟨n0, hn0⟩ : ∃ n0, n0 = S0.length := ⟨_, rfl⟩
  rw [← hn0] at c1
  have HN0 := hideG hn0
  have hln : N ≤ 1099511627776 := by omega
  clear hA hZ hs hNl hn0 hl hK hw hI0
  go_enter Tryd.func21, Tryd.ntmps21
  go_wp2
  go_loopw [6, 14] (fun v kw wr => ∃ (k n : Nat) (a : Option Addr) (c : Nat) (S : List Int), k ≤ N ∧ kw = .int .i64 k ∧ v = .slice a n c ∧ Hid (n = S.length) ∧ Hid (S = (l.take k).foldl (st2 nx) S0) ∧ Hid (Inv S) ∧ Hid (NsAt wr a S ∧ n ≤ c) ∧ Hid (Kept (fun _ => False) w wr)) (fun _ kw _ => N - (intOf kw).toNat)
  case atStart => exact ⟨0, n0, sa, sc, S0, by omega, rfl, rfl, HN0, hideG (by rw [List.take_zero]; rfl), HI0, hideG ⟨HA.out.s, by rw [HN0.out]; exact HA.out.cap⟩, hideG (Kept.refl _ _)⟩
  case round =>
    obtain ⟨k, n, a, c, S, hk, rfl, rfl, HS, HF, HIv, HNs, HK⟩ := hrel
    clear c1 HN0
    by_cases hlt : k < N
    · have hkl : k < l.length := by rw [← HNl.out]; exact hlt
      have hks : k < s.size := by rw [← hN]; exact hlt
      have hkk : (k : Int) < (N : Int) := by omega
      have y0 := HX.out k hkl hks
      have HFk : Hid ((l.take (k + 1)).foldl (st2 nx) S0 = st2 nx S l[k]) := hideG (by rw [List.take_succ_eq_append_getElem hkl, List.foldl_append, ← HF.out]; rfl)
      have HDr : Hid (Z = (l.drop k).foldl (st2 nx) S) := hideG (by rw [HZ.out, HF.out]; unfold runK; rw [← List.foldl_append, List.take_append_drop])
      generalize l[k] = lk at *
      obtain ⟨x, hx⟩ : ∃ x, x = lk.toNat := ⟨_, rfl⟩
      have y1 : s[k].toNat = x := by rw [y0, hx]
      have hxb : x < 256 := by rw [hx]; exact lk.toNat_lt
      have HXx := hideG hx
      clear y0 hx
      rcases Nat.eq_zero_or_pos n with hn0 | hn0
      · subst hn0
        have hS0 : S = [] := List.length_eq_zero_iff.1 HS.out.symm
        have HQ : Hid (Z = []) := hideG (by rw [HDr.out, hS0]; exact st2_dead nx _)
        obtain rfl : Z = [] := HQ.out
        rw [hS0] at HIv
        clear hS0 HFk HDr HC0
        go_wp2_with (go_at_call 22; refine (isAlive_any a 0 c wr).mono ?_; rintro e W ⟨rfl, e2⟩; subst e2)
        go_ret2
        exact ⟨⟨none, 0, _, rfl, fun h => absurd rfl h, HIv.out, Nat.le_refl _⟩, HK.out⟩
      · have hne : S ≠ [] := by intro e; have := HS.out; rw [e] at this; simp at this; omega
        have HQ : Hid (st2 nx S lk = nx S x) := hideG (by unfold st2; rw [if_neg hne, ← HXx.out])
        have HD : Hid (decide (0 < n) = true) := hideG (decide_eq_true hn0)
        have HIn : Hid (Inv (nx S x)) := hideG (HKn.out.inv S x hxb HIv.out hne)
        have kd := HK.out.trans (Kept.drewA wr 1) (fun _ f => f.elim)
        have hS6 : Kept (fun _ => False) w wr.drew := kd
        have CN := hideG (HKn.out.next wr.drew S a c x (by rw [← HS.out]; exact HNs.out.2) (HW0.out.trans kd (fun _ f => f.elim)) (HNs.out.1.kept (Kept.drewA wr 1)) HIv.out hne hxb)
        rw [← HS.out] at CN
        have M1 := HKn.out.mN
        have M2 := HKn.out.eN
        clear hne HDr
        go_wp2_with (go_at_call 22; refine (isAlive_any a n c wr).mono ?_; rintro e W ⟨rfl, e2⟩; subst e2; rw [HD.out])
        refine wp_region_held (S := fun W => Kept (fun _ => False) w W) (by kernel_rfl) ?_
        change wpAnyH _ _ _ _ _ _ _ _ (World.drew _)
        refine takeHA (i := 0) (d := 21) (v := .pointer (some ⟨ba, 0, none⟩)) rfl rfl (by kernel_rfl) (by kernel_rfl) (by kernel_rfl) (fun _ _ _ h => h) (Or.inl ⟨by rfl, fun W hW => ?_⟩) hS6 ?_
        · go_simp
        simp only [Act.put, List.setIfInBounds_toArray, List.set_cons_zero, List.set_cons_succ]
        refine takeHA (i := 1) (d := 22) (v := .pointer (some ⟨ba, 0, none⟩)) rfl rfl (by kernel_rfl) (by kernel_rfl) (by kernel_rfl) (fun _ _ _ h => h) (Or.inl ⟨by rfl, fun W hW => ?_⟩) hS6 ?_
        · go_simp
        simp only [Act.put, List.setIfInBounds_toArray, List.set_cons_zero, List.set_cons_succ]
        refine takeHA (i := 2) (d := 23) (v := .pointer (some ⟨ba, 0, none⟩)) rfl rfl (by kernel_rfl) (by kernel_rfl) (by kernel_rfl) (fun _ _ _ h => h) (Or.inl ⟨by rfl, fun W hW => ?_⟩) hS6 ?_
        · go_simp
        simp only [Act.put, List.setIfInBounds_toArray, List.set_cons_zero, List.set_cons_succ]
        refine takeHA (i := 3) (d := 24) (v := .iface ty ag) rfl rfl (by kernel_rfl) (by kernel_rfl) (by kernel_rfl) (fun _ _ _ h => h) (Or.inl ⟨by rfl, fun W hW => ?_⟩) hS6 ?_
        · (have hcW := HC0.out W hW; go_simp)
        simp only [Act.put, List.setIfInBounds_toArray, List.set_cons_zero, List.set_cons_succ]
        refine takeHA (i := 4) (d := 25) (v := .slice a n c) rfl rfl (by kernel_rfl) (by kernel_rfl) (by kernel_rfl) (fun _ _ _ h => h) (Or.inl ⟨by rfl, fun W hW => ?_⟩) hS6 ?_
        · go_simp
        simp only [Act.put, List.setIfInBounds_toArray, List.set_cons_zero, List.set_cons_succ]
        refine takeHA (i := 5) (d := 26) (v := .string s) rfl rfl (by kernel_rfl) (by kernel_rfl) (by kernel_rfl) (fun _ _ _ h => h) (Or.inl ⟨by rfl, fun W hW => ?_⟩) hS6 ?_
        · go_simp
        simp only [Act.put, List.setIfInBounds_toArray, List.set_cons_zero, List.set_cons_succ]
        refine takeHA (i := 6) (d := 27) (v := .int .i64 k) rfl rfl (by kernel_rfl) (by kernel_rfl) (by kernel_rfl) (fun _ _ _ h => h) (Or.inl ⟨by rfl, fun W hW => ?_⟩) hS6 ?_
        · go_simp
        simp only [Act.put, List.setIfInBounds_toArray, List.set_cons_zero, List.set_cons_succ]
        refine takeHA (i := 7) (d := 28) (v := .int .u8 x) rfl rfl (by kernel_rfl) (by kernel_rfl) (by kernel_rfl) (fun _ _ _ h => h) (Or.inl ⟨by rfl, fun W hW => ?_⟩) hS6 ?_
        · go_simp
        simp only [Act.put, List.setIfInBounds_toArray, List.set_cons_zero, List.set_cons_succ]
        refine takeHA (i := 8) (d := 29) (v := .iface ty ag) rfl rfl (by kernel_rfl) (by kernel_rfl) (by kernel_rfl) (fun _ _ _ h => h) (Or.inl ⟨by rfl, fun W hW => ?_⟩) hS6 ?_
        · go_simp
        simp only [Act.put, List.setIfInBounds_toArray, List.set_cons_zero, List.set_cons_succ]
        refine takeHA (i := 9) (d := 30) (v := .iface ty ag) rfl rfl (by kernel_rfl) (by kernel_rfl) (by kernel_rfl) (fun _ _ _ h => h) (Or.inl ⟨by rfl, fun W hW => ?_⟩) hS6 ?_
        · go_simp
        simp only [Act.put, List.setIfInBounds_toArray, List.set_cons_zero, List.set_cons_succ]
        refine wpAnyH_all (rs := [10]) (by kernel_rfl) (by simp) ?_
        intro i hi
        obtain rfl : i = 10 := by simpa using hi
        unfold wpOp
        go_simp
        first | refine CN.out.mono ?_ | refine Or.inl (CN.out.mono ?_)
        clear CN
        rintro e W8 ⟨⟨a1, c1, rfl, hN1, hc1⟩, K8'⟩
        have K8 := kd.trans K8' (fun _ f => f.elim)
        obtain ⟨n1, hn1⟩ : ∃ n1, n1 = (nx S x).length := ⟨_, rfl⟩
        rw [← hn1] at hc1 ⊢
        have HG1 := hideG (And.intro hN1 hc1)
        have HN1 := hideG hn1
        clear hN1 hn1 hc1
        refine ⟨K8, ?_⟩
        refine takeHA (i := 11) (d := 6) (v := .slice a1 n1 c1) rfl rfl (by kernel_rfl) (by kernel_rfl) (by kernel_rfl) (fun _ _ _ h => h) (Or.inl ⟨by rfl, fun W hW => ?_⟩) K8 ?_
        · go_simp
        simp only [Act.put, List.setIfInBounds_toArray, List.set_cons_zero, List.set_cons_succ]
        refine wpAnyH_done (by kernel_rfl) ?_ _
        go_wp2
        go_roundw
        case rel => exact ⟨k + 1, n1, a1, c1, nx S x, by omega, by go_num, rfl, HN1, hideG (by rw [HFk.out, HQ.out]), HIn, HG1, hideG K8⟩
        case measure => simp [intOf]; omega
    · obtain rfl : k = N := by omega
      have HQ : Hid (Z = S) := hideG (by rw [HZ.out, HF.out, List.take_of_length_le (by rw [HNl.out]; exact Nat.le_refl _)]; rfl)
      obtain rfl : Z = S := HQ.out
      have hnn := HS.out
      clear HQ HF HC0
      go_wp2
      go_ret2
      subst hnn
      exact ⟨⟨a, c, _, rfl, HNs.out.1, HIv.out, HNs.out.2⟩, HK.out⟩
end Go.Proofs.YtacmmclamkhpcaaDoor
