import Derived.Test.YtacmmclamkhpcaaDoorAuc
import Derived.OrdersHeld
import Derived.Deep.QuietTactic
import Derived.BigQuiet
namespace Go.Proofs.YtacmmclamkhpcaaDoor
open Go.ChangeShapes Go.WideShapes Go.ChangeAt Go.RowKit

/-! Lists that rise. -/
def Rise (L : List Nat) : Prop := L.Pairwise (· < ·)
theorem rise_last : ∀ {L : List Nat} {y : Nat}, Rise L → L.getLast? = some y → ∀ x ∈ L, x ≤ y := by
  intro L
  induction L with
  | nil => intro y _ h; cases h
  | cons a r ih =>
    intro y hR hl x hx
    obtain ⟨h1, h2⟩ := List.pairwise_cons.1 hR
    cases r with
    | nil =>
      simp at hl hx
      omega
    | cons b q =>
      have hl2 : (b :: q).getLast? = some y := by rw [List.getLast?_cons_cons] at hl; exact hl
      have hy : y ∈ b :: q := List.mem_of_getLast? hl2
      rcases List.mem_cons.1 hx with rfl | hx
      · exact Nat.le_of_lt (h1 y hy)
      · exact ih h2 hl2 x hx
theorem rise_snoc {L : List Nat} {i : Nat} (h : Rise L) (hi : ∀ x ∈ L, x < i) : Rise (L ++ [i]) := by
  refine List.pairwise_append.2 ⟨h, List.pairwise_singleton _ _, ?_⟩
  intro a ha b hb
  rw [List.mem_singleton] at hb
  subst hb
  exact hi a ha
theorem rise_rchA {E : List Int} {L : List Nat} {i : Nat} (h : Rise L) (hi : ∀ x ∈ L, x < i) : Rise (rchA E L i) := by
  unfold rchA
  split
  · have := rise_snoc (i := i + 1) (rise_snoc h hi) (by
      intro x hx
      rcases List.mem_append.1 hx with hx | hx
      · have := hi x hx; omega
      · rw [List.mem_singleton] at hx; omega)
    rw [List.append_assoc] at this
    exact this
  · exact rise_snoc h hi
theorem rise_rch {E : List Int} {L : List Nat} {i : Nat} (h : Rise L) : Rise (rch E L i) := by
  unfold rch
  split
  · rename_i y hy
    split
    · exact h
    · rename_i hn
      exact rise_rchA h (fun x hx => by have := rise_last h hy x hx; omega)
  · rename_i hy
    have : L = [] := List.getLast?_eq_none_iff.1 hy
    subst this
    exact rise_rchA h (fun x hx => by cases hx)
theorem rise_nxW {E : List Int} {b : Nat} {L : List Nat} {i : Nat} (h : Rise L) : Rise (nxW E b L i) := by
  unfold nxW
  have h1 : Rise (if 0 < i ∧ E[i - 1]? = some 257 then rch E L i else L) := by
    split
    · exact rise_rch h
    · exact h
  simp only []
  split
  · exact rise_rch h1
  · exact h1
theorem rise_nxt {E : List Int} {b : Nat} {S : List Nat} : Rise (nxt E b S) := by
  have : ∀ (S L : List Nat), Rise L → Rise (S.foldl (nxW E b) L) := by
    intro S
    induction S with
    | nil => exact fun L h => h
    | cons i S ih => exact fun L h => ih _ (rise_nxW h)
  exact this S [] List.Pairwise.nil
theorem rise_len {M : Nat} : ∀ {L : List Nat} {lo : Nat}, Rise L → (∀ x ∈ L, lo ≤ x ∧ x ≤ M) → L.length ≤ M + 1 - lo := by
  intro L
  induction L with
  | nil => intro lo _ _; simp
  | cons a r ih =>
    intro lo hR hx
    obtain ⟨h1, h2⟩ := List.pairwise_cons.1 hR
    have := ih (lo := a + 1) h2 (fun x hxr => ⟨h1 x hxr, (hx x (List.mem_cons_of_mem _ hxr)).2⟩)
    have := hx a List.mem_cons_self
    rw [List.length_cons]
    omega
/-- The state behind a text. -/
def st1 (E : List Int) (S : List Nat) (b : UInt8) : List Nat := if S = [] then [] else nxt E b.toNat S
def runW (E : List Int) (l : List UInt8) : List Nat := l.foldl (st1 E) (rch E [] 0)
theorem st1_dead (E : List Int) : ∀ l : List UInt8, l.foldl (st1 E) [] = []
  | [] => rfl
  | b :: l => by rw [List.foldl_cons]; exact st1_dead E l
structure WSt (E : List Int) (S : List Nat) : Prop where
  r : Rise S
  a : ∀ x ∈ S, x ≤ E.length
theorem wst_start (E : List Int) : WSt E (rch E [] 0) := ⟨rise_rch List.Pairwise.nil, rch_all (fun x h => by cases h) (Nat.zero_le _)⟩
theorem wst_next {E : List Int} {S : List Nat} (b : Nat) (h : WSt E S) : WSt E (nxt E b S) := ⟨rise_nxt, nxt_all h.a⟩
theorem WSt.len {E : List Int} {S : List Nat} (h : WSt E S) : S.length ≤ E.length + 1 := by
  have := rise_len (M := E.length) (lo := 0) h.r (fun x hx => ⟨Nat.zero_le _, h.a x hx⟩)
  omega
theorem isAlive_any (a : Option Addr) (n c : Nat) (w : World) : Calls Tryd.prog 22 #[.slice a n c] w fun e w' => e = .returned (.bool (decide (0 < n))) ∧ w' = w := by
  by_cases h : 0 < n
  · have h1 : (0 : Int) < (n : Int) := by omega
    rw [decide_eq_true h]
    go_enter Tryd.func22, Tryd.ntmps22
    go_wp2
    go_ret
    exact ⟨rfl, rfl⟩
  · have h1 : ¬ ((0 : Int) < (n : Int)) := by omega
    rw [decide_eq_false h]
    go_enter Tryd.func22, Tryd.ntmps22
    go_wp2
    go_ret
    exact ⟨rfl, rfl⟩
/-- An automaton of a pattern, at block ba. -/
structure WAu (w : World) (ba : Nat) (E : List Int) (ea : Option Addr) (ec : Nat) (p : ByteArray) (sa : Option Addr) (sc : Nat) : Prop where
  c0 : w.cell? ⟨ba, 0, none⟩ = some (.iface 77 (.agg #[.slice ea E.length ec, .string p]))
  c1 : w.cell? ⟨ba, 1, none⟩ = some (.slice sa (rch E [] 0).length sc)
  e : NsAt w ea E
  s : NsAt w sa (nz (rch E [] 0))
theorem WAu.kept {w w' : World} {ba : Nat} {E : List Int} {ea : Option Addr} {ec : Nat} {p : ByteArray} {sa : Option Addr} {sc : Nat} (h : WAu w ba E ea ec p sa sc) (k : Kept (fun _ => False) w w') : WAu w' ba E ea ec p sa sc :=
  ⟨k.cell h.c0 (fun f => f), k.cell h.c1 (fun f => f), h.e.kept k, h.s.kept k⟩
theorem methS (v : Value) (w : World) : (method 220 77 v "concord/auto.start").run Tryd.prog w = .ok (67, v) w := by kernel_rfl
set_option maxRecDepth 20000 in
set_option maxHeartbeats 4000000 in
theorem newAutoW_any (E : List Int) (ea : Option Addr) (ec : Nat) (p : ByteArray) (w : World) (hE : NsAt w ea E) (hEl : E.length ≤ 1099511626000) :
    Calls Tryd.prog 27 #[.iface 77 (.agg #[.slice ea E.length ec, .string p])] w fun e w' => (∃ ba sa sc, e = .returned (.pointer (some ⟨ba, 0, none⟩)) ∧ WAu w' ba E ea ec p sa sc) ∧ Kept (fun _ => False) w w' := by
  have CS := hideG (wstart_any E ea ec p w hE (by omega))
  have M0 := methS
  have HE := hideG hE
  clear hE
  go_enter Tryd.func27, Tryd.ntmps27
  go_wp2_with (go_at_call 67; refine CS.out.mono ?_; clear CS; rintro e W ⟨a, c, rfl, G⟩; have HG := hideG G; clear G)
  go_ret
  have ka := Kept.alloc W (.cells #[.iface 77 (.agg #[.slice ea E.length ec, .string p]), .slice a (rch E [] 0).length c] 60)
  refine ⟨⟨W.heap.size, a, c, rfl, by simp, by simp, (HE.out.kept HG.out.kept).kept ka, (NsAt.of_gro HG.out).kept ka⟩, HG.out.kept.trans ka (fun _ f => f.elim)⟩
theorem takeHA {P : Program} {ops : Array Oper} {Q : Exit → Act → World → Prop} {md : Region.Mode} {S : World → Prop} {i d : Nat} {oi : Oper} {v : Value} {fuel : Nat} {listed : Array Bool} {a : Act} {w : World} (hi : ops[i]? = some oi) (hd : oi.dst = some d)
    (hs : Region.noSelect ops = true) (hf : Region.free md ops listed i = true) (hr : (Region.ready md ops listed).contains i = true)
    (hQ : ∀ c a w, Q (.panic c) (a.put (some d) v) w → Q (.panic c) a w) (hy : YieldsIf P ops S oi v a) (hS : S w)
    (h : wpAnyH P md ops Q S fuel (listed.setIfInBounds i true) (a.put (some d) v) w) : wpAnyH P md ops Q S (fuel + 1) listed a w := by
  rw [← hd] at hQ h
  exact wpAnyH_take hi hs hf hr hQ hy hS h
theorem methN (v : Value) (w : World) : (method 220 77 v "concord/auto.next").run Tryd.prog w = .ok (66, v) w := by kernel_rfl
theorem methA (v : Value) (w : World) : (method 220 77 v "concord/auto.accepts").run Tryd.prog w = .ok (64, v) w := by kernel_rfl
set_option maxRecDepth 20000 in
set_option maxHeartbeats 4000000 in
theorem behindW_any (E : List Int) (ea : Option Addr) (ec : Nat) (p : ByteArray) (sa : Option Addr) (sc ba : Nat) (l : List UInt8) (w : World) (hA : WAu w ba E ea ec p sa sc) (hEl : E.length ≤ 137438953000) (hl : l.length ≤ 1099511627776) :
    Calls Tryd.prog 21 #[.pointer (some ⟨ba, 0, none⟩), .string (bq l)] w fun e w' => (∃ a c t, e = .returned (.tuple #[.slice a (runW E l).length c, .int .i64 t]) ∧ NsAt w' a (nz (runW E l))) ∧ Kept (fun _ => False) w w' := by
  obtain ⟨Z, hZ⟩ : ∃ Z, Z = runW E l := ⟨_, rfl⟩
  obtain ⟨s, hs⟩ : ∃ s, s = bq l := ⟨_, rfl⟩
  have HX : Hid (∀ k (h : k < l.length) (h2 : k < s.size), s[k] = l[k]) := hideG (fun k h h2 => by subst hs; rfl)
  obtain ⟨N, hN⟩ : ∃ N, N = s.size := ⟨_, rfl⟩
  have hNl : N = l.length := by rw [hN, hs]; exact bq_size l
  have HNl := hideG hNl
  rw [← hs, ← hZ]
  have HZ := hideG hZ
  have c1 := hA.c1
  obtain ⟨m, hm⟩ : ∃ m, m = E.length := ⟨_, rfl⟩
  have HM := hideG hm
  have HC0 : Hid (∀ W, Kept (fun _ => False) w W → W.cell? ⟨ba, 0, none⟩ = some (.iface 77 (.agg #[.slice ea m ec, .string p]))) := hideG (fun W k => by rw [hm]; exact k.cell hA.c0 (fun f => f))
  have HA := hideG hA
  obtain ⟨n0, hn0⟩ : ∃ n0, n0 = (rch E [] 0).length := ⟨_, rfl⟩
  rw [← hn0] at c1
  have HN0 := hideG hn0
  have HEl := hideG hEl
  have hln : N ≤ 1099511627776 := by omega
  clear hA hZ hs hNl hn0 hEl hl hm
  go_enter Tryd.func21, Tryd.ntmps21
  go_wp2
  go_loopw [6, 14] (fun v kw wr => ∃ (k n : Nat) (a : Option Addr) (c : Nat) (S : List Nat), k ≤ N ∧ kw = .int .i64 k ∧ v = .slice a n c ∧ Hid (n = S.length) ∧ Hid (S = (l.take k).foldl (st1 E) (rch E [] 0)) ∧ Hid (WSt E S) ∧ Hid (NsAt wr a (nz S)) ∧ Hid (Kept (fun _ => False) w wr)) (fun _ kw _ => N - (intOf kw).toNat)
  case atStart => exact ⟨0, n0, sa, sc, rch E [] 0, by omega, rfl, rfl, HN0, hideG (by rw [List.take_zero]; rfl), hideG (wst_start E), hideG HA.out.s, hideG (Kept.refl _ _)⟩
  case round =>
    obtain ⟨k, n, a, c, S, hk, rfl, rfl, HS, HF, HW, HNs, HK⟩ := hrel
    clear c1 HN0
    by_cases hlt : k < N
    · have hkl : k < l.length := by rw [← HNl.out]; exact hlt
      have hks : k < s.size := by rw [← hN]; exact hlt
      have hkk : (k : Int) < (N : Int) := by omega
      have y0 := HX.out k hkl hks
      have HFk : Hid ((l.take (k + 1)).foldl (st1 E) (rch E [] 0) = st1 E S l[k]) := hideG (by rw [List.take_succ_eq_append_getElem hkl, List.foldl_append, ← HF.out]; rfl)
      have HDr : Hid (Z = (l.drop k).foldl (st1 E) S) := hideG (by rw [HZ.out, HF.out]; unfold runW; rw [← List.foldl_append, List.take_append_drop])
      generalize l[k] = lk at *
      obtain ⟨x, hx⟩ : ∃ x, x = lk.toNat := ⟨_, rfl⟩
      have y1 : s[k].toNat = x := by rw [y0, hx]
      have hxb : x < 256 := by rw [hx]; exact lk.toNat_lt
      have HXx := hideG hx
      clear y0 hx
      rcases Nat.eq_zero_or_pos n with hn0 | hn0
      · subst hn0
        have hS0 : S = [] := List.length_eq_zero_iff.1 HS.out.symm
        have HQ : Hid (Z = []) := hideG (by rw [HDr.out, hS0]; exact st1_dead E _)
        obtain rfl : Z = [] := HQ.out
        clear hS0 HFk HDr HC0
        go_wp2_with (go_at_call 22; refine (isAlive_any a 0 c wr).mono ?_; rintro e W ⟨rfl, e2⟩; subst e2)
        go_ret2
        exact ⟨⟨none, 0, _, rfl, fun h => absurd rfl h⟩, HK.out⟩
      · have hne : S ≠ [] := by intro e; have := HS.out; rw [e] at this; simp at this; omega
        have HQ : Hid (st1 E S lk = nxt E x S) := hideG (by unfold st1; rw [if_neg hne, ← HXx.out])
        have HD : Hid (decide (0 < n) = true) := hideG (decide_eq_true hn0)
        have kd := HK.out.trans (Kept.drewA wr 1) (fun _ f => f.elim)
        have hS6 : Kept (fun _ => False) w wr.drew := kd
        have CN := hideG (wnext_any E ea ec p wr.drew S a c x (HA.out.kept kd).e (HNs.out.kept (Kept.drewA wr 1)) (by have := HW.out.len; have := HEl.out; omega) HW.out.a (by have := HEl.out; omega) hxb)
        rw [← HM.out, ← HS.out] at CN
        have M1 := methN
        clear hne HDr
        go_wp2_with (go_at_call 22; refine (isAlive_any a n c wr).mono ?_; rintro e W ⟨rfl, e2⟩; subst e2; rw [HD.out])
        refine wp_region_held (S := fun W => Kept (fun _ => False) w W) (by kernel_rfl) ?_
        change wpAnyH _ _ _ _ _ _ _ _ (World.drew _)
        refine takeHA (i := 0) (d := 21) (v := .pointer (some ⟨ba, 0, none⟩)) rfl rfl (by kernel_rfl) (by kernel_rfl) (by kernel_rfl) (fun _ _ _ h => h) (Or.inl ⟨by rfl, fun W hW => ?_⟩) hS6 ?_
        · go_simp
        simp only [Act.put, List.setIfInBounds_toArray, List.set_cons_zero, List.set_cons_succ]
        refine takeHA (i := 1) (d := 22) (v := .pointer (some ⟨ba, 0, none⟩)) rfl rfl (by kernel_rfl) (by kernel_rfl) (by kernel_rfl) (fun _ _ _ h => h) (Or.inl ⟨by rfl, fun W hW => ?_⟩) hS6 ?_
        · go_simp
        simp only [Act.put, List.setIfInBounds_toArray, List.set_cons_zero, List.set_cons_succ]
        refine takeHA (i := 2) (d := 23) (v := .pointer (some ⟨ba, 0, none⟩)) rfl rfl (by kernel_rfl) (by kernel_rfl) (by kernel_rfl) (fun _ _ _ h => h) (Or.inl ⟨by rfl, fun W hW => ?_⟩) hS6 ?_
        · go_simp
        simp only [Act.put, List.setIfInBounds_toArray, List.set_cons_zero, List.set_cons_succ]
        refine takeHA (i := 3) (d := 24) (v := .iface 77 (.agg #[.slice ea m ec, .string p])) rfl rfl (by kernel_rfl) (by kernel_rfl) (by kernel_rfl) (fun _ _ _ h => h) (Or.inl ⟨by rfl, fun W hW => ?_⟩) hS6 ?_
        · (have hcW := HC0.out W hW; go_simp)
        simp only [Act.put, List.setIfInBounds_toArray, List.set_cons_zero, List.set_cons_succ]
        refine takeHA (i := 4) (d := 25) (v := .slice a n c) rfl rfl (by kernel_rfl) (by kernel_rfl) (by kernel_rfl) (fun _ _ _ h => h) (Or.inl ⟨by rfl, fun W hW => ?_⟩) hS6 ?_
        · go_simp
        simp only [Act.put, List.setIfInBounds_toArray, List.set_cons_zero, List.set_cons_succ]
        refine takeHA (i := 5) (d := 26) (v := .string s) rfl rfl (by kernel_rfl) (by kernel_rfl) (by kernel_rfl) (fun _ _ _ h => h) (Or.inl ⟨by rfl, fun W hW => ?_⟩) hS6 ?_
        · go_simp
        simp only [Act.put, List.setIfInBounds_toArray, List.set_cons_zero, List.set_cons_succ]
        refine takeHA (i := 6) (d := 27) (v := .int .i64 k) rfl rfl (by kernel_rfl) (by kernel_rfl) (by kernel_rfl) (fun _ _ _ h => h) (Or.inl ⟨by rfl, fun W hW => ?_⟩) hS6 ?_
        · go_simp
        simp only [Act.put, List.setIfInBounds_toArray, List.set_cons_zero, List.set_cons_succ]
        refine takeHA (i := 7) (d := 28) (v := .int .u8 x) rfl rfl (by kernel_rfl) (by kernel_rfl) (by kernel_rfl) (fun _ _ _ h => h) (Or.inl ⟨by rfl, fun W hW => ?_⟩) hS6 ?_
        · go_simp
        simp only [Act.put, List.setIfInBounds_toArray, List.set_cons_zero, List.set_cons_succ]
        refine takeHA (i := 8) (d := 29) (v := .iface 77 (.agg #[.slice ea m ec, .string p])) rfl rfl (by kernel_rfl) (by kernel_rfl) (by kernel_rfl) (fun _ _ _ h => h) (Or.inl ⟨by rfl, fun W hW => ?_⟩) hS6 ?_
        · go_simp
        simp only [Act.put, List.setIfInBounds_toArray, List.set_cons_zero, List.set_cons_succ]
        refine takeHA (i := 9) (d := 30) (v := .iface 77 (.agg #[.slice ea m ec, .string p])) rfl rfl (by kernel_rfl) (by kernel_rfl) (by kernel_rfl) (fun _ _ _ h => h) (Or.inl ⟨by rfl, fun W hW => ?_⟩) hS6 ?_
        · go_simp
        simp only [Act.put, List.setIfInBounds_toArray, List.set_cons_zero, List.set_cons_succ]
        refine wpAnyH_all (rs := [10]) (by kernel_rfl) (by simp) ?_
        intro i hi
        obtain rfl : i = 10 := by simpa using hi
        unfold wpOp
        go_simp
        first | refine CN.out.mono ?_ | refine Or.inl (CN.out.mono ?_)
        clear CN
        rintro e W8 ⟨a1, c1, rfl, G1⟩
        have HG1 := hideG G1
        have K8 := kd.trans G1.kept (fun _ f => f.elim)
        obtain ⟨n1, hn1⟩ : ∃ n1, n1 = (nxt E x S).length := ⟨_, rfl⟩
        rw [← hn1]
        have HN1 := hideG hn1
        clear G1 hn1
        refine ⟨K8, ?_⟩
        refine takeHA (i := 11) (d := 6) (v := .slice a1 n1 c1) rfl rfl (by kernel_rfl) (by kernel_rfl) (by kernel_rfl) (fun _ _ _ h => h) (Or.inl ⟨by rfl, fun W hW => ?_⟩) K8 ?_
        · go_simp
        simp only [Act.put, List.setIfInBounds_toArray, List.set_cons_zero, List.set_cons_succ]
        refine wpAnyH_done (by kernel_rfl) ?_ _
        go_wp2
        go_roundw
        case rel => exact ⟨k + 1, n1, a1, c1, nxt E x S, by omega, by go_num, rfl, HN1, hideG (by rw [HFk.out, HQ.out]), hideG (wst_next x HW.out), hideG (NsAt.of_gro HG1.out), hideG K8⟩
        case measure => simp [intOf]; omega
    · obtain rfl : k = N := by omega
      have HQ : Hid (Z = S) := hideG (by rw [HZ.out, HF.out, List.take_of_length_le (by rw [HNl.out]; exact Nat.le_refl _)]; rfl)
      obtain rfl : Z = S := HQ.out
      have hnn := HS.out
      clear HQ HF HC0
      go_wp2
      go_ret2
      subst hnn
      exact ⟨⟨a, c, _, rfl, HNs.out⟩, HK.out⟩
end Go.Proofs.YtacmmclamkhpcaaDoor
