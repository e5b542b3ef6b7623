import Derived.Test.YtcanbhbhdgogoaaDoorDra
import Derived.Test.YtcanbhbhdgogoaaDoorAnyz
namespace Go.Proofs.YtcanbhbhdgogoaaDoor
open Go.ChangeShapes Go.WideShapes Go.ChangeAt Go.RowKit

theorem ErD.lt {w : World} {br : Nat} {ad : Nat → Addr} (h : ErD w br ad) : 2 < w.heap.size ∧ 3 < w.heap.size ∧ 0 < w.heap.size ∧ 4 < w.heap.size ∧ 9 < w.heap.size :=
  ⟨World.block_lt_of_cell? w _ h.s0, World.block_lt_of_cell? w _ h.s1, World.block_lt_of_cell? w _ h.s2, World.block_lt_of_cell? w _ h.s4, World.block_lt_of_cell? w _ h.s9⟩
theorem ErD.keptN {w w' : World} {br n : Nat} {ad : Nat → Addr} (h : ErD w br ad) (k : Kept (fun i => i = n) w w') (hn : 2 < n ∧ 3 < n ∧ 0 < n ∧ 4 < n ∧ 9 < n) : ErD w' br ad :=
  ⟨k.cell h.s0 (by simp only; omega), k.cell h.s1 (by simp only; omega), k.cell h.s2 (by simp only; omega), k.cell h.s4 (by simp only; omega), k.cell h.s9 (by simp only; omega), h.ne⟩
def enV (e : En) : Value := .agg #[.string e.k, .int .i64 e.d, .int .i64 e.t, .int .i64 e.p, .int .i64 e.s]
def enO (k : ByteArray) (d t p s : Int) : Obj := .cells #[.string k, .int .i64 d, .int .i64 t, .int .i64 p, .int .i64 s] 31 (0, 0)
def rePost (l : List Int) (br : Nat) (v : Value) (a : Addr) (x : Option (En × Nat)) (e : Ending) (w' : World) : Prop := match x with
  | none => e = pan a
  | some (en, q) => e = .returned (enV en) ∧ Rd w' br v l q
theorem enO_cells {w : World} {b : Nat} {k : ByteArray} {d t p s : Int} (h : w.heap[b]? = some (enO k d t p s)) :
    (w.cell? ⟨b, 0, none⟩ = some (.string k) ∧ w.cell? ⟨b, 1, none⟩ = some (.int .i64 d) ∧ w.cell? ⟨b, 2, none⟩ = some (.int .i64 t) ∧ w.cell? ⟨b, 3, none⟩ = some (.int .i64 p) ∧ w.cell? ⟨b, 4, none⟩ = some (.int .i64 s)) ∧ (∀ j, w.frozen? ⟨b, j, none⟩ = false) := by
  unfold enO at h
  refine ⟨⟨?_, ?_, ?_, ?_, ?_⟩, fun j => ?_⟩ <;> simp [World.cell?, World.frozen?, h]
theorem enO_new (w : World) (k : ByteArray) (d t p s : Int) : (w.alloc (.cells #[.string k, .int .i64 d, .int .i64 t, .int .i64 p, .int .i64 s] 31)).heap[w.heap.size]? = some (enO k d t p s) := heap_alloc_new w _
theorem enO_set1 {w : World} {b : Nat} {k : ByteArray} {d t p s : Int} (h : w.heap[b]? = some (enO k d t p s)) (x : Int) : (w.setCell ⟨b, 1, none⟩ (.int .i64 x)).heap[b]? = some (enO k x t p s) := heap_setCell_same w b 1 _ _ _ h
theorem enO_set2 {w : World} {b : Nat} {k : ByteArray} {d t p s : Int} (h : w.heap[b]? = some (enO k d t p s)) (x : Int) : (w.setCell ⟨b, 2, none⟩ (.int .i64 x)).heap[b]? = some (enO k d x p s) := heap_setCell_same w b 2 _ _ _ h
theorem enO_set3 {w : World} {b : Nat} {k : ByteArray} {d t p s : Int} (h : w.heap[b]? = some (enO k d t p s)) (x : Int) : (w.setCell ⟨b, 3, none⟩ (.int .i64 x)).heap[b]? = some (enO k d t x s) := heap_setCell_same w b 3 _ _ _ h
theorem enO_set4 {w : World} {b : Nat} {k : ByteArray} {d t p s : Int} (h : w.heap[b]? = some (enO k d t p s)) (x : Int) : (w.setCell ⟨b, 4, none⟩ (.int .i64 x)).heap[b]? = some (enO k d t p x) := heap_setCell_same w b 4 _ _ _ h
theorem enO_set0 {w : World} {b : Nat} {k : ByteArray} {d t p s : Int} (h : w.heap[b]? = some (enO k d t p s)) (x : ByteArray) : (w.setCell ⟨b, 0, none⟩ (.string x)).heap[b]? = some (enO x d t p s) := heap_setCell_same w b 0 _ _ _ h
/-- An entry written whole. -/
def putE (w : World) (b : Nat) (e : En) : World := ((((w.setCell ⟨b, 0, none⟩ (.string e.k)).setCell ⟨b, 1, none⟩ (.int .i64 e.d)).setCell ⟨b, 2, none⟩ (.int .i64 e.t)).setCell ⟨b, 3, none⟩ (.int .i64 e.p)).setCell ⟨b, 4, none⟩ (.int .i64 e.s)
theorem putE_heap {w : World} {b : Nat} {k : ByteArray} {d t p s : Int} (h : w.heap[b]? = some (enO k d t p s)) (e : En) : (putE w b e).heap[b]? = some (enO e.k e.d e.t e.p e.s) :=
  enO_set4 (enO_set3 (enO_set2 (enO_set1 (enO_set0 h e.k) e.d) e.t) e.p) e.s
theorem ksetD (w : World) (b o : Nat) (u : Value) : Kept (fun k => k = b) w (w.setCell ⟨b, o, none⟩ u) := Kept.setCell w ⟨b, o, none⟩ u
theorem putE_kept (w : World) (b : Nat) (e : En) : Kept (fun k => k = b) w (putE w b e) := by
  unfold putE
  refine Kept.trans ?_ (ksetD _ b 4 _) (fun _ h => .inl h)
  refine Kept.trans ?_ (ksetD _ b 3 _) (fun _ h => .inl h)
  refine Kept.trans ?_ (ksetD _ b 2 _) (fun _ h => .inl h)
  exact Kept.trans (ksetD _ b 0 _) (ksetD _ b 1 _) (fun _ h => .inl h)
theorem rde_u {l : List Int} {b : ByteArray} {p : Nat} (h : upn b.size l p = none) : rde l b p = none := by unfold rde; rw [h]
theorem rde_t {l : List Int} {b : ByteArray} {p s q : Nat} (h : upn b.size l p = some (s, q)) (h2 : txn (65 - s) l q = none) : rde l b p = none := by unfold rde; rw [h]; simp only [h2]
theorem rde_r {l t : List Int} {b : ByteArray} {p s q q1 : Nat} (h : upn b.size l p = some (s, q)) (h2 : txn (65 - s) l q = some (t, q1)) (h3 : ¬ rok b s t) : rde l b p = none := by unfold rde; rw [h]; simp only [h2, if_neg h3]
theorem rde_n {l t : List Int} {b : ByteArray} {p s q q1 : Nat} (h : upn b.size l p = some (s, q)) (h2 : txn (65 - s) l q = some (t, q1)) (h3 : rok b s t) : rde l b p = rn4 l (keyOf b s t) q1 := by unfold rde; rw [h]; simp only [h2, if_pos h3]
theorem rn4_1 {l : List Int} {k : ByteArray} {q : Nat} (h : upn 2147483647 l q = none) : rn4 l k q = none := by unfold rn4; rw [h]
theorem rn4_2 {l : List Int} {k : ByteArray} {q d q1 : Nat} (h : upn 2147483647 l q = some (d, q1)) (h2 : upn 2147483647 l q1 = none) : rn4 l k q = none := by unfold rn4; rw [h]; simp only [h2]
theorem rn4_3 {l : List Int} {k : ByteArray} {q d q1 t q2 : Nat} (h : upn 2147483647 l q = some (d, q1)) (h2 : upn 2147483647 l q1 = some (t, q2)) (h3 : upn 2147483647 l q2 = none) : rn4 l k q = none := by unfold rn4; rw [h]; simp only [h2, h3]
theorem rn4_4 {l : List Int} {k : ByteArray} {q d q1 t q2 p q3 : Nat} (h : upn 2147483647 l q = some (d, q1)) (h2 : upn 2147483647 l q1 = some (t, q2)) (h3 : upn 2147483647 l q2 = some (p, q3)) (h4 : upn 2147483647 l q3 = none) : rn4 l k q = none := by unfold rn4; rw [h]; simp only [h2, h3, h4]
theorem rn4_5 {l : List Int} {k : ByteArray} {q d q1 t q2 p q3 s q4 : Nat} (h : upn 2147483647 l q = some (d, q1)) (h2 : upn 2147483647 l q1 = some (t, q2)) (h3 : upn 2147483647 l q2 = some (p, q3)) (h4 : upn 2147483647 l q3 = some (s, q4)) : rn4 l k q = some (⟨k, d, t, p, s⟩, q4) := by unfold rn4; rw [h]; simp only [h2, h3, h4]
theorem rp_none {l : List Int} {br : Nat} {v : Value} {a : Addr} {x : Option (En × Nat)} {W : World} (h : x = none) : rePost l br v a x (.panicked [{ v := errV a, recovered := false }]) W := by rw [h]; rfl
set_option maxRecDepth 20000 in
set_option maxHeartbeats 8000000 in
/-- readEntry behind its four numbers: t7 is the block b7, t4 the block b4. -/
theorem readEntry_any (l : List Int) (b : ByteArray) (p br : Nat) (v : Value) (ad : Nat → Addr) (w : World) (h : Rd w br v l p) (hE : ErD w br ad) (hb : b.size ≤ 65) :
    Calls Tryd.prog 68 #[.pointer (some ⟨br, 0, none⟩), .string b] w fun e w' => rePost l br v (ad 9) (rde l b p) e w' ∧ Kept (fun i => i = br) w w' := by
  have hbr : br < w.heap.size := lt_of_block h.blk
  have HK0 := hideQ ((Kept.alloc w (.cells #[.string ⟨#[]⟩, .int .i64 0, .int .i64 0, .int .i64 0, .int .i64 0] 31)).mono (G := fun i => i = br) (fun _ f => f.elim))
  have hvw : Hid (∀ i, v.ownBlock = some i → ¬ i = w.heap.size) := hideQ (fun i hi e => by have := (h.own.lt i hi).2; omega)
  have HX0 := hideQ (enO_new w ⟨#[]⟩ 0 0 0 0)
  have HR0 := hideQ (h.kept (Kept.alloc w (.cells #[.string ⟨#[]⟩, .int .i64 0, .int .i64 0, .int .i64 0, .int .i64 0] 31)) (fun f => f) (fun _ _ f => f))
  have HE0 := hideQ (hE.kept HK0.out)
  clear h hE
  go_enter Tryd.func68, Tryd.ntmps68
  go_wp2_with fail
  generalize w.alloc (.cells #[.string ⟨#[]⟩, .int .i64 0, .int .i64 0, .int .i64 0, .int .i64 0] 31) = W0 at *
  cases hU : upn b.size l p with
  | none =>
    obtain ⟨x, CU⟩ := upto_n _ HR0.out (by omega) HE0.out hU
    have HC := hideQ CU
    clear CU
    go_at_call 53
    refine HC.out.mono ?_
    rintro e W1 ⟨rfl, K1⟩
    go_wp2_with fail
    go_at_call 52
    refine (takenI_no _ x (ad 9) _ (HE0.out.keptF K1).s9).mono ?_
    rintro e W ⟨rfl, rfl⟩
    exact ⟨rfl, rp_none (rde_u hU), HK0.out.trans K1 (fun _ f => f.elim)⟩
  | some sq =>
    obtain ⟨s, q0⟩ := sq
    have HC := hideQ (upto_s _ HR0.out (by omega) HE0.out hU)
    obtain ⟨-, -, -, hsb⟩ := upn_rdu hU
    have HU := hideQ hU
    have hs65 : (s : Int) ≤ 65 := by omega
    clear hU
    go_at_call 53
    refine HC.out.mono ?_
    rintro e W1 ⟨rfl, hR1, K1⟩
    have HR1 := hideQ hR1
    have HE1 := hideQ (HE0.out.kept K1)
    have HK1 := hideQ (HK0.out.trans K1 (fun _ h => .inl h))
    have HX1 := hideQ (K1.heap HX0.out (by omega))
    clear hR1 K1 HC HR0 HE0 HX0 HK0
    go_wp2_with (go_at_call 52; refine (takenI_ok _ _).mono ?_; rintro e W ⟨rfl, rfl⟩)
    rw [show ((65 : Int) - (s : Int)) = ((65 - s : Nat) : Int) by omega]
    cases hT : txn (65 - s) l q0 with
    | none =>
      obtain ⟨x, CU⟩ := text_n _ HR1.out (by omega) HE1.out hT
      have HC := hideQ CU
      clear CU
      go_at_call 73
      refine HC.out.mono ?_
      rintro e W2 ⟨rfl, K2⟩
      go_wp2_with fail
      go_at_call 72
      refine (takenS_no _ x (ad 9) _ (HE1.out.keptF K2).s9).mono ?_
      rintro e W ⟨rfl, rfl⟩
      exact ⟨rfl, rp_none (rde_t HU.out hT), HK1.out.trans K2 (fun _ f => f.elim)⟩
    | some tq =>
      obtain ⟨t, q1⟩ := tq
      have HC := hideQ (text_s _ HR1.out (by omega) HE1.out hT)
      have HT := hideQ hT
      have HRs := hideQ (strOf_size t)
      have HTl : Hid (t.length ≤ 140737488355328) := hideQ (by have h1 := (txn_back HR1.out.isb hT).2.1; have h2 := (txn_back HR1.out.isb hT).2.2.1; omega)
      have HKe : Hid (keyOf b s t = b.extract 0 s ++ strOfNums t) := hideQ rfl
      clear hT
      go_at_call 73
      refine HC.out.mono ?_
      rintro e W2 ⟨rfl, hR2, K2⟩
      have HR2 := hideQ hR2
      have HE2 := hideQ (HE1.out.kept K2)
      have HK2 := hideQ (HK1.out.trans K2 (fun _ h => .inl h))
      have HX2 := hideQ (K2.heap HX1.out (by omega))
      clear hR2 K2 HC HR1 HE1 HX1 HK1
      obtain ⟨R, hR⟩ : ∃ R, R = strOfNums t := ⟨_, rfl⟩
      rw [← hR] at HRs HKe ⊢
      by_cases ht : t = []
      · have hz : R.size = 0 := by rw [HRs.out, ht]; rfl
        have hz2 : decide ((0 : Int) < (R.size : Int)) = false := decide_eq_false (by omega)
        have hz3 : decide (0 < R.size) = false := decide_eq_false (by omega)
        go_wp2_with (go_at_call 72; refine (takenS_ok _ _).mono ?_; rintro e W ⟨rfl, rfl⟩)
        go_at_call 30
        refine (need_no (ad 9) _ HE2.out.s9).mono ?_
        rintro e W ⟨rfl, rfl⟩
        exact ⟨rfl, rp_none (rde_r HU.out HT.out (fun h => h.1 ht)), HK2.out⟩
      · have hz : 0 < R.size := by
          rw [HRs.out]
          match t, ht with
          | c :: r, _ => simp
        have hz2 : decide ((0 : Int) < (R.size : Int)) = true := decide_eq_true (by omega)
        have hz3 : decide (0 < R.size) = true := decide_eq_true (by omega)
        have HNT := hideQ ht
        have CN : ∀ n, Hid (Calls Tryd.prog 30 #[.bool true] (W2.drewN n) fun e w' => e = .returned (.tuple #[]) ∧ ∃ m, w' = W2.drewN m) := fun n => hideQ ((need_ok _).mono (fun e w' ⟨h1, h2⟩ => ⟨h1, n, h2⟩))
        have HRR := hideQ hR
        clear ht hR
        go_wp2_with (first
          | (go_at_call 72; refine (takenS_ok _ _).mono ?_; rintro e W ⟨rfl, rfl⟩)
          | (go_at_call 30; refine (need_ok _).mono ?_; rintro e W ⟨rfl, rfl⟩))
        by_cases hs : s = b.size
        · have HOk : Hid (rok b s t) := hideQ ⟨HNT.out, .inl hs⟩
          have hs2 : ((s : Int) == (b.size : Int)) = true := by rw [hs]; simp
          have hs3 : (s == b.size) = true := by rw [hs]; simp
          go_quiet ((exact (CN _).out))
          have HR3 : Hid (Rd (W.drewN nq) br v l q1) := hideQ (HR2.out.kept (Kept.drewN W nq) (fun f => f) (fun _ _ f => f))
          have HE3 : Hid (ErD (W.drewN nq) br ad) := hideQ (HE2.out.keptF (Kept.drewN W nq))
          have HK3 : Hid (Kept (fun i => i = br) w (W.drewN nq)) := hideQ (HK2.out.trans (Kept.drewN W nq) (fun _ f => f.elim))
          have HX3 : Hid ((W.drewN nq).heap[w.heap.size]? = some (enO ⟨#[]⟩ 0 0 0 0)) := HX2
          clear HR2 HE2 HK2 HX2 CN hs hs2 hs3
          generalize W.drewN nq = W3 at *
          have hcc : ¬ 9223372036854775807 < s + R.size := by have := HRs.out; have := HTl.out; omega
          have HN := hideQ (rde_n HU.out HT.out HOk.out)
          rw [HKe.out] at HN
          have HKa := hideQ (Kept.alloc W3 (.cells #[.string (b.extract 0 s ++ R), .int .i64 0, .int .i64 0, .int .i64 0, .int .i64 0] 31))
          have HY := hideQ (enO_new W3 (b.extract 0 s ++ R) 0 0 0 0)
          have HRa := hideQ (HR3.out.kept HKa.out (fun f => f) (fun _ _ f => f))
          have HEa := hideQ (HE3.out.keptF HKa.out)
          have HKb := hideQ (HK3.out.trans HKa.out (fun _ f => f.elim))
          have HXa := hideQ (HKa.out.heap HX3.out (fun f => f))
          have h37 : w.heap.size < W3.heap.size := lt_of_block HX3.out
          have hv7 : Hid (∀ i, v.ownBlock = some i → ¬ i = W3.heap.size) := hideQ (fun i hi e => by have := (HR3.out.own.lt i hi).2; omega)
          have hg7 := hideQ HE3.out.lt
          have hv4 : Hid (∀ i, v.ownBlock = some i → ¬ i = w.heap.size) := hideQ hvw.out
          clear HR3 HE3 HK3 HX3 HKa
          go_wp2_with fail
          clear hcc
          generalize b.extract 0 s ++ R = ky at *
          generalize W3.alloc (.cells #[.string ky, .int .i64 0, .int .i64 0, .int .i64 0, .int .i64 0] 31) = W4 at *
          generalize W3.heap.size = b7 at *
          have h7b : ¬ br = b7 := by omega
          have hb7 : ¬ b7 = br := by omega
          have hb4 : ¬ w.heap.size = br := by omega
          have HR := HRa
          have HE := HEa
          have HK := HKb
          have HX := HXa
          clear HRa HEa HKb HXa
          cases hN1 : upn 2147483647 l q1 with
          | none =>
            obtain ⟨x, CU⟩ := upto_n _ HR.out (by omega) HE.out hN1
            have HC := hideQ CU
            clear CU
            go_at_call 53
            refine HC.out.mono ?_
            rintro e W9 ⟨rfl, K9⟩
            go_wp2_with fail
            go_at_call 52
            refine (takenI_no _ x (ad 9) _ (HE.out.keptF K9).s9).mono ?_
            rintro e W8 ⟨rfl, rfl⟩
            exact ⟨rfl, rp_none (HN.out.trans (rn4_1 hN1)), HK.out.trans K9 (fun _ f => f.elim)⟩
          | some dq1 =>
            obtain ⟨dd, q2⟩ := dq1
            have HC := hideQ (upto_s _ HR.out (by omega) HE.out hN1)
            have HN1 := hideQ hN1
            clear hN1
            go_at_call 53
            refine HC.out.mono ?_
            rintro e W9 ⟨rfl, hR9, K9⟩
            replace HY := hideQ (K9.heap HY.out hb7)
            replace HE := hideQ (HE.out.kept K9)
            replace HK := hideQ (HK.out.trans K9 (fun _ h => .inl h))
            replace HX := hideQ (K9.heap HX.out hb4)
            replace HR := hideQ hR9
            clear hR9 K9 HC
            obtain ⟨⟨y0, y1, y2, y3, y4⟩, fz⟩ := enO_cells HY.out
            have fz1 := fz 1
            clear fz
            go_wp2_with (go_at_call 52; refine (takenI_ok _ _).mono ?_; rintro e V1 ⟨rfl, rfl⟩)
            have HS := hideQ (ksetD V1 b7 1 (.int .i64 (dd : Int)))
            replace HY := hideQ (enO_set1 HY.out (dd : Int))
            replace HR := hideQ (HR.out.kept HS.out h7b hv7.out)
            replace HE := hideQ (HE.out.keptN HS.out hg7.out)
            replace HK := hideQ (HK.out.trans HS.out (fun i hi => .inr (by omega)))
            replace HX := hideQ (HS.out.heap HX.out (by omega))
            clear y0 y1 y2 y3 y4 fz1 HS
            generalize V1.setCell ⟨b7, 1, none⟩ (.int .i64 (dd : Int)) = U1 at *
            cases hN2 : upn 2147483647 l q2 with
            | none =>
              obtain ⟨x, CU⟩ := upto_n _ HR.out (by omega) HE.out hN2
              have HC := hideQ CU
              clear CU
              go_at_call 53
              refine HC.out.mono ?_
              rintro e W9 ⟨rfl, K9⟩
              go_wp2_with fail
              go_at_call 52
              refine (takenI_no _ x (ad 9) _ (HE.out.keptF K9).s9).mono ?_
              rintro e W8 ⟨rfl, rfl⟩
              exact ⟨rfl, rp_none (HN.out.trans (rn4_2 HN1.out hN2)), HK.out.trans K9 (fun _ f => f.elim)⟩
            | some dq2 =>
              obtain ⟨tt, q3⟩ := dq2
              have HC := hideQ (upto_s _ HR.out (by omega) HE.out hN2)
              have HN2 := hideQ hN2
              clear hN2
              go_at_call 53
              refine HC.out.mono ?_
              rintro e W9 ⟨rfl, hR9, K9⟩
              replace HY := hideQ (K9.heap HY.out hb7)
              replace HE := hideQ (HE.out.kept K9)
              replace HK := hideQ (HK.out.trans K9 (fun _ h => .inl h))
              replace HX := hideQ (K9.heap HX.out hb4)
              replace HR := hideQ hR9
              clear hR9 K9 HC
              obtain ⟨⟨y0, y1, y2, y3, y4⟩, fz⟩ := enO_cells HY.out
              have fz2 := fz 2
              clear fz
              go_wp2_with (go_at_call 52; refine (takenI_ok _ _).mono ?_; rintro e V2 ⟨rfl, rfl⟩)
              have HS := hideQ (ksetD V2 b7 2 (.int .i64 (tt : Int)))
              replace HY := hideQ (enO_set2 HY.out (tt : Int))
              replace HR := hideQ (HR.out.kept HS.out h7b hv7.out)
              replace HE := hideQ (HE.out.keptN HS.out hg7.out)
              replace HK := hideQ (HK.out.trans HS.out (fun i hi => .inr (by omega)))
              replace HX := hideQ (HS.out.heap HX.out (by omega))
              clear y0 y1 y2 y3 y4 fz2 HS
              generalize V2.setCell ⟨b7, 2, none⟩ (.int .i64 (tt : Int)) = U2 at *
              cases hN3 : upn 2147483647 l q3 with
              | none =>
                obtain ⟨x, CU⟩ := upto_n _ HR.out (by omega) HE.out hN3
                have HC := hideQ CU
                clear CU
                go_at_call 53
                refine HC.out.mono ?_
                rintro e W9 ⟨rfl, K9⟩
                go_wp2_with fail
                go_at_call 52
                refine (takenI_no _ x (ad 9) _ (HE.out.keptF K9).s9).mono ?_
                rintro e W8 ⟨rfl, rfl⟩
                exact ⟨rfl, rp_none (HN.out.trans (rn4_3 HN1.out HN2.out hN3)), HK.out.trans K9 (fun _ f => f.elim)⟩
              | some dq3 =>
                obtain ⟨pp, q4⟩ := dq3
                have HC := hideQ (upto_s _ HR.out (by omega) HE.out hN3)
                have HN3 := hideQ hN3
                clear hN3
                go_at_call 53
                refine HC.out.mono ?_
                rintro e W9 ⟨rfl, hR9, K9⟩
                replace HY := hideQ (K9.heap HY.out hb7)
                replace HE := hideQ (HE.out.kept K9)
                replace HK := hideQ (HK.out.trans K9 (fun _ h => .inl h))
                replace HX := hideQ (K9.heap HX.out hb4)
                replace HR := hideQ hR9
                clear hR9 K9 HC
                obtain ⟨⟨y0, y1, y2, y3, y4⟩, fz⟩ := enO_cells HY.out
                have fz3 := fz 3
                clear fz
                go_wp2_with (go_at_call 52; refine (takenI_ok _ _).mono ?_; rintro e V3 ⟨rfl, rfl⟩)
                have HS := hideQ (ksetD V3 b7 3 (.int .i64 (pp : Int)))
                replace HY := hideQ (enO_set3 HY.out (pp : Int))
                replace HR := hideQ (HR.out.kept HS.out h7b hv7.out)
                replace HE := hideQ (HE.out.keptN HS.out hg7.out)
                replace HK := hideQ (HK.out.trans HS.out (fun i hi => .inr (by omega)))
                replace HX := hideQ (HS.out.heap HX.out (by omega))
                clear y0 y1 y2 y3 y4 fz3 HS
                generalize V3.setCell ⟨b7, 3, none⟩ (.int .i64 (pp : Int)) = U3 at *
                cases hN4 : upn 2147483647 l q4 with
                | none =>
                  obtain ⟨x, CU⟩ := upto_n _ HR.out (by omega) HE.out hN4
                  have HC := hideQ CU
                  clear CU
                  go_at_call 53
                  refine HC.out.mono ?_
                  rintro e W9 ⟨rfl, K9⟩
                  go_wp2_with fail
                  go_at_call 52
                  refine (takenI_no _ x (ad 9) _ (HE.out.keptF K9).s9).mono ?_
                  rintro e W8 ⟨rfl, rfl⟩
                  exact ⟨rfl, rp_none (HN.out.trans (rn4_4 HN1.out HN2.out HN3.out hN4)), HK.out.trans K9 (fun _ f => f.elim)⟩
                | some dq4 =>
                  obtain ⟨ss, q5⟩ := dq4
                  have HC := hideQ (upto_s _ HR.out (by omega) HE.out hN4)
                  have HN4 := hideQ hN4
                  clear hN4
                  go_at_call 53
                  refine HC.out.mono ?_
                  rintro e W9 ⟨rfl, hR9, K9⟩
                  replace HY := hideQ (K9.heap HY.out hb7)
                  replace HE := hideQ (HE.out.kept K9)
                  replace HK := hideQ (HK.out.trans K9 (fun _ h => .inl h))
                  replace HX := hideQ (K9.heap HX.out hb4)
                  replace HR := hideQ hR9
                  clear hR9 K9 HC
                  obtain ⟨⟨y0, y1, y2, y3, y4⟩, fz⟩ := enO_cells HY.out
                  have fz4 := fz 4
                  clear fz
                  obtain ⟨⟨x0, x1, x2, x3, x4⟩, gz⟩ := enO_cells HX.out
                  have g0 := gz 0
                  have g1 := gz 1
                  have g2 := gz 2
                  have g3 := gz 3
                  have g4 := gz 4
                  have h4a : ¬ w.heap.size = b7 := by omega
                  have h4b : ¬ b7 = w.heap.size := by omega
                  clear gz
                  go_wp2_with (go_at_call 52; refine (takenI_ok _ _).mono ?_; rintro e V4 ⟨rfl, rfl⟩)
                  have HS := hideQ (ksetD V4 b7 4 (.int .i64 (ss : Int)))
                  replace HY := hideQ (enO_set4 HY.out (ss : Int))
                  replace HR := hideQ (HR.out.kept HS.out h7b hv7.out)
                  replace HE := hideQ (HE.out.keptN HS.out hg7.out)
                  replace HK := hideQ (HK.out.trans HS.out (fun i hi => .inr (by omega)))
                  replace HX := hideQ (HS.out.heap HX.out (by omega))
                  clear y0 y1 y2 y3 y4 fz4 HS
                  have HPk := hideQ (putE_kept (V4.setCell ⟨b7, 4, none⟩ (.int .i64 (ss : Int))) w.heap.size ⟨ky, dd, tt, pp, ss⟩)
                  have HPh := hideQ (putE_heap HX.out ⟨ky, dd, tt, pp, ss⟩)
                  obtain ⟨⟨z0, z1, z2, z3, z4⟩, -⟩ := enO_cells HPh.out
                  have HPr : Hid (Rd (putE (V4.setCell ⟨b7, 4, none⟩ (.int .i64 (ss : Int))) w.heap.size ⟨ky, dd, tt, pp, ss⟩) br v l q5) := hideQ (HR.out.kept HPk.out (by omega) hv4.out)
                  have HPK := hideQ (HK.out.trans HPk.out (fun i hi => .inr (by omega)))
                  simp only [putE] at z0 z1 z2 z3 z4
                  refine bodyPost_ret (v := enV ⟨ky, dd, tt, pp, ss⟩) (by simp [results, Tryd.results68, go_sem, z0, z1, z2, z3, z4, enV]) rfl ⟨?_, HPK.out⟩
                  rw [HN.out.trans (rn4_5 HN1.out HN2.out HN3.out HN4.out)]
                  exact ⟨rfl, HPr.out⟩
        · have hsl : s < b.size := by omega
          have hs2 : ((s : Int) == (b.size : Int)) = false := by rw [beq_eq_false_iff_ne]; omega
          have hs3 : (s == b.size) = false := by rw [beq_eq_false_iff_ne]; exact hs
          have hb1 : b.data.toList[s]?.getD 0 = b[s] := by
            rw [List.getElem?_eq_getElem (by rw [bsz]; exact hsl)]
            rfl
          have hr1 : UInt8.ofNat (t[0]?.getD 0).toNat = R[0] := by
            have h0 : R.data.toList[0]?.getD 0 = R[0] := by
              rw [List.getElem?_eq_getElem (by rw [bsz]; exact hz)]
              rfl
            rw [← h0, HRR.out, strOf_list]
            match t, HNT.out with
            | c :: r, _ => simp
          by_cases hlt : b[s].toNat < R[0].toNat
          · have HOk : Hid (rok b s t) := hideQ ⟨HNT.out, .inr (by rw [hb1, hr1]; exact hlt)⟩
            have hl2 : decide ((b[s].toNat : Int) < (R[0].toNat : Int)) = true := decide_eq_true (by omega)
            have hl3 : decide (b[s].toNat < R[0].toNat) = true := decide_eq_true hlt
            have HBr := hideQ hb1
            clear hb1 hr1 hlt
            go_quiet ((exact (CN _).out))
            have HR3 : Hid (Rd (W.drewN nq) br v l q1) := hideQ (HR2.out.kept (Kept.drewN W nq) (fun f => f) (fun _ _ f => f))
            have HE3 : Hid (ErD (W.drewN nq) br ad) := hideQ (HE2.out.keptF (Kept.drewN W nq))
            have HK3 : Hid (Kept (fun i => i = br) w (W.drewN nq)) := hideQ (HK2.out.trans (Kept.drewN W nq) (fun _ f => f.elim))
            have HX3 : Hid ((W.drewN nq).heap[w.heap.size]? = some (enO ⟨#[]⟩ 0 0 0 0)) := HX2
            clear HR2 HE2 HK2 HX2 CN hs hs2 hs3 hl2 hl3 HBr
            generalize W.drewN nq = W3 at *
            have hcc : ¬ 9223372036854775807 < s + R.size := by have := HRs.out; have := HTl.out; omega
            have HN := hideQ (rde_n HU.out HT.out HOk.out)
            rw [HKe.out] at HN
            have HKa := hideQ (Kept.alloc W3 (.cells #[.string (b.extract 0 s ++ R), .int .i64 0, .int .i64 0, .int .i64 0, .int .i64 0] 31))
            have HY := hideQ (enO_new W3 (b.extract 0 s ++ R) 0 0 0 0)
            have HRa := hideQ (HR3.out.kept HKa.out (fun f => f) (fun _ _ f => f))
            have HEa := hideQ (HE3.out.keptF HKa.out)
            have HKb := hideQ (HK3.out.trans HKa.out (fun _ f => f.elim))
            have HXa := hideQ (HKa.out.heap HX3.out (fun f => f))
            have h37 : w.heap.size < W3.heap.size := lt_of_block HX3.out
            have hv7 : Hid (∀ i, v.ownBlock = some i → ¬ i = W3.heap.size) := hideQ (fun i hi e => by have := (HR3.out.own.lt i hi).2; omega)
            have hg7 := hideQ HE3.out.lt
            have hv4 : Hid (∀ i, v.ownBlock = some i → ¬ i = w.heap.size) := hideQ hvw.out
            clear HR3 HE3 HK3 HX3 HKa
            go_wp2_with fail
            clear hcc
            generalize b.extract 0 s ++ R = ky at *
            generalize W3.alloc (.cells #[.string ky, .int .i64 0, .int .i64 0, .int .i64 0, .int .i64 0] 31) = W4 at *
            generalize W3.heap.size = b7 at *
            have h7b : ¬ br = b7 := by omega
            have hb7 : ¬ b7 = br := by omega
            have hb4 : ¬ w.heap.size = br := by omega
            have HR := HRa
            have HE := HEa
            have HK := HKb
            have HX := HXa
            clear HRa HEa HKb HXa
            cases hN1 : upn 2147483647 l q1 with
            | none =>
              obtain ⟨x, CU⟩ := upto_n _ HR.out (by omega) HE.out hN1
              have HC := hideQ CU
              clear CU
              go_at_call 53
              refine HC.out.mono ?_
              rintro e W9 ⟨rfl, K9⟩
              go_wp2_with fail
              go_at_call 52
              refine (takenI_no _ x (ad 9) _ (HE.out.keptF K9).s9).mono ?_
              rintro e W8 ⟨rfl, rfl⟩
              exact ⟨rfl, rp_none (HN.out.trans (rn4_1 hN1)), HK.out.trans K9 (fun _ f => f.elim)⟩
            | some dq1 =>
              obtain ⟨dd, q2⟩ := dq1
              have HC := hideQ (upto_s _ HR.out (by omega) HE.out hN1)
              have HN1 := hideQ hN1
              clear hN1
              go_at_call 53
              refine HC.out.mono ?_
              rintro e W9 ⟨rfl, hR9, K9⟩
              replace HY := hideQ (K9.heap HY.out hb7)
              replace HE := hideQ (HE.out.kept K9)
              replace HK := hideQ (HK.out.trans K9 (fun _ h => .inl h))
              replace HX := hideQ (K9.heap HX.out hb4)
              replace HR := hideQ hR9
              clear hR9 K9 HC
              obtain ⟨⟨y0, y1, y2, y3, y4⟩, fz⟩ := enO_cells HY.out
              have fz1 := fz 1
              clear fz
              go_wp2_with (go_at_call 52; refine (takenI_ok _ _).mono ?_; rintro e V1 ⟨rfl, rfl⟩)
              have HS := hideQ (ksetD V1 b7 1 (.int .i64 (dd : Int)))
              replace HY := hideQ (enO_set1 HY.out (dd : Int))
              replace HR := hideQ (HR.out.kept HS.out h7b hv7.out)
              replace HE := hideQ (HE.out.keptN HS.out hg7.out)
              replace HK := hideQ (HK.out.trans HS.out (fun i hi => .inr (by omega)))
              replace HX := hideQ (HS.out.heap HX.out (by omega))
              clear y0 y1 y2 y3 y4 fz1 HS
              generalize V1.setCell ⟨b7, 1, none⟩ (.int .i64 (dd : Int)) = U1 at *
              cases hN2 : upn 2147483647 l q2 with
              | none =>
                obtain ⟨x, CU⟩ := upto_n _ HR.out (by omega) HE.out hN2
                have HC := hideQ CU
                clear CU
                go_at_call 53
                refine HC.out.mono ?_
                rintro e W9 ⟨rfl, K9⟩
                go_wp2_with fail
                go_at_call 52
                refine (takenI_no _ x (ad 9) _ (HE.out.keptF K9).s9).mono ?_
                rintro e W8 ⟨rfl, rfl⟩
                exact ⟨rfl, rp_none (HN.out.trans (rn4_2 HN1.out hN2)), HK.out.trans K9 (fun _ f => f.elim)⟩
              | some dq2 =>
                obtain ⟨tt, q3⟩ := dq2
                have HC := hideQ (upto_s _ HR.out (by omega) HE.out hN2)
                have HN2 := hideQ hN2
                clear hN2
                go_at_call 53
                refine HC.out.mono ?_
                rintro e W9 ⟨rfl, hR9, K9⟩
                replace HY := hideQ (K9.heap HY.out hb7)
                replace HE := hideQ (HE.out.kept K9)
                replace HK := hideQ (HK.out.trans K9 (fun _ h => .inl h))
                replace HX := hideQ (K9.heap HX.out hb4)
                replace HR := hideQ hR9
                clear hR9 K9 HC
                obtain ⟨⟨y0, y1, y2, y3, y4⟩, fz⟩ := enO_cells HY.out
                have fz2 := fz 2
                clear fz
                go_wp2_with (go_at_call 52; refine (takenI_ok _ _).mono ?_; rintro e V2 ⟨rfl, rfl⟩)
                have HS := hideQ (ksetD V2 b7 2 (.int .i64 (tt : Int)))
                replace HY := hideQ (enO_set2 HY.out (tt : Int))
                replace HR := hideQ (HR.out.kept HS.out h7b hv7.out)
                replace HE := hideQ (HE.out.keptN HS.out hg7.out)
                replace HK := hideQ (HK.out.trans HS.out (fun i hi => .inr (by omega)))
                replace HX := hideQ (HS.out.heap HX.out (by omega))
                clear y0 y1 y2 y3 y4 fz2 HS
                generalize V2.setCell ⟨b7, 2, none⟩ (.int .i64 (tt : Int)) = U2 at *
                cases hN3 : upn 2147483647 l q3 with
                | none =>
                  obtain ⟨x, CU⟩ := upto_n _ HR.out (by omega) HE.out hN3
                  have HC := hideQ CU
                  clear CU
                  go_at_call 53
                  refine HC.out.mono ?_
                  rintro e W9 ⟨rfl, K9⟩
                  go_wp2_with fail
                  go_at_call 52
                  refine (takenI_no _ x (ad 9) _ (HE.out.keptF K9).s9).mono ?_
                  rintro e W8 ⟨rfl, rfl⟩
                  exact ⟨rfl, rp_none (HN.out.trans (rn4_3 HN1.out HN2.out hN3)), HK.out.trans K9 (fun _ f => f.elim)⟩
                | some dq3 =>
                  obtain ⟨pp, q4⟩ := dq3
                  have HC := hideQ (upto_s _ HR.out (by omega) HE.out hN3)
                  have HN3 := hideQ hN3
                  clear hN3
                  go_at_call 53
                  refine HC.out.mono ?_
                  rintro e W9 ⟨rfl, hR9, K9⟩
                  replace HY := hideQ (K9.heap HY.out hb7)
                  replace HE := hideQ (HE.out.kept K9)
                  replace HK := hideQ (HK.out.trans K9 (fun _ h => .inl h))
                  replace HX := hideQ (K9.heap HX.out hb4)
                  replace HR := hideQ hR9
                  clear hR9 K9 HC
                  obtain ⟨⟨y0, y1, y2, y3, y4⟩, fz⟩ := enO_cells HY.out
                  have fz3 := fz 3
                  clear fz
                  go_wp2_with (go_at_call 52; refine (takenI_ok _ _).mono ?_; rintro e V3 ⟨rfl, rfl⟩)
                  have HS := hideQ (ksetD V3 b7 3 (.int .i64 (pp : Int)))
                  replace HY := hideQ (enO_set3 HY.out (pp : Int))
                  replace HR := hideQ (HR.out.kept HS.out h7b hv7.out)
                  replace HE := hideQ (HE.out.keptN HS.out hg7.out)
                  replace HK := hideQ (HK.out.trans HS.out (fun i hi => .inr (by omega)))
                  replace HX := hideQ (HS.out.heap HX.out (by omega))
                  clear y0 y1 y2 y3 y4 fz3 HS
                  generalize V3.setCell ⟨b7, 3, none⟩ (.int .i64 (pp : Int)) = U3 at *
                  cases hN4 : upn 2147483647 l q4 with
                  | none =>
                    obtain ⟨x, CU⟩ := upto_n _ HR.out (by omega) HE.out hN4
                    have HC := hideQ CU
                    clear CU
                    go_at_call 53
                    refine HC.out.mono ?_
                    rintro e W9 ⟨rfl, K9⟩
                    go_wp2_with fail
                    go_at_call 52
                    refine (takenI_no _ x (ad 9) _ (HE.out.keptF K9).s9).mono ?_
                    rintro e W8 ⟨rfl, rfl⟩
                    exact ⟨rfl, rp_none (HN.out.trans (rn4_4 HN1.out HN2.out HN3.out hN4)), HK.out.trans K9 (fun _ f => f.elim)⟩
                  | some dq4 =>
                    obtain ⟨ss, q5⟩ := dq4
                    have HC := hideQ (upto_s _ HR.out (by omega) HE.out hN4)
                    have HN4 := hideQ hN4
                    clear hN4
                    go_at_call 53
                    refine HC.out.mono ?_
                    rintro e W9 ⟨rfl, hR9, K9⟩
                    replace HY := hideQ (K9.heap HY.out hb7)
                    replace HE := hideQ (HE.out.kept K9)
                    replace HK := hideQ (HK.out.trans K9 (fun _ h => .inl h))
                    replace HX := hideQ (K9.heap HX.out hb4)
                    replace HR := hideQ hR9
                    clear hR9 K9 HC
                    obtain ⟨⟨y0, y1, y2, y3, y4⟩, fz⟩ := enO_cells HY.out
                    have fz4 := fz 4
                    clear fz
                    obtain ⟨⟨x0, x1, x2, x3, x4⟩, gz⟩ := enO_cells HX.out
                    have g0 := gz 0
                    have g1 := gz 1
                    have g2 := gz 2
                    have g3 := gz 3
                    have g4 := gz 4
                    have h4a : ¬ w.heap.size = b7 := by omega
                    have h4b : ¬ b7 = w.heap.size := by omega
                    clear gz
                    go_wp2_with (go_at_call 52; refine (takenI_ok _ _).mono ?_; rintro e V4 ⟨rfl, rfl⟩)
                    have HS := hideQ (ksetD V4 b7 4 (.int .i64 (ss : Int)))
                    replace HY := hideQ (enO_set4 HY.out (ss : Int))
                    replace HR := hideQ (HR.out.kept HS.out h7b hv7.out)
                    replace HE := hideQ (HE.out.keptN HS.out hg7.out)
                    replace HK := hideQ (HK.out.trans HS.out (fun i hi => .inr (by omega)))
                    replace HX := hideQ (HS.out.heap HX.out (by omega))
                    clear y0 y1 y2 y3 y4 fz4 HS
                    have HPk := hideQ (putE_kept (V4.setCell ⟨b7, 4, none⟩ (.int .i64 (ss : Int))) w.heap.size ⟨ky, dd, tt, pp, ss⟩)
                    have HPh := hideQ (putE_heap HX.out ⟨ky, dd, tt, pp, ss⟩)
                    obtain ⟨⟨z0, z1, z2, z3, z4⟩, -⟩ := enO_cells HPh.out
                    have HPr : Hid (Rd (putE (V4.setCell ⟨b7, 4, none⟩ (.int .i64 (ss : Int))) w.heap.size ⟨ky, dd, tt, pp, ss⟩) br v l q5) := hideQ (HR.out.kept HPk.out (by omega) hv4.out)
                    have HPK := hideQ (HK.out.trans HPk.out (fun i hi => .inr (by omega)))
                    simp only [putE] at z0 z1 z2 z3 z4
                    refine bodyPost_ret (v := enV ⟨ky, dd, tt, pp, ss⟩) (by simp [results, Tryd.results68, go_sem, z0, z1, z2, z3, z4, enV]) rfl ⟨?_, HPK.out⟩
                    rw [HN.out.trans (rn4_5 HN1.out HN2.out HN3.out HN4.out)]
                    exact ⟨rfl, HPr.out⟩
          · have hl2 : decide ((b[s].toNat : Int) < (R[0].toNat : Int)) = false := decide_eq_false (by omega)
            have hl3 : decide (b[s].toNat < R[0].toNat) = false := decide_eq_false hlt
            have HNo : Hid (¬ rok b s t) := hideQ (fun h => h.2.elim hs (fun h2 => hlt (by rw [hb1, hr1] at h2; exact h2)))
            clear hb1 hr1
            refine wp_region_held (S := AnyZ) (by kernel_rfl) ?_
            change wpAnyH _ _ _ _ _ _ _ _ (World.drew _)
            refine takeZ (i := 0) (d := 26) (v := .int .i64 (s : Int)) rfl rfl (by kernel_rfl) (by kernel_rfl) (by kernel_rfl) (fun _ _ _ h => h) (Or.inl ⟨by rfl, fun W _ => ?_⟩) (anyZ _) ?_
            · go_simp
              try (intro hx; omega)
            try simp only [Act.put, List.setIfInBounds_toArray, List.set_cons_zero, List.set_cons_succ]
            refine takeZ (i := 1) (d := 27) (v := .string b) rfl rfl (by kernel_rfl) (by kernel_rfl) (by kernel_rfl) (fun _ _ _ h => h) (Or.inl ⟨by rfl, fun W _ => ?_⟩) (anyZ _) ?_
            · go_simp
              try (intro hx; omega)
            try simp only [Act.put, List.setIfInBounds_toArray, List.set_cons_zero, List.set_cons_succ]
            refine takeZ (i := 2) (d := 28) (v := .int .i64 (b.size : Int)) rfl rfl (by kernel_rfl) (by kernel_rfl) (by kernel_rfl) (fun _ _ _ h => h) (Or.inl ⟨by rfl, fun W _ => ?_⟩) (anyZ _) ?_
            · go_simp
              try (intro hx; omega)
            try simp only [Act.put, List.setIfInBounds_toArray, List.set_cons_zero, List.set_cons_succ]
            refine takeZ (i := 3) (d := 29) (v := .bool false) rfl rfl (by kernel_rfl) (by kernel_rfl) (by kernel_rfl) (fun _ _ _ h => h) (Or.inl ⟨by rfl, fun W _ => ?_⟩) (anyZ _) ?_
            · go_simp
              try (intro hx; omega)
            try simp only [Act.put, List.setIfInBounds_toArray, List.set_cons_zero, List.set_cons_succ]
            refine takeZ (i := 4) (d := 30) (v := .bool false) rfl rfl (by kernel_rfl) (by kernel_rfl) (by kernel_rfl) (fun _ _ _ h => h) (Or.inl ⟨by rfl, fun W _ => ?_⟩) (anyZ _) ?_
            · go_simp
              try (intro hx; omega)
            try simp only [Act.put, List.setIfInBounds_toArray, List.set_cons_zero, List.set_cons_succ]
            refine takeZ (i := 5) (d := 31) (v := .string b) rfl rfl (by kernel_rfl) (by kernel_rfl) (by kernel_rfl) (fun _ _ _ h => h) (Or.inl ⟨by rfl, fun W _ => ?_⟩) (anyZ _) ?_
            · go_simp
              try (intro hx; omega)
            try simp only [Act.put, List.setIfInBounds_toArray, List.set_cons_zero, List.set_cons_succ]
            refine takeZ (i := 6) (d := 32) (v := .int .i64 (s : Int)) rfl rfl (by kernel_rfl) (by kernel_rfl) (by kernel_rfl) (fun _ _ _ h => h) (Or.inl ⟨by rfl, fun W _ => ?_⟩) (anyZ _) ?_
            · go_simp
              try (intro hx; omega)
            try simp only [Act.put, List.setIfInBounds_toArray, List.set_cons_zero, List.set_cons_succ]
            refine takeZ (i := 7) (d := 33) (v := .int .u8 (b[s].toNat : Int)) rfl rfl (by kernel_rfl) (by kernel_rfl) (by kernel_rfl) (fun _ _ _ h => h) (Or.inl ⟨by rfl, fun W _ => ?_⟩) (anyZ _) ?_
            · go_simp
              try (intro hx; omega)
            try simp only [Act.put, List.setIfInBounds_toArray, List.set_cons_zero, List.set_cons_succ]
            refine takeZ (i := 8) (d := 34) (v := .string R) rfl rfl (by kernel_rfl) (by kernel_rfl) (by kernel_rfl) (fun _ _ _ h => h) (Or.inl ⟨by rfl, fun W _ => ?_⟩) (anyZ _) ?_
            · go_simp
              try (intro hx; omega)
            try simp only [Act.put, List.setIfInBounds_toArray, List.set_cons_zero, List.set_cons_succ]
            refine takeZ (i := 9) (d := 35) (v := .int .u8 (R[0].toNat : Int)) rfl rfl (by kernel_rfl) (by kernel_rfl) (by kernel_rfl) (fun _ _ _ h => h) (Or.inl ⟨by rfl, fun W _ => ?_⟩) (anyZ _) ?_
            · go_simp
              try (intro hx; omega)
            try simp only [Act.put, List.setIfInBounds_toArray, List.set_cons_zero, List.set_cons_succ]
            refine takeZ (i := 10) (d := 36) (v := .bool false) rfl rfl (by kernel_rfl) (by kernel_rfl) (by kernel_rfl) (fun _ _ _ h => h) (Or.inl ⟨by rfl, fun W _ => ?_⟩) (anyZ _) ?_
            · go_simp
              try (intro hx; omega)
            try simp only [Act.put, List.setIfInBounds_toArray, List.set_cons_zero, List.set_cons_succ]
            refine takeZ (i := 11) (d := 37) (v := .bool false) rfl rfl (by kernel_rfl) (by kernel_rfl) (by kernel_rfl) (fun _ _ _ h => h) (Or.inl ⟨by rfl, fun W _ => ?_⟩) (anyZ _) ?_
            · go_simp
              try (intro hx; omega)
            try simp only [Act.put, List.setIfInBounds_toArray, List.set_cons_zero, List.set_cons_succ]
            refine wpAnyH_all (rs := [12]) (by kernel_rfl) (by simp) ?_
            intro i hi
            obtain rfl : i = 12 := by simpa using hi
            unfold wpOp
            go_simp
            refine Or.inl ((need_no (ad 9) _ (HE2.out.keptF (Kept.drew _)).s9).mono ?_)
            rintro e W9 ⟨rfl, rfl⟩
            exact ⟨rfl, rp_none (rde_r HU.out HT.out HNo.out), HK2.out.trans (Kept.drew _) (fun _ f => f.elim)⟩
end Go.Proofs.YtcanbhbhdgogoaaDoor
