import Derived.Test.YtacmmclamkhpcaaDoorSma
namespace Go.Proofs.YtacmmclamkhpcaaDoor
open Go.ChangeShapes Go.WideShapes Go.ChangeAt Go.RowKit

/-- A bound as the automaton keeps it: an open one keeps nothing else. -/
def nI (o i : Bool) : Bool := if o then false else i
def nT (o : Bool) (t : List UInt8) : List UInt8 := if o then [] else t
theorem em_open (o i : Bool) (t : List UInt8) (I : Bool) (T : List UInt8) : mEmp o i t true I T = false := rfl
theorem em_lt {o i : Bool} {t : List UInt8} (O I : Bool) {T : List UInt8} (h : blS (mLeast o i t) T = true) : mEmp o i t O I T = false := by
  unfold mEmp mHi
  rw [h]
  simp
theorem em_eq {o i : Bool} {t : List UInt8} (I : Bool) {T : List UInt8} (h : mLeast o i t = T) : mEmp o i t false I T = !I := by
  unfold mEmp mHi
  rw [h, blS_irr]
  simp
theorem em_gt {o i : Bool} {t : List UInt8} (I : Bool) {T : List UInt8} (h : blS (mLeast o i t) T = false) (h2 : mLeast o i t ≠ T) : mEmp o i t false I T = true := by
  unfold mEmp mHi
  rw [h, decide_eq_false h2]
  rfl
theorem least_n (t : ByteArray) : (t ++ ⟨#[0]⟩ : ByteArray).toList = mLeast false false t.data.toList := by
  rw [ByteArray.toList_eq, ByteArray.data_append, Array.toList_append]; rfl
theorem least_i (o : Bool) (t : ByteArray) : t.toList = mLeast o true t.data.toList := by
  rw [ByteArray.toList_eq]; unfold mLeast; rw [if_neg (by simp), List.append_nil]
theorem least_o (i : Bool) (t : ByteArray) : t.toList = mLeast true i t.data.toList := by
  rw [ByteArray.toList_eq]; unfold mLeast; rw [if_neg (by simp), List.append_nil]
set_option maxRecDepth 20000 in
set_option maxHeartbeats 4000000 in
theorem isEmptyK (o i O I : Bool) (t T : ByteArray) (w : World) (ht : t.size ≤ 1099511627776) : Calls Tryd.prog 74 #[.agg #[.bool o, .bool i, .string t, .bool O, .bool I, .string T]] w fun e w' => e = .returned (.bool (mEmp o i t.data.toList O I T.data.toList)) ∧ Kept (fun _ => False) w w' := by
  have KB := hideG (Kept.alloc w (.cells #[.bool o, .bool i, .string t, .bool O, .bool I, .string T] 92))
  have eT : T.toList = T.data.toList := ByteArray.toList_eq _
  cases o <;> cases i <;> cases O
  · have hls : (t ++ ⟨#[0]⟩).size ≤ 1099511627777 := by first | omega | (rw [ByteArray.size_append]; have : (⟨#[0]⟩ : ByteArray).size = 1 := rfl; omega)
    have el : (t ++ ⟨#[0]⟩).toList = _ := least_n t
    cases hb : Op.bytesLess (t ++ ⟨#[0]⟩).toList T.toList
    · by_cases he : (t ++ ⟨#[0]⟩).toList = T.toList
      · rw [em_eq (h := el.symm.trans (he.trans eT))]
        have hxx : Op.bytesLess T.toList T.toList = false := blS_irr _
        clear eT el
        go_enter Tryd.func74, Tryd.ntmps74
        go_wp2
        all_goals (go_ret; exact ⟨rfl, KB.out⟩)
      · rw [em_gt (h := by rw [← el, ← eT]; exact hb) (h2 := by rw [← el, ← eT]; exact he)]
        clear eT el
        go_enter Tryd.func74, Tryd.ntmps74
        go_wp2
        all_goals (go_ret; exact ⟨rfl, KB.out⟩)
    · rw [em_lt (h := by rw [← el, ← eT]; exact hb)]
      clear eT el
      go_enter Tryd.func74, Tryd.ntmps74
      go_wp2
      all_goals (go_ret; exact ⟨rfl, KB.out⟩)
  · have hls : (t ++ ⟨#[0]⟩).size ≤ 1099511627777 := by first | omega | (rw [ByteArray.size_append]; have : (⟨#[0]⟩ : ByteArray).size = 1 := rfl; omega)
    have el : (t ++ ⟨#[0]⟩).toList = _ := least_n t
    rw [em_open]
    clear eT el
    go_enter Tryd.func74, Tryd.ntmps74
    go_wp2
    all_goals (go_ret; exact ⟨rfl, KB.out⟩)
  · have hls : t.size ≤ 1099511627777 := by first | omega | (rw [ByteArray.size_append]; have : (⟨#[0]⟩ : ByteArray).size = 1 := rfl; omega)
    have el : t.toList = _ := least_i false t
    cases hb : Op.bytesLess t.toList T.toList
    · by_cases he : t.toList = T.toList
      · rw [em_eq (h := el.symm.trans (he.trans eT))]
        have hxx : Op.bytesLess T.toList T.toList = false := blS_irr _
        clear eT el
        go_enter Tryd.func74, Tryd.ntmps74
        go_wp2
        all_goals (go_ret; exact ⟨rfl, KB.out⟩)
      · rw [em_gt (h := by rw [← el, ← eT]; exact hb) (h2 := by rw [← el, ← eT]; exact he)]
        clear eT el
        go_enter Tryd.func74, Tryd.ntmps74
        go_wp2
        all_goals (go_ret; exact ⟨rfl, KB.out⟩)
    · rw [em_lt (h := by rw [← el, ← eT]; exact hb)]
      clear eT el
      go_enter Tryd.func74, Tryd.ntmps74
      go_wp2
      all_goals (go_ret; exact ⟨rfl, KB.out⟩)
  · have hls : t.size ≤ 1099511627777 := by first | omega | (rw [ByteArray.size_append]; have : (⟨#[0]⟩ : ByteArray).size = 1 := rfl; omega)
    have el : t.toList = _ := least_i false t
    rw [em_open]
    clear eT el
    go_enter Tryd.func74, Tryd.ntmps74
    go_wp2
    all_goals (go_ret; exact ⟨rfl, KB.out⟩)
  · have hls : t.size ≤ 1099511627777 := by first | omega | (rw [ByteArray.size_append]; have : (⟨#[0]⟩ : ByteArray).size = 1 := rfl; omega)
    have el : t.toList = _ := least_o false t
    cases hb : Op.bytesLess t.toList T.toList
    · by_cases he : t.toList = T.toList
      · rw [em_eq (h := el.symm.trans (he.trans eT))]
        have hxx : Op.bytesLess T.toList T.toList = false := blS_irr _
        clear eT el
        go_enter Tryd.func74, Tryd.ntmps74
        go_wp2
        all_goals (go_ret; exact ⟨rfl, KB.out⟩)
      · rw [em_gt (h := by rw [← el, ← eT]; exact hb) (h2 := by rw [← el, ← eT]; exact he)]
        clear eT el
        go_enter Tryd.func74, Tryd.ntmps74
        go_wp2
        all_goals (go_ret; exact ⟨rfl, KB.out⟩)
    · rw [em_lt (h := by rw [← el, ← eT]; exact hb)]
      clear eT el
      go_enter Tryd.func74, Tryd.ntmps74
      go_wp2
      all_goals (go_ret; exact ⟨rfl, KB.out⟩)
  · have hls : t.size ≤ 1099511627777 := by first | omega | (rw [ByteArray.size_append]; have : (⟨#[0]⟩ : ByteArray).size = 1 := rfl; omega)
    have el : t.toList = _ := least_o false t
    rw [em_open]
    clear eT el
    go_enter Tryd.func74, Tryd.ntmps74
    go_wp2
    all_goals (go_ret; exact ⟨rfl, KB.out⟩)
  · have hls : t.size ≤ 1099511627777 := by first | omega | (rw [ByteArray.size_append]; have : (⟨#[0]⟩ : ByteArray).size = 1 := rfl; omega)
    have el : t.toList = _ := least_o true t
    cases hb : Op.bytesLess t.toList T.toList
    · by_cases he : t.toList = T.toList
      · rw [em_eq (h := el.symm.trans (he.trans eT))]
        have hxx : Op.bytesLess T.toList T.toList = false := blS_irr _
        clear eT el
        go_enter Tryd.func74, Tryd.ntmps74
        go_wp2
        all_goals (go_ret; exact ⟨rfl, KB.out⟩)
      · rw [em_gt (h := by rw [← el, ← eT]; exact hb) (h2 := by rw [← el, ← eT]; exact he)]
        clear eT el
        go_enter Tryd.func74, Tryd.ntmps74
        go_wp2
        all_goals (go_ret; exact ⟨rfl, KB.out⟩)
    · rw [em_lt (h := by rw [← el, ← eT]; exact hb)]
      clear eT el
      go_enter Tryd.func74, Tryd.ntmps74
      go_wp2
      all_goals (go_ret; exact ⟨rfl, KB.out⟩)
  · have hls : t.size ≤ 1099511627777 := by first | omega | (rw [ByteArray.size_append]; have : (⟨#[0]⟩ : ByteArray).size = 1 := rfl; omega)
    have el : t.toList = _ := least_o true t
    rw [em_open]
    clear eT el
    go_enter Tryd.func74, Tryd.ntmps74
    go_wp2
    all_goals (go_ret; exact ⟨rfl, KB.out⟩)
theorem ownBoundK (o i : Bool) (t : ByteArray) (w : World) (ht : t.size ≤ 281474976710656) : Calls Tryd.prog 40 #[.agg #[.bool o, .bool i, .string t]] w fun e w' => e = .returned (.agg #[.bool o, .bool (nI o i), .string (bq (nT o t.data.toList))]) ∧ Kept (fun _ => False) w w' := by
  cases o
  · have CC : ∀ W, Calls Tryd.prog 28 #[.string t] W fun e w' => e = .returned (.string t) ∧ Kept (fun _ => False) W w' := fun W => clone_any t W ht
    have A1 := Kept.alloc w (.cells #[.bool false, .bool i, .string t] 23)
    have A2 := Kept.alloc (w.alloc (.cells #[.bool false, .bool i, .string t] 23)) (.cells #[.bool false, .bool false, .string ⟨#[]⟩] 23)
    have h1 := A2.heap (heap_alloc_new w (.cells #[.bool false, .bool i, .string t] 23)) (fun f => f)
    have h2 := heap_alloc_new (w.alloc (.cells #[.bool false, .bool i, .string t] 23)) (.cells #[.bool false, .bool false, .string ⟨#[]⟩] 23)
    rw [World.size_alloc] at h2
    have HA := hideG (A1.trans A2 (fun _ f => f.elim))
    have H1 := hideG h1
    have H2 := hideG h2
    clear A1 A2 h1 h2
    go_enter Tryd.func40, Tryd.ntmps40
    go_wp2_with (go_at_call 28; refine (CC _).mono ?_; clear CC; rintro e W ⟨rfl, K1⟩; have g1 := K1.heap H1.out (fun f => f); have g2 := K1.heap H2.out (fun f => f); have x0 : W.cell? ⟨w.heap.size, 0, none⟩ = some (.bool false) := (by simp [World.cell?, g1]); have x1 : W.cell? ⟨w.heap.size, 1, none⟩ = some (.bool i) := (by simp [World.cell?, g1]); have x2 : W.cell? ⟨w.heap.size, 2, none⟩ = some (.string t) := (by simp [World.cell?, g1]); have f2 : W.frozen? ⟨w.heap.size, 2, none⟩ = false := (by simp [World.frozen?, g1]); have HK := hideG (HA.out.trans K1 (fun _ f => f.elim)); have G1 := hideG g1; have G2 := hideG g2; clear g1 g2 K1; have ks := Kept.setCell W ⟨w.heap.size, 2, none⟩ (.string t); have e1 := set_blockA (k := 2) (u := .string t) G1.out; have e2 := ks.heap G2.out (fun e => by simp only at e; omega); have y0 : (W.setCell ⟨w.heap.size, 2, none⟩ (.string t)).cell? ⟨w.heap.size, 0, none⟩ = some (.bool false) := (by simp [World.cell?, e1]); have y1 : (W.setCell ⟨w.heap.size, 2, none⟩ (.string t)).cell? ⟨w.heap.size, 1, none⟩ = some (.bool i) := (by simp [World.cell?, e1]); have y2 : (W.setCell ⟨w.heap.size, 2, none⟩ (.string t)).cell? ⟨w.heap.size, 2, none⟩ = some (.string t) := (by simp [World.cell?, e1]); obtain ⟨z0, z1, z2, z3, z4, z5, z6, z7, z8⟩ := bst (.bool false) (.bool i) (.string t) e2; have HKs := hideG (((ks.mono fun j hj => .inl (by simp only at hj; omega : w.heap.size ≤ j)).trans (Kept.setCell _ ⟨w.heap.size + 1, 0, none⟩ (.bool false)) (fun j hj => .inl (by simp only at hj; omega))).trans ((Kept.setCell _ ⟨w.heap.size + 1, 1, none⟩ (.bool i)).trans (Kept.setCell _ ⟨w.heap.size + 1, 2, none⟩ (.string t)) (fun j hj => .inl hj)) (fun j hj => .inl (by simp only at hj; omega))); clear e1 e2 ks)
    refine bodyPost_ret (v := .agg #[.bool false, .bool i, .string t]) (by simp [results, Tryd.results40, go_sem, z6, z7, z8]) rfl ⟨rfl, HK.out.trans HKs.out (fun j hj => .inr hj)⟩
  · go_enter Tryd.func40, Tryd.ntmps40
    go_wp2
    refine bodyPost_ret (v := .agg #[.bool true, .bool false, .string ⟨#[]⟩]) (by simp [results, Tryd.results40, go_sem]) rfl ⟨rfl, (Kept.alloc _ _).trans (Kept.alloc _ _) (fun _ f => f.elim)⟩
def S0S (o i : Bool) (t : List UInt8) (O I : Bool) (T : List UInt8) : List Int := if mEmp o i t O I T then [] else [so o, so O]
/-- span's start, exactly. -/
def StSb (o O b : Bool) (w w' : World) (e : Ending) : Prop := (∃ a c, e = .returned (.slice a (if b then [] else [so o, so O] : List Int).length c) ∧ NsAt w' a (if b then [] else [so o, so O]) ∧ (if b then [] else [so o, so O] : List Int).length ≤ c) ∧ Kept (fun _ => False) w w'
def StS2 (o i : Bool) (t : List UInt8) (O I : Bool) (T : List UInt8) (w w' : World) (e : Ending) : Prop := (∃ a c, e = .returned (.slice a (S0S o i t O I T).length c) ∧ NsAt w' a (S0S o i t O I T) ∧ (S0S o i t O I T).length ≤ c) ∧ Kept (fun _ => False) w w'
set_option maxRecDepth 20000 in
set_option maxHeartbeats 4000000 in
theorem sstartE (o i O I : Bool) (t T : ByteArray) (w : World) (ht : t.size ≤ 1099511627776) : Calls Tryd.prog 77 #[.agg #[.bool o, .bool i, .string t, .bool O, .bool I, .string T]] w fun e w' => StSb o O (mEmp o i t.data.toList O I T.data.toList) w w' e := by
  have KB := Kept.alloc w (.cells #[.bool o, .bool i, .string t, .bool O, .bool I, .string T] 92)
  have hbx := heap_alloc_new w (.cells #[.bool o, .bool i, .string t, .bool O, .bool I, .string T] 92)
  have CE := hideG (isEmptyK o i O I t T (w.alloc (.cells #[.bool o, .bool i, .string t, .bool O, .bool I, .string T] 92)) ht)
  have HB := hideG KB
  have HX := hideG hbx
  clear KB hbx
  have CS := fun W => hideG (startOfK o i t W)
  have CT := fun W => hideG (startOfK O I T W)
  generalize mEmp o i t.data.toList O I T.data.toList = b at *
  go_enter Tryd.func77, Tryd.ntmps77
  go_wp2_with (go_at_call 74; refine Stp2.go ?_)
  refine ⟨?_⟩
  refine CE.out.mono ?_
  rintro e W ⟨rfl, K1⟩
  have K2 := HB.out.trans K1 (fun _ f => f.elim)
  have h1 := K1.heap HX.out (fun f => f)
  have HK2 := hideG K2
  cases b
  · have hS6 : Kept (fun _ => False) W W.drew := Kept.drewA W 1
    have HC : Hid (∀ W', Kept (fun _ => False) W W' → W'.cell? ⟨w.heap.size, 0, none⟩ = some (.bool o) ∧ W'.cell? ⟨w.heap.size, 1, none⟩ = some (.bool i) ∧ W'.cell? ⟨w.heap.size, 2, none⟩ = some (.string t) ∧ W'.cell? ⟨w.heap.size, 3, none⟩ = some (.bool O) ∧ W'.cell? ⟨w.heap.size, 4, none⟩ = some (.bool I) ∧ W'.cell? ⟨w.heap.size, 5, none⟩ = some (.string T)) := hideG (fun W' k => by
      have h2 := k.heap h1 (fun f => f)
      refine ⟨by simp [World.cell?, h2], by simp [World.cell?, h2], by simp [World.cell?, h2], by simp [World.cell?, h2], by simp [World.cell?, h2], by simp [World.cell?, h2]⟩)
    clear K1 K2 h1 CE HX HB
    go_wp2
    refine wp_region_held (S := fun W' => Kept (fun _ => False) W W') (by kernel_rfl) ?_
    change wpAnyH _ _ _ _ _ _ _ _ (World.drew _)
    refine takeHA (i := 0) (d := 5) (v := .pointer (some ⟨w.heap.size, 0, none⟩)) rfl rfl (by kernel_rfl) (by kernel_rfl) (by kernel_rfl) (fun _ _ _ h => h) (Or.inl ⟨by rfl, fun W hW => ?_⟩) hS6 ?_
    · go_simp
    simp only [Act.put, List.setIfInBounds_toArray, List.set_cons_zero, List.set_cons_succ]
    refine takeHA (i := 1) (d := 6) (v := .agg #[.bool o, .bool i, .string t]) rfl rfl (by kernel_rfl) (by kernel_rfl) (by kernel_rfl) (fun _ _ _ h => h) (Or.inl ⟨by rfl, fun W hW => ?_⟩) hS6 ?_
    · (obtain ⟨q0, q1, q2, q3, q4, q5⟩ := HC.out _ hW; go_simp)
    simp only [Act.put, List.setIfInBounds_toArray, List.set_cons_zero, List.set_cons_succ]
    refine takeHA (i := 3) (d := 8) (v := .pointer (some ⟨w.heap.size, 3, none⟩)) rfl rfl (by kernel_rfl) (by kernel_rfl) (by kernel_rfl) (fun _ _ _ h => h) (Or.inl ⟨by rfl, fun W hW => ?_⟩) hS6 ?_
    · go_simp
    simp only [Act.put, List.setIfInBounds_toArray, List.set_cons_zero, List.set_cons_succ]
    refine takeHA (i := 4) (d := 9) (v := .agg #[.bool O, .bool I, .string T]) rfl rfl (by kernel_rfl) (by kernel_rfl) (by kernel_rfl) (fun _ _ _ h => h) (Or.inl ⟨by rfl, fun W hW => ?_⟩) hS6 ?_
    · (obtain ⟨q0, q1, q2, q3, q4, q5⟩ := HC.out _ hW; go_simp)
    simp only [Act.put, List.setIfInBounds_toArray, List.set_cons_zero, List.set_cons_succ]
    refine wpAnyH_all (rs := [2]) (by kernel_rfl) (by simp) ?_
    intro i hi
    obtain rfl : i = 2 := by simpa using hi
    unfold wpOp
    go_simp
    first | refine (CS _).out.mono ?_ | refine Or.inl ((CS _).out.mono ?_)
    rintro e W2 ⟨rfl, k2⟩
    have hk2 := hS6.trans k2 (fun _ f => f.elim)
    refine ⟨hk2, ?_⟩
    refine wpAnyH_all (rs := [5]) (by kernel_rfl) (by simp) ?_
    intro i hi
    obtain rfl : i = 5 := by simpa using hi
    unfold wpOp
    go_simp
    first | refine (CT _).out.mono ?_ | refine Or.inl ((CT _).out.mono ?_)
    rintro e W3 ⟨rfl, k3⟩
    have hk3 := hk2.trans k3 (fun _ f => f.elim)
    refine ⟨hk3, ?_⟩
    refine wpAnyH_all (rs := [6]) (by kernel_rfl) (by simp) ?_
    intro i hi
    obtain rfl : i = 6 := by simpa using hi
    unfold wpOp
    go_simp
    have hk4 := hk3.trans (Kept.alloc W3 (.cells #[.int .i64 (so o), .int .i64 (so O)] 3)) (fun _ f => f.elim)
    first | refine ⟨hk4, ?_⟩ | refine Or.inl ⟨hk4, ?_⟩
    refine takeHA (i := 7) (d := 2) (v := .slice (some ⟨W3.heap.size, 0, none⟩) 2 2) rfl rfl (by kernel_rfl) (by kernel_rfl) (by kernel_rfl) (fun _ _ _ h => h) (Or.inl ⟨by rfl, fun W hW => ?_⟩) hk4 ?_
    · go_simp
    simp only [Act.put, List.setIfInBounds_toArray, List.set_cons_zero, List.set_cons_succ]
    refine wpAnyH_done (by kernel_rfl) ?_ _
    go_wp2
    go_ret
    exact ⟨⟨_, _, rfl, (nsAt_two W3 (so o) (so O)), Nat.le_refl _⟩, HK2.out.trans hk4 (fun _ f => f.elim)⟩
  · clear K1 K2 h1 CE HX HB
    go_wp2
    go_ret
    exact ⟨⟨none, 0, rfl, fun h => absurd rfl h, Nat.le_refl _⟩, HK2.out⟩
theorem sstartE2 (o i O I : Bool) (t T : ByteArray) (w : World) (ht : t.size ≤ 1099511627776) : Calls Tryd.prog 77 #[.agg #[.bool o, .bool i, .string t, .bool O, .bool I, .string T]] w fun e w' => StS2 o i t.data.toList O I T.data.toList w w' e := sstartE o i O I t T w ht
theorem newAutoE_span (o i O I : Bool) (t T : ByteArray) (w : World) (ht : t.size ≤ 1099511627776) (hT : T.size ≤ 1099511627776) : Calls Tryd.prog 27 #[.iface 92 (.agg #[.bool o, .bool i, .string t, .bool O, .bool I, .string T])] w fun e w' => (∃ ba, e = .returned (.pointer (some ⟨ba, 0, none⟩)) ∧ AuM w' ba (nxS t.data.toList T.data.toList I) (acS t.data.toList i) (S0S o i t.data.toList O I T.data.toList)) ∧ Kept (fun _ => False) w w' := by
  have CS := hideG (sstartE2 o i O I t T w ht)
  unfold StS2 at CS
  have M0 := meth_span
  have HT := hideG (And.intro ht hT)
  clear ht hT
  have hS : S0S o i t.data.toList O I T.data.toList = [] ∨ S0S o i t.data.toList O I T.data.toList = [so o, so O] := by unfold S0S; split; exact .inl rfl; exact .inr rfl
  generalize S0S o i t.data.toList O I T.data.toList = S at *
  go_enter Tryd.func27, Tryd.ntmps27
  go_wp2_with (go_at_call 77; refine CS.out.mono ?_; clear CS; rintro e W ⟨⟨a, c, rfl, hN, hc⟩, K1⟩)
  go_ret
  have ka := Kept.alloc W (.cells #[.iface 92 (.agg #[.bool o, .bool i, .string t, .bool O, .bool I, .string T]), .slice a S.length c] 60)
  refine ⟨⟨W.heap.size, rfl, ?_⟩, K1.trans ka (fun _ f => f.elim)⟩
  have hl : ∀ s : ByteArray, s.data.toList.length = s.size := fun s => Array.length_toList
  refine aum_of (knd_span _ o i O I t.data.toList T.data.toList (by rw [hl]; exact HT.out.1) (by rw [hl]; exact HT.out.2)) (sa := a) (sc := c) ⟨by simp [bq_of], by simp, hN.kept ka, hc⟩ ?_
  rcases hS with rfl | rfl
  · exact .inl rfl
  · exact ivS_start _ _ _ _
set_option maxRecDepth 20000 in
set_option maxHeartbeats 4000000 in
theorem SpanE (o i O I : Bool) (t T : ByteArray) (w : World) (ht : t.size ≤ 1099511627776) (hT : T.size ≤ 1099511627776) : Calls Tryd.prog 33 #[.agg #[.bool o, .bool i, .string t], .agg #[.bool O, .bool I, .string T]] w fun e w' => (∃ ba, e = .returned (.pointer (some ⟨ba, 0, none⟩)) ∧ AuM w' ba (nxS (nT o t.data.toList) (nT O T.data.toList) (nI O I)) (acS (nT o t.data.toList) (nI o i)) (S0S o (nI o i) (nT o t.data.toList) O (nI O I) (nT O T.data.toList))) ∧ Kept (fun _ => False) w w' := by
  have K1 := Kept.alloc w (.cells #[.bool o, .bool i, .string t] 23)
  have K2 := Kept.alloc (w.alloc (.cells #[.bool o, .bool i, .string t] 23)) (.cells #[.bool O, .bool I, .string T] 23)
  have h1 := K2.heap (heap_alloc_new w (.cells #[.bool o, .bool i, .string t] 23)) (fun f => f)
  have h2 := heap_alloc_new (w.alloc (.cells #[.bool o, .bool i, .string t] 23)) (.cells #[.bool O, .bool I, .string T] 23)
  rw [World.size_alloc] at h2
  have HK := hideG (K1.trans K2 (fun _ f => f.elim))
  have CO := fun W => hideG (ownBoundK o i t W (by omega))
  have CP := fun W => hideG (ownBoundK O I T W (by omega))
  have HC : Hid (∀ W', Kept (fun _ => False) ((w.alloc (.cells #[.bool o, .bool i, .string t] 23)).alloc (.cells #[.bool O, .bool I, .string T] 23)) W' → W'.cell? ⟨w.heap.size, 0, none⟩ = some (.bool o) ∧ W'.cell? ⟨w.heap.size, 1, none⟩ = some (.bool i) ∧ W'.cell? ⟨w.heap.size, 2, none⟩ = some (.string t) ∧ W'.cell? ⟨w.heap.size + 1, 0, none⟩ = some (.bool O) ∧ W'.cell? ⟨w.heap.size + 1, 1, none⟩ = some (.bool I) ∧ W'.cell? ⟨w.heap.size + 1, 2, none⟩ = some (.string T)) := hideG (fun W' k => by
    have g1 := k.heap h1 (fun f => f)
    have g2 := k.heap h2 (fun f => f)
    refine ⟨by simp [World.cell?, g1], by simp [World.cell?, g1], by simp [World.cell?, g1], by simp [World.cell?, g2], by simp [World.cell?, g2], by simp [World.cell?, g2]⟩)
  clear h1 h2 K1 K2
  have ht' : (bq (nT o t.data.toList)).size ≤ 1099511627776 := by rw [bq_size]; unfold nT; split; exact Nat.zero_le _; rw [Array.length_toList]; exact ht
  have hT' : (bq (nT O T.data.toList)).size ≤ 1099511627776 := by rw [bq_size]; unfold nT; split; exact Nat.zero_le _; rw [Array.length_toList]; exact hT
  have e1 : nT o t.data.toList = (bq (nT o t.data.toList)).data.toList := rfl
  have e2 : nT O T.data.toList = (bq (nT O T.data.toList)).data.toList := rfl
  rw [e1, e2]
  clear e1 e2
  generalize bq (nT o t.data.toList) = t' at *
  generalize bq (nT O T.data.toList) = T' at *
  generalize nI o i = i' at *
  generalize nI O I = I' at *
  go_enter Tryd.func33, Tryd.ntmps33
  go_wp2
  generalize World.alloc (World.alloc w (.cells #[.bool o, .bool i, .string t] 23)) (.cells #[.bool O, .bool I, .string T] 23) = V at *
  have hS6 : Kept (fun _ => False) V V.drew := Kept.drewA V 1
  refine wp_region_held (S := fun W' => Kept (fun _ => False) V W') (by kernel_rfl) ?_
  change wpAnyH _ _ _ _ _ _ _ _ (World.drew _)
  refine takeHA (i := 0) (d := 5) (v := .agg #[.bool o, .bool i, .string t]) rfl rfl (by kernel_rfl) (by kernel_rfl) (by kernel_rfl) (fun _ _ _ h => h) (Or.inl ⟨by rfl, fun W hW => ?_⟩) hS6 ?_
  · (obtain ⟨q0, q1, q2, q3, q4, q5⟩ := HC.out _ hW; go_simp)
  simp only [Act.put, List.setIfInBounds_toArray, List.set_cons_zero, List.set_cons_succ]
  refine takeHA (i := 2) (d := 7) (v := .agg #[.bool O, .bool I, .string T]) rfl rfl (by kernel_rfl) (by kernel_rfl) (by kernel_rfl) (fun _ _ _ h => h) (Or.inl ⟨by rfl, fun W hW => ?_⟩) hS6 ?_
  · (obtain ⟨q0, q1, q2, q3, q4, q5⟩ := HC.out _ hW; go_simp)
  simp only [Act.put, List.setIfInBounds_toArray, List.set_cons_zero, List.set_cons_succ]
  refine wpAnyH_all (rs := [1]) (by kernel_rfl) (by simp) ?_
  intro i hi
  obtain rfl : i = 1 := by simpa using hi
  unfold wpOp
  go_simp
  first | refine (CO _).out.mono ?_ | refine Or.inl ((CO _).out.mono ?_)
  rintro e W2 ⟨rfl, k2⟩
  have hk2 := hS6.trans k2 (fun _ f => f.elim)
  refine ⟨hk2, ?_⟩
  refine wpAnyH_all (rs := [3]) (by kernel_rfl) (by simp) ?_
  intro i hi
  obtain rfl : i = 3 := by simpa using hi
  unfold wpOp
  go_simp
  first | refine (CP _).out.mono ?_ | refine Or.inl ((CP _).out.mono ?_)
  rintro e W3 ⟨rfl, k3⟩
  have hk3 := hk2.trans k3 (fun _ f => f.elim)
  refine ⟨hk3, ?_⟩
  refine takeHA (i := 4) (d := 9) (v := .agg #[.bool o, .bool i', .string t', .bool O, .bool I', .string T']) rfl rfl (by kernel_rfl) (by kernel_rfl) (by kernel_rfl) (fun _ _ _ h => h) (Or.inl ⟨by rfl, fun W hW => ?_⟩) hk3 ?_
  · go_simp
  simp only [Act.put, List.setIfInBounds_toArray, List.set_cons_zero, List.set_cons_succ]
  refine takeHA (i := 5) (d := 10) (v := .iface 92 (.agg #[.bool o, .bool i', .string t', .bool O, .bool I', .string T'])) rfl rfl (by kernel_rfl) (by kernel_rfl) (by kernel_rfl) (fun _ _ _ h => h) (Or.inl ⟨by rfl, fun W hW => ?_⟩) hk3 ?_
  · go_simp
  simp only [Act.put, List.setIfInBounds_toArray, List.set_cons_zero, List.set_cons_succ]
  refine wpAnyH_all (rs := [6]) (by kernel_rfl) (by simp) ?_
  intro i hi
  obtain rfl : i = 6 := by simpa using hi
  unfold wpOp
  go_simp
  first | refine (newAutoE_span o i' O I' t' T' W3 ht' hT').mono ?_ | refine Or.inl ((newAutoE_span o i' O I' t' T' W3 ht' hT').mono ?_)
  rintro e W4 ⟨⟨b, rfl, hM⟩, k4⟩
  have hk4 := hk3.trans k4 (fun _ f => f.elim)
  refine ⟨hk4, ?_⟩
  refine takeHA (i := 7) (d := 4) (v := .pointer (some ⟨b, 0, none⟩)) rfl rfl (by kernel_rfl) (by kernel_rfl) (by kernel_rfl) (fun _ _ _ h => h) (Or.inl ⟨by rfl, fun W hW => ?_⟩) hk4 ?_
  · go_simp
  simp only [Act.put, List.setIfInBounds_toArray, List.set_cons_zero, List.set_cons_succ]
  refine wpAnyH_done (by kernel_rfl) ?_ _
  go_wp2
  go_ret
  exact ⟨⟨b, rfl, hM⟩, HK.out.trans hk4 (fun _ f => f.elim)⟩
/-- What kind of automaton is made: a span's too. -/
def KSp (k : Int) (a1 a2 : Bool) (t1 : List UInt8) (b1 b2 : Bool) (t2 : List UInt8) (nx : List Int → Nat → List Int) (ac : List Int → Bool) (S0 : List Int) : Prop :=
  k = 5 → nx = nxS (nT a1 t1) (nT b1 t2) (nI b1 b2) ∧ ac = acS (nT a1 t1) (nI a1 a2) ∧ S0 = S0S a1 (nI a1 a2) (nT a1 t1) b1 (nI b1 b2) (nT b1 t2)
def mkE (P : (List Int → Nat → List Int) → (List Int → Bool) → List Int → Prop) (ad : Nat → Addr) (k : Int) (l : List UInt8) (n : Int) (w' : World) (z : Int) (e : Ending) : Prop := ∃ p x, e = .returned (.tuple #[.pointer p, x]) ∧ ((z = 0 ∧ (∃ b nx ac S0, p = some ⟨b, 0, none⟩ ∧ AuM w' b nx ac S0 ∧ KSo k l n nx ac S0 ∧ P nx ac S0) ∧ x = .nilIface) ∨ (z = 14 ∧ p = none ∧ x = erI (ad 13)) ∨ (z = 8 ∧ p = none ∧ x = erI (ad 7)))
set_option maxRecDepth 20000 in
set_option maxHeartbeats 4000000 in
theorem make1E (k : Int) (l : List UInt8) (n : Int) (a1 a2 : Bool) (t1 : ByteArray) (b1 b2 : Bool) (t2 : ByteArray) (ad : Nat → Addr) (w : World) (hE : Errs14 w ad) (hl : l.length ≤ 137438953000) (h1 : t1.size ≤ 1099511627776) (h2 : t2.size ≤ 1099511627776) : Calls Tryd.prog 18 #[.agg #[.int .i64 k, .string (bq l), .int .i64 n, .bool a1, .bool a2, .string t1, .bool b1, .bool b2, .string t2]] w fun e w' => mkE (KSp k a1 a2 t1.data.toList b1 b2 t2.data.toList) ad k l n w' (bad k l n) e ∧ Kept (fun _ => False) w w' := by
  have KB := Kept.alloc w (.cells #[.int .i64 k, .string (bq l), .int .i64 n, .bool a1, .bool a2, .string t1, .bool b1, .bool b2, .string t2] 25)
  have HKB := hideG KB
  have HE := hideG (hE.kept KB)
  have hsz : (bq l).size ≤ 281474976710656 := by rw [bq_size]; omega
  have CW := hideG (WildK_any l (ad 13) _ hl (hE.kept KB).s13.var)
  have CP := hideG (PrefixM l (w.alloc (.cells #[.int .i64 k, .string (bq l), .int .i64 n, .bool a1, .bool a2, .string t1, .bool b1, .bool b2, .string t2] 25)) (by omega))
  have CX := hideG (ExactM l (w.alloc (.cells #[.int .i64 k, .string (bq l), .int .i64 n, .bool a1, .bool a2, .string t1, .bool b1, .bool b2, .string t2] 25)) (by omega))
  have CS := hideG (SpanE a1 a2 b1 b2 t1 t2 (w.alloc (.cells #[.int .i64 k, .string (bq l), .int .i64 n, .bool a1, .bool a2, .string t1, .bool b1, .bool b2, .string t2] 25)) h1 h2)
  have CFg : Hid (∀ ed : Nat, ed ≤ 2 → Calls Tryd.prog 15 #[.string (bq l), .int .i64 (ed : Nat)] (w.alloc (.cells #[.int .i64 k, .string (bq l), .int .i64 n, .bool a1, .bool a2, .string t1, .bool b1, .bool b2, .string t2] 25)) fun e w' => (∃ ba, e = .returned (.tuple #[.pointer (some ⟨ba, 0, none⟩), .nilIface]) ∧ AuM w' ba (nxF l ed) (acF l) (nz (0 :: List.range (min l.length ed + 1)))) ∧ Kept (fun _ => False) (w.alloc (.cells #[.int .i64 k, .string (bq l), .int .i64 n, .bool a1, .bool a2, .string t1, .bool b1, .bool b2, .string t2] 25)) w') := hideG (fun ed h => FuzzyK_any l ed _ (by omega) h)
  have CFb : Hid ((n < 0 ∨ 2 < n) → Calls Tryd.prog 15 #[.string (bq l), .int .i64 n] (w.alloc (.cells #[.int .i64 k, .string (bq l), .int .i64 n, .bool a1, .bool a2, .string t1, .bool b1, .bool b2, .string t2] 25)) fun e w' => e = .returned (.tuple #[.pointer none, .iface 97 (.pointer (some (ad 7)))]) ∧ Kept (fun _ => False) (w.alloc (.cells #[.int .i64 k, .string (bq l), .int .i64 n, .bool a1, .bool a2, .string t1, .bool b1, .bool b2, .string t2] 25)) w') := hideG (fun x => Fuzzy_bad (bq l) n (ad 7) _ x (hE.kept KB).s7.var)
  clear KB hE
  generalize hs : bq l = s at *
  by_cases k2 : k = 2
  · subst k2
    rw [bad_o (by decide) (by decide)]
    clear CW CX CS CFg CFb
    go_enter Tryd.func18, Tryd.ntmps18
    go_wp2_with (go_at_call 32; refine CP.out.mono ?_; clear CP; rintro e W ⟨⟨b, rfl, hM⟩, K1⟩)
    go_ret2
    exact ⟨⟨_, _, rfl, .inl ⟨rfl, ⟨b, _, _, _, rfl, hM, ⟨fun _ => ⟨rfl, rfl, rfl⟩, fun h => by omega, fun h => by omega, fun h => by omega⟩, fun h => absurd h (by decide)⟩, rfl⟩⟩, HKB.out.trans K1 (fun _ f => f.elim)⟩
  · have q2 : (k == 2) = false := by simpa using k2
    by_cases k3 : k = 3
    · subst k3
      cases hZ : elsR [] l with
      | none =>
        rw [hZ] at CW
        have eb : bad 3 l n = 14 := by unfold bad gd; rw [hZ, if_pos ⟨rfl, rfl⟩]
        rw [eb]
        clear CP CX CS CFg CFb eb hZ
        go_enter Tryd.func18, Tryd.ntmps18
        go_wp2_with (go_at_call 17; refine CW.out.mono ?_; clear CW; rintro e W ⟨rfl, K1⟩)
        go_ret2
        exact ⟨⟨_, _, rfl, .inr (.inl ⟨rfl, rfl, rfl⟩)⟩, HKB.out.trans K1 (fun _ f => f.elim)⟩
      | some E =>
        rw [hZ] at CW
        have eb : bad 3 l n = 0 := by unfold bad gd; rw [hZ, if_neg (by simp), if_neg (by omega)]
        rw [eb]
        have HZE := hideG hZ
        clear CP CX CS CFg CFb eb hZ
        go_enter Tryd.func18, Tryd.ntmps18
        go_wp2_with (go_at_call 17; refine CW.out.mono ?_; clear CW; rintro e W ⟨ba, rfl, hA, K1⟩)
        go_ret2
        exact ⟨⟨_, _, rfl, .inl ⟨rfl, ⟨ba, _, _, _, rfl, hA, ⟨fun h => by omega, fun _ => ⟨E, HZE.out, rfl, rfl, rfl⟩, fun h => by omega, fun _ h => absurd rfl h⟩, fun h => absurd h (by decide)⟩, rfl⟩⟩, HKB.out.trans K1 (fun _ f => f.elim)⟩
    · have q3 : (k == 3) = false := by simpa using k3
      by_cases k4 : k = 4
      · subst k4
        by_cases hn : n < 0 ∨ 2 < n
        · have eb : bad 4 l n = 8 := by unfold bad; rw [if_neg (by omega), if_pos ⟨rfl, hn⟩]
          rw [eb]
          have CF := hideG (CFb.out hn)
          clear CP CX CS CFg CFb eb CW
          go_enter Tryd.func18, Tryd.ntmps18
          go_wp2_with (go_at_call 15; refine CF.out.mono ?_; clear CF; rintro e W ⟨rfl, K1⟩)
          go_ret2
          exact ⟨⟨_, _, rfl, .inr (.inr ⟨rfl, rfl, rfl⟩)⟩, HKB.out.trans K1 (fun _ f => f.elim)⟩
        · have eb : bad 4 l n = 0 := by unfold bad; rw [if_neg (by omega), if_neg (fun h => hn h.2)]
          rw [eb]
          obtain ⟨ed, rfl⟩ : ∃ ed : Nat, n = (ed : Int) := ⟨n.toNat, by omega⟩
          have CF := hideG (CFg.out ed (by omega))
          clear CP CX CS CFg CFb eb CW
          go_enter Tryd.func18, Tryd.ntmps18
          go_wp2_with (go_at_call 15; refine CF.out.mono ?_; clear CF; rintro e W ⟨⟨b, rfl, hM⟩, K1⟩)
          go_ret2
          exact ⟨⟨_, _, rfl, .inl ⟨rfl, ⟨b, _, _, _, rfl, hM, ⟨fun h => by omega, fun h => by omega, fun _ => ⟨by rw [Int.toNat_natCast], rfl, by rw [Int.toNat_natCast]⟩, fun _ _ h => absurd rfl h⟩, fun h => absurd h (by decide)⟩, rfl⟩⟩, HKB.out.trans K1 (fun _ f => f.elim)⟩
      · have q4 : (k == 4) = false := by simpa using k4
        rw [bad_o k3 k4]
        by_cases k5 : k = 5
        · subst k5
          clear CP CX CW CFg CFb
          go_enter Tryd.func18, Tryd.ntmps18
          go_wp2_with (go_at_call 33; refine CS.out.mono ?_; clear CS; rintro e W ⟨⟨b, rfl, hM⟩, K1⟩)
          go_ret2
          exact ⟨⟨_, _, rfl, .inl ⟨rfl, ⟨b, _, _, _, rfl, hM, ⟨fun h => by omega, fun h => by omega, fun h => by omega, fun _ _ _ h => absurd rfl h⟩, fun _ => ⟨rfl, rfl, rfl⟩⟩, rfl⟩⟩, HKB.out.trans K1 (fun _ f => f.elim)⟩
        · have q5 : (k == 5) = false := by simpa using k5
          clear CP CS CW CFg CFb
          go_enter Tryd.func18, Tryd.ntmps18
          go_wp2_with (go_at_call 34; refine CX.out.mono ?_; clear CX; rintro e W ⟨⟨b, rfl, hM⟩, K1⟩)
          go_ret2
          exact ⟨⟨_, _, rfl, .inl ⟨rfl, ⟨b, _, _, _, rfl, hM, ⟨fun h => absurd h k2, fun h => absurd h k3, fun h => absurd h k4, fun _ _ _ _ => ⟨rfl, rfl, rfl⟩⟩, fun h => absurd h k5⟩, rfl⟩⟩, HKB.out.trans K1 (fun _ f => f.elim)⟩
def mdE (P : (List Int → Nat → List Int) → (List Int → Bool) → List Int → Prop) (k : Int) (l : List UInt8) (n z : Int) (w' : World) (e : Ending) : Prop := (z = 0 ∧ ∃ b nx ac S0, e = .returned (.tuple #[.pointer (some ⟨b, 0, none⟩), .bool true]) ∧ AuM w' b nx ac S0 ∧ KSo k l n nx ac S0 ∧ P nx ac S0) ∨ (z ≠ 0 ∧ e = .returned (.tuple #[.pointer none, .bool true]))
set_option maxRecDepth 20000 in
set_option maxHeartbeats 4000000 in
theorem madeE (k : Int) (l : List UInt8) (n : Int) (a1 a2 : Bool) (t1 : ByteArray) (b1 b2 : Bool) (t2 : ByteArray) (ad : Nat → Addr) (w : World) (hE : Errs14 w ad) (hl : l.length ≤ 137438953000) (h1 : t1.size ≤ 1099511627776) (h2 : t2.size ≤ 1099511627776) : Calls Tryd.prog 8 #[.agg #[.int .i64 k, .string (bq l), .int .i64 n, .bool a1, .bool a2, .string t1, .bool b1, .bool b2, .string t2]] w fun e w' => mdE (KSp k a1 a2 t1.data.toList b1 b2 t2.data.toList) k l n (bad k l n) w' e ∧ Kept (fun _ => False) w w' := by
  have KB := Kept.alloc w (.cells #[.int .i64 k, .string (bq l), .int .i64 n, .bool a1, .bool a2, .string t1, .bool b1, .bool b2, .string t2] 25)
  have hbx := heap_alloc_new w (.cells #[.int .i64 k, .string (bq l), .int .i64 n, .bool a1, .bool a2, .string t1, .bool b1, .bool b2, .string t2] 25)
  have HKB := hideG KB
  have HE := hideG (hE.kept KB)
  have HX := hideG hbx
  have C1 := hideG (make1E k l n a1 a2 t1 b1 b2 t2 ad _ (hE.kept KB) hl h1 h2)
  have C2 := fun W => hideG (told_any k (bq l) n a1 a2 t1 b1 b2 t2 W)
  have C3 := fun W => hideG (Make_told k l n a1 a2 t1 b1 b2 t2 W (by omega))
  generalize KSp k a1 a2 t1.data.toList b1 b2 t2.data.toList = P at *
  generalize tld k (bq l) n a1 a2 t1 b1 b2 t2 = tv at *
  generalize bad k l n = z at *
  unfold mkE at C1
  clear KB hbx hE
  generalize bq l = s at *
  have CELLS : Hid (∀ W : World, W.heap[w.heap.size]? = some (.cells #[.int .i64 k, .string s, .int .i64 n, .bool a1, .bool a2, .string t1, .bool b1, .bool b2, .string t2] 25 (0, 0)) → W.cell? ⟨w.heap.size, 0, none⟩ = some (.int .i64 k) ∧ W.cell? ⟨w.heap.size, 1, none⟩ = some (.string s) ∧ W.cell? ⟨w.heap.size, 2, none⟩ = some (.int .i64 n) ∧ W.cell? ⟨w.heap.size, 3, none⟩ = some (.bool a1) ∧ W.cell? ⟨w.heap.size, 4, none⟩ = some (.bool a2) ∧ W.cell? ⟨w.heap.size, 5, none⟩ = some (.string t1) ∧ W.cell? ⟨w.heap.size, 6, none⟩ = some (.bool b1) ∧ W.cell? ⟨w.heap.size, 7, none⟩ = some (.bool b2) ∧ W.cell? ⟨w.heap.size, 8, none⟩ = some (.string t2)) := hideG (fun W h => by refine ⟨?_, ?_, ?_, ?_, ?_, ?_, ?_, ?_, ?_⟩ <;> simp [World.cell?, h])
  go_enter Tryd.func8, Tryd.ntmps8
  go_wp2_with (go_at_call 18; refine Stp2.go ?_)
  refine ⟨?_⟩
  refine C1.out.mono ?_
  rintro e W ⟨⟨p, x, rfl, hz⟩, K1⟩
  obtain ⟨x0, x1, x2, x3, x4, x5, x6, x7, x8⟩ := CELLS.out W (K1.heap HX.out (fun f => f))
  have HK1 := hideG (HKB.out.trans K1 (fun _ f => f.elim))
  have HE1 := hideG (HE.out.kept K1)
  clear C1 CELLS HX HE HKB K1
  rcases hz with ⟨rfl, ⟨b, nx, ac, S0, rfl, hM, hKS, hP⟩, rfl⟩ | ⟨rfl, rfl, rfl⟩ | ⟨rfl, rfl, rfl⟩
  · have HM := hideG hM
    have HKS := hideG hKS
    have HP := hideG hP
    clear hM hKS hP
    go_wp2_with (first
      | (go_at_call 9; refine (C2 _).out.mono ?_; clear C2; rintro e W2 ⟨rfl, K2⟩; have HM2 := hideG (HM.out.kept K2); have HK2 := hideG (HK1.out.trans K2 (fun _ f => f.elim)); clear K2)
      | (go_at_call 19; refine (C3 _).out.mono ?_; clear C3; rintro e W3 ⟨rfl, K3⟩; have HM3 := hideG (HM2.out.kept K3); have HK3 := hideG (HK2.out.trans K3 (fun _ f => f.elim)); clear K3)
      | (go_at_call 20; refine (num_nil W3).mono ?_; rintro e W4 ⟨rfl, e4⟩; subst e4))
    go_ret2
    exact ⟨.inl ⟨rfl, b, nx, ac, S0, rfl, HM3.out, HKS.out, HP.out⟩, HK3.out⟩
  · unfold erI
    go_wp2_with (first
      | (go_at_call 9; refine (C2 _).out.mono ?_; clear C2; rintro e W2 ⟨rfl, K2⟩; have HK2 := hideG (HK1.out.trans K2 (fun _ f => f.elim)); have HE2 := hideG (HE1.out.kept K2); clear K2)
      | (go_at_call 19; refine (C3 _).out.mono ?_; clear C3; rintro e W3 ⟨rfl, K3⟩; have HK3 := hideG (HK2.out.trans K3 (fun _ f => f.elim)); have CN := hideG (num_pattern (HE2.out.kept K3)); clear K3)
      | (go_at_call 20; refine CN.out.mono ?_; clear CN; rintro e W4 ⟨rfl, e4⟩; subst e4))
    go_ret2
    exact ⟨.inr ⟨by decide, rfl⟩, HK3.out⟩
  · unfold erI
    go_wp2_with (first
      | (go_at_call 9; refine (C2 _).out.mono ?_; clear C2; rintro e W2 ⟨rfl, K2⟩; have HK2 := hideG (HK1.out.trans K2 (fun _ f => f.elim)); have HE2 := hideG (HE1.out.kept K2); clear K2)
      | (go_at_call 19; refine (C3 _).out.mono ?_; clear C3; rintro e W3 ⟨rfl, K3⟩; have HK3 := hideG (HK2.out.trans K3 (fun _ f => f.elim)); have CN := hideG (num_range (HE2.out.kept K3)); clear K3)
      | (go_at_call 20; refine CN.out.mono ?_; clear CN; rintro e W4 ⟨rfl, e4⟩; subst e4))
    go_ret2
    exact ⟨.inr ⟨by decide, rfl⟩, HK3.out⟩
end Go.Proofs.YtacmmclamkhpcaaDoor
