import Derived.Test.YtacmmclamkhpcaaDoorAuv
import Derived.Test.YtacmmclamkhpcaaDoorFze
namespace Go.Proofs.YtacmmclamkhpcaaDoor
open Go.ChangeShapes Go.WideShapes Go.ChangeAt Go.RowKit

/-- An automaton at block ba that answers by nx, ac from the state S0 on. -/
structure AuM (w : World) (ba : Nat) (nx : List Int → Nat → List Int) (ac : List Int → Bool) (S0 : List Int) : Prop where
  acc : ∀ W s, Kept (fun _ => False) w W → s.length ≤ 1099511627776 → Calls Tryd.prog 11 #[.pointer (some ⟨ba, 0, none⟩), .string (bq s)] W fun e w' => e = .returned (.bool (accK nx ac S0 s)) ∧ Kept (fun _ => False) W w'
  alv : ∀ W s, Kept (fun _ => False) w W → s.length ≤ 1099511627776 → Calls Tryd.prog 13 #[.pointer (some ⟨ba, 0, none⟩), .string (bq s)] W fun e w' => e = .returned (.bool (alvK nx S0 s)) ∧ Kept (fun _ => False) W w'
theorem aum_of {w : World} {ty : TypeId} {ag : Value} {fN fA : FuncId} {nx : List Int → Nat → List Int} {ac : List Int → Bool} {Inv : List Int → Prop} {S0 : List Int} {ba sc : Nat} {sa : Option Addr} (hK : Knd w ty ag fN fA nx ac Inv) (hA : AuK w ba ty ag S0 sa sc) (hI : Inv S0) : AuM w ba nx ac S0 :=
  ⟨fun W s k hs => acceptsK_any hK S0 hI sa sc ba s W k (hA.kept k) hs, fun W s k hs => aliveK_any hK S0 hI sa sc ba s W k (hA.kept k) hs⟩
theorem AuM.kept {w w' : World} {ba : Nat} {nx : List Int → Nat → List Int} {ac : List Int → Bool} {S0 : List Int} (h : AuM w ba nx ac S0) (k : Kept (fun _ => False) w w') : AuM w' ba nx ac S0 :=
  ⟨fun W s k2 hs => h.acc W s (k.trans k2 (fun _ f => f.elim)) hs, fun W s k2 hs => h.alv W s (k.trans k2 (fun _ f => f.elim)) hs⟩
def so (o : Bool) : Int := if o then -1 else 0
theorem startOfK (o i : Bool) (t : ByteArray) (w : World) : Calls Tryd.prog 79 #[.agg #[.bool o, .bool i, .string t]] w fun e w' => e = .returned (.int .i64 (so o)) ∧ Kept (fun _ => False) w w' := by
  cases o
  · have e : so false = 0 := rfl
    rw [e]
    go_enter Tryd.func79, Tryd.ntmps79
    go_wp2
    go_ret
    exact ⟨rfl, Kept.alloc _ _⟩
  · have e : so true = -1 := rfl
    rw [e]
    go_enter Tryd.func79, Tryd.ntmps79
    go_wp2
    go_ret
    exact ⟨rfl, Kept.alloc _ _⟩
theorem ivS_start (o O : Bool) (l L : List UInt8) : IvS l L [so o, so O] := by
  refine .inr ⟨_, _, rfl, ?_, ?_⟩
  · cases o
    · exact .inr ⟨0, rfl, Nat.zero_le _⟩
    · exact .inl rfl
  · cases O
    · exact .inr ⟨0, rfl, Nat.zero_le _⟩
    · exact .inl rfl
/-- span's start. -/
def StS (o O : Bool) (w w' : World) (e : Ending) : Prop := (∃ S a c, e = .returned (.slice a S.length c) ∧ NsAt w' a S ∧ S.length ≤ c ∧ (S = [] ∨ S = [so o, so O])) ∧ Kept (fun _ => False) w w'
set_option maxRecDepth 20000 in
set_option maxHeartbeats 4000000 in
theorem sstartK_any (o i O I : Bool) (t T : ByteArray) (w : World) (ht : t.size ≤ 1099511627776) : Calls Tryd.prog 77 #[.agg #[.bool o, .bool i, .string t, .bool O, .bool I, .string T]] w fun e w' => StS o O w w' e := by
  have KB := Kept.alloc w (.cells #[.bool o, .bool i, .string t, .bool O, .bool I, .string T] 92)
  have hbx := heap_alloc_new w (.cells #[.bool o, .bool i, .string t, .bool O, .bool I, .string T] 92)
  have CE := hideG (isEmpty_any o i O I t T (w.alloc (.cells #[.bool o, .bool i, .string t, .bool O, .bool I, .string T] 92)) ht)
  have HB := hideG KB
  have HX := hideG hbx
  clear KB hbx
  have CS := fun W => hideG (startOfK o i t W)
  have CT := fun W => hideG (startOfK O I T W)
  go_enter Tryd.func77, Tryd.ntmps77
  go_wp2_with (go_at_call 74; refine Stp2.go ?_)
  refine ⟨?_⟩
  refine CE.out.mono ?_
  rintro e W ⟨⟨b, rfl⟩, K1⟩
  have K2 := HB.out.trans K1 (fun _ f => f.elim)
  have h1 := K1.heap HX.out (fun f => f)
  have HK2 := hideG K2
  cases b
  · have hS6 : Kept (fun _ => False) W W.drew := Kept.drewA W 1
    have HC : Hid (∀ W', Kept (fun _ => False) W W' → W'.cell? ⟨w.heap.size, 0, none⟩ = some (.bool o) ∧ W'.cell? ⟨w.heap.size, 1, none⟩ = some (.bool i) ∧ W'.cell? ⟨w.heap.size, 2, none⟩ = some (.string t) ∧ W'.cell? ⟨w.heap.size, 3, none⟩ = some (.bool O) ∧ W'.cell? ⟨w.heap.size, 4, none⟩ = some (.bool I) ∧ W'.cell? ⟨w.heap.size, 5, none⟩ = some (.string T)) := hideG (fun W' k => by
      have h2 := k.heap h1 (fun f => f)
      refine ⟨by simp [World.cell?, h2], by simp [World.cell?, h2], by simp [World.cell?, h2], by simp [World.cell?, h2], by simp [World.cell?, h2], by simp [World.cell?, h2]⟩)
    clear K1 K2 h1 CE HX HB
    go_wp2
    refine wp_region_held (S := fun W' => Kept (fun _ => False) W W') (by kernel_rfl) ?_
    change wpAnyH _ _ _ _ _ _ _ _ (World.drew _)
    refine takeHA (i := 0) (d := 5) (v := .pointer (some ⟨w.heap.size, 0, none⟩)) rfl rfl (by kernel_rfl) (by kernel_rfl) (by kernel_rfl) (fun _ _ _ h => h) (Or.inl ⟨by rfl, fun W hW => ?_⟩) hS6 ?_
    · go_simp
    simp only [Act.put, List.setIfInBounds_toArray, List.set_cons_zero, List.set_cons_succ]
    refine takeHA (i := 1) (d := 6) (v := .agg #[.bool o, .bool i, .string t]) rfl rfl (by kernel_rfl) (by kernel_rfl) (by kernel_rfl) (fun _ _ _ h => h) (Or.inl ⟨by rfl, fun W hW => ?_⟩) hS6 ?_
    · (obtain ⟨q0, q1, q2, q3, q4, q5⟩ := HC.out _ hW; go_simp)
    simp only [Act.put, List.setIfInBounds_toArray, List.set_cons_zero, List.set_cons_succ]
    refine takeHA (i := 3) (d := 8) (v := .pointer (some ⟨w.heap.size, 3, none⟩)) rfl rfl (by kernel_rfl) (by kernel_rfl) (by kernel_rfl) (fun _ _ _ h => h) (Or.inl ⟨by rfl, fun W hW => ?_⟩) hS6 ?_
    · go_simp
    simp only [Act.put, List.setIfInBounds_toArray, List.set_cons_zero, List.set_cons_succ]
    refine takeHA (i := 4) (d := 9) (v := .agg #[.bool O, .bool I, .string T]) rfl rfl (by kernel_rfl) (by kernel_rfl) (by kernel_rfl) (fun _ _ _ h => h) (Or.inl ⟨by rfl, fun W hW => ?_⟩) hS6 ?_
    · (obtain ⟨q0, q1, q2, q3, q4, q5⟩ := HC.out _ hW; go_simp)
    simp only [Act.put, List.setIfInBounds_toArray, List.set_cons_zero, List.set_cons_succ]
    refine wpAnyH_all (rs := [2]) (by kernel_rfl) (by simp) ?_
    intro i hi
    obtain rfl : i = 2 := by simpa using hi
    unfold wpOp
    go_simp
    first | refine (CS _).out.mono ?_ | refine Or.inl ((CS _).out.mono ?_)
    rintro e W2 ⟨rfl, k2⟩
    have hk2 := hS6.trans k2 (fun _ f => f.elim)
    refine ⟨hk2, ?_⟩
    refine wpAnyH_all (rs := [5]) (by kernel_rfl) (by simp) ?_
    intro i hi
    obtain rfl : i = 5 := by simpa using hi
    unfold wpOp
    go_simp
    first | refine (CT _).out.mono ?_ | refine Or.inl ((CT _).out.mono ?_)
    rintro e W3 ⟨rfl, k3⟩
    have hk3 := hk2.trans k3 (fun _ f => f.elim)
    refine ⟨hk3, ?_⟩
    refine wpAnyH_all (rs := [6]) (by kernel_rfl) (by simp) ?_
    intro i hi
    obtain rfl : i = 6 := by simpa using hi
    unfold wpOp
    go_simp
    have hk4 := hk3.trans (Kept.alloc W3 (.cells #[.int .i64 (so o), .int .i64 (so O)] 3)) (fun _ f => f.elim)
    first | refine ⟨hk4, ?_⟩ | refine Or.inl ⟨hk4, ?_⟩
    refine takeHA (i := 7) (d := 2) (v := .slice (some ⟨W3.heap.size, 0, none⟩) 2 2) rfl rfl (by kernel_rfl) (by kernel_rfl) (by kernel_rfl) (fun _ _ _ h => h) (Or.inl ⟨by rfl, fun W hW => ?_⟩) hk4 ?_
    · go_simp
    simp only [Act.put, List.setIfInBounds_toArray, List.set_cons_zero, List.set_cons_succ]
    refine wpAnyH_done (by kernel_rfl) ?_ _
    go_wp2
    go_ret
    exact ⟨⟨[so o, so O], _, _, rfl, (nsAt_two W3 (so o) (so O)), Nat.le_refl _, .inr rfl⟩, HK2.out.trans hk4 (fun _ f => f.elim)⟩
  · clear K1 K2 h1 CE HX HB
    go_wp2
    go_ret
    exact ⟨⟨[], none, 0, rfl, fun h => absurd rfl h, Nat.le_refl _, .inl rfl⟩, HK2.out⟩
theorem newAutoK_span (o i O I : Bool) (t T : ByteArray) (w : World) (ht : t.size ≤ 1099511627776) (hT : T.size ≤ 1099511627776) : Calls Tryd.prog 27 #[.iface 92 (.agg #[.bool o, .bool i, .string t, .bool O, .bool I, .string T])] w fun e w' => (∃ ba S0, e = .returned (.pointer (some ⟨ba, 0, none⟩)) ∧ AuM w' ba (nxS t.data.toList T.data.toList I) (acS t.data.toList i) S0) ∧ Kept (fun _ => False) w w' := by
  have CS := hideG (sstartK_any o i O I t T w ht)
  have M0 := meth_span
  have HT := hideG (And.intro ht hT)
  clear ht hT
  go_enter Tryd.func27, Tryd.ntmps27
  go_wp2_with (go_at_call 77; refine CS.out.mono ?_; clear CS; rintro e W ⟨⟨S, a, c, rfl, hN, hc, hS⟩, K1⟩)
  go_ret
  have ka := Kept.alloc W (.cells #[.iface 92 (.agg #[.bool o, .bool i, .string t, .bool O, .bool I, .string T]), .slice a S.length c] 60)
  refine ⟨⟨W.heap.size, S, rfl, ?_⟩, K1.trans ka (fun _ f => f.elim)⟩
  have hl : ∀ s : ByteArray, s.data.toList.length = s.size := fun s => Array.length_toList
  refine aum_of (knd_span _ o i O I t.data.toList T.data.toList (by rw [hl]; exact HT.out.1) (by rw [hl]; exact HT.out.2)) (sa := a) (sc := c) ⟨by simp [bq_of], by simp, hN.kept ka, hc⟩ ?_
  rcases hS with rfl | rfl
  · exact .inl rfl
  · exact ivS_start _ _ _ _
set_option maxRecDepth 20000 in
set_option maxHeartbeats 4000000 in
theorem SpanK_any (o i O I : Bool) (t T : ByteArray) (w : World) (ht : t.size ≤ 1099511627776) (hT : T.size ≤ 1099511627776) : Calls Tryd.prog 33 #[.agg #[.bool o, .bool i, .string t], .agg #[.bool O, .bool I, .string T]] w fun e w' => (∃ ba nx ac S0, e = .returned (.pointer (some ⟨ba, 0, none⟩)) ∧ AuM w' ba nx ac S0) ∧ Kept (fun _ => False) w w' := by
  have K1 := Kept.alloc w (.cells #[.bool o, .bool i, .string t] 23)
  have K2 := Kept.alloc (w.alloc (.cells #[.bool o, .bool i, .string t] 23)) (.cells #[.bool O, .bool I, .string T] 23)
  have h1 := K2.heap (heap_alloc_new w (.cells #[.bool o, .bool i, .string t] 23)) (fun f => f)
  have h2 := heap_alloc_new (w.alloc (.cells #[.bool o, .bool i, .string t] 23)) (.cells #[.bool O, .bool I, .string T] 23)
  rw [World.size_alloc] at h2
  have HK := hideG (K1.trans K2 (fun _ f => f.elim))
  have CO := fun W => hideG (ownBound_any o i t W (by omega))
  have CP := fun W => hideG (ownBound_any O I T W (by omega))
  have HC : Hid (∀ W', Kept (fun _ => False) ((w.alloc (.cells #[.bool o, .bool i, .string t] 23)).alloc (.cells #[.bool O, .bool I, .string T] 23)) W' → W'.cell? ⟨w.heap.size, 0, none⟩ = some (.bool o) ∧ W'.cell? ⟨w.heap.size, 1, none⟩ = some (.bool i) ∧ W'.cell? ⟨w.heap.size, 2, none⟩ = some (.string t) ∧ W'.cell? ⟨w.heap.size + 1, 0, none⟩ = some (.bool O) ∧ W'.cell? ⟨w.heap.size + 1, 1, none⟩ = some (.bool I) ∧ W'.cell? ⟨w.heap.size + 1, 2, none⟩ = some (.string T)) := hideG (fun W' k => by
    have g1 := k.heap h1 (fun f => f)
    have g2 := k.heap h2 (fun f => f)
    refine ⟨by simp [World.cell?, g1], by simp [World.cell?, g1], by simp [World.cell?, g1], by simp [World.cell?, g2], by simp [World.cell?, g2], by simp [World.cell?, g2]⟩)
  clear h1 h2 K1 K2
  go_enter Tryd.func33, Tryd.ntmps33
  go_wp2
  generalize World.alloc (World.alloc w (.cells #[.bool o, .bool i, .string t] 23)) (.cells #[.bool O, .bool I, .string T] 23) = V at *
  have hS6 : Kept (fun _ => False) V V.drew := Kept.drewA V 1
  refine wp_region_held (S := fun W' => Kept (fun _ => False) V W') (by kernel_rfl) ?_
  change wpAnyH _ _ _ _ _ _ _ _ (World.drew _)
  refine takeHA (i := 0) (d := 5) (v := .agg #[.bool o, .bool i, .string t]) rfl rfl (by kernel_rfl) (by kernel_rfl) (by kernel_rfl) (fun _ _ _ h => h) (Or.inl ⟨by rfl, fun W hW => ?_⟩) hS6 ?_
  · (obtain ⟨q0, q1, q2, q3, q4, q5⟩ := HC.out _ hW; go_simp)
  simp only [Act.put, List.setIfInBounds_toArray, List.set_cons_zero, List.set_cons_succ]
  refine takeHA (i := 2) (d := 7) (v := .agg #[.bool O, .bool I, .string T]) rfl rfl (by kernel_rfl) (by kernel_rfl) (by kernel_rfl) (fun _ _ _ h => h) (Or.inl ⟨by rfl, fun W hW => ?_⟩) hS6 ?_
  · (obtain ⟨q0, q1, q2, q3, q4, q5⟩ := HC.out _ hW; go_simp)
  simp only [Act.put, List.setIfInBounds_toArray, List.set_cons_zero, List.set_cons_succ]
  refine wpAnyH_all (rs := [1]) (by kernel_rfl) (by simp) ?_
  intro i hi
  obtain rfl : i = 1 := by simpa using hi
  unfold wpOp
  go_simp
  first | refine (CO _).out.mono ?_ | refine Or.inl ((CO _).out.mono ?_)
  rintro e W2 ⟨⟨i', t', rfl, ht'⟩, k2⟩
  have hk2 := hS6.trans k2 (fun _ f => f.elim)
  refine ⟨hk2, ?_⟩
  refine wpAnyH_all (rs := [3]) (by kernel_rfl) (by simp) ?_
  intro i hi
  obtain rfl : i = 3 := by simpa using hi
  unfold wpOp
  go_simp
  first | refine (CP _).out.mono ?_ | refine Or.inl ((CP _).out.mono ?_)
  rintro e W3 ⟨⟨I', T', rfl, hT'⟩, k3⟩
  have hk3 := hk2.trans k3 (fun _ f => f.elim)
  refine ⟨hk3, ?_⟩
  refine takeHA (i := 4) (d := 9) (v := .agg #[.bool o, .bool i', .string t', .bool O, .bool I', .string T']) rfl rfl (by kernel_rfl) (by kernel_rfl) (by kernel_rfl) (fun _ _ _ h => h) (Or.inl ⟨by rfl, fun W hW => ?_⟩) hk3 ?_
  · go_simp
  simp only [Act.put, List.setIfInBounds_toArray, List.set_cons_zero, List.set_cons_succ]
  refine takeHA (i := 5) (d := 10) (v := .iface 92 (.agg #[.bool o, .bool i', .string t', .bool O, .bool I', .string T'])) rfl rfl (by kernel_rfl) (by kernel_rfl) (by kernel_rfl) (fun _ _ _ h => h) (Or.inl ⟨by rfl, fun W hW => ?_⟩) hk3 ?_
  · go_simp
  simp only [Act.put, List.setIfInBounds_toArray, List.set_cons_zero, List.set_cons_succ]
  refine wpAnyH_all (rs := [6]) (by kernel_rfl) (by simp) ?_
  intro i hi
  obtain rfl : i = 6 := by simpa using hi
  unfold wpOp
  go_simp
  first | refine (newAutoK_span o i' O I' t' T' W3 (by omega) (by omega)).mono ?_ | refine Or.inl ((newAutoK_span o i' O I' t' T' W3 (by omega) (by omega)).mono ?_)
  rintro e W4 ⟨⟨b, S0, rfl, hM⟩, k4⟩
  have hk4 := hk3.trans k4 (fun _ f => f.elim)
  refine ⟨hk4, ?_⟩
  refine takeHA (i := 7) (d := 4) (v := .pointer (some ⟨b, 0, none⟩)) rfl rfl (by kernel_rfl) (by kernel_rfl) (by kernel_rfl) (fun _ _ _ h => h) (Or.inl ⟨by rfl, fun W hW => ?_⟩) hk4 ?_
  · go_simp
  simp only [Act.put, List.setIfInBounds_toArray, List.set_cons_zero, List.set_cons_succ]
  refine wpAnyH_done (by kernel_rfl) ?_ _
  go_wp2
  go_ret
  exact ⟨⟨b, _, _, S0, rfl, hM⟩, HK.out.trans hk4 (fun _ f => f.elim)⟩
theorem FuzzyK_any (l : List UInt8) (ed : Nat) (w : World) (hl : l.length ≤ 1099511000000) (hed : ed ≤ 2) : Calls Tryd.prog 15 #[.string (bq l), .int .i64 (ed : Nat)] w fun e w' => (∃ ba, e = .returned (.tuple #[.pointer (some ⟨ba, 0, none⟩), .nilIface]) ∧ AuM w' ba (nxF l ed) (acF l) (nz (0 :: List.range (min l.length ed + 1)))) ∧ Kept (fun _ => False) w w' := by
  have CC := hideG (clone_any (bq l) w (by rw [bq_size]; omega))
  have CN : Hid (∀ W, Calls Tryd.prog 27 #[.iface 68 (.agg #[.string (bq l), .int .i64 (ed : Nat)])] W fun e w' => (∃ ba, e = .returned (.pointer (some ⟨ba, 0, none⟩)) ∧ AuM w' ba (nxF l ed) (acF l) (nz (0 :: List.range (min l.length ed + 1)))) ∧ Kept (fun _ => False) W w') := hideG (fun W => (newAutoK_fuzzy l ed W hl (by omega)).mono (fun e w' ⟨⟨ba, sa, sc, h1, h2⟩, h3⟩ => ⟨⟨ba, h1, aum_of (knd_fuzzy w' l ed hl (by omega)) h2 (ivF_start l ed)⟩, h3⟩))
  have d0 : ¬ ((ed : Int) < 0) := by omega
  have d1 : ¬ (2 < (ed : Int)) := by omega
  generalize nz (0 :: List.range (min l.length ed + 1)) = S0 at *
  generalize bq l = s at *
  go_enter Tryd.func15, Tryd.ntmps15
  go_wp2_with (first
    | (go_at_call 28; refine CC.out.mono ?_; clear CC; rintro e W ⟨rfl, K1⟩)
    | (go_at_call 27; refine (CN.out W).mono ?_; rintro e W2 ⟨⟨b, rfl, hM⟩, K2⟩))
  go_ret2
  exact ⟨⟨b, rfl, hM⟩, K1.trans K2 (fun _ f => f.elim)⟩
/-- What kind of automaton is made. -/
def KSo (k : Int) (l : List UInt8) (n : Int) (nx : List Int → Nat → List Int) (ac : List Int → Bool) (S0 : List Int) : Prop :=
  (k = 2 → nx = nxP l ∧ ac = acX l ∧ S0 = [0]) ∧ (k = 3 → ∃ E, elsR [] l = some E ∧ nx = nxWk E ∧ ac = acW E ∧ S0 = nz (rch E [] 0)) ∧ (k = 4 → nx = nxF l n.toNat ∧ ac = acF l ∧ S0 = nz (0 :: List.range (min l.length n.toNat + 1))) ∧ (k ≠ 2 → k ≠ 3 → k ≠ 4 → k ≠ 5 → nx = nxX l ∧ ac = acX l ∧ S0 = [0])
def mkK (ad : Nat → Addr) (k : Int) (l : List UInt8) (n : Int) (w' : World) (z : Int) (e : Ending) : Prop := ∃ p x, e = .returned (.tuple #[.pointer p, x]) ∧ ((z = 0 ∧ (∃ b nx ac S0, p = some ⟨b, 0, none⟩ ∧ AuM w' b nx ac S0 ∧ KSo k l n nx ac S0) ∧ x = .nilIface) ∨ (z = 14 ∧ p = none ∧ x = erI (ad 13)) ∨ (z = 8 ∧ p = none ∧ x = erI (ad 7)))
theorem gro_cap {w0 W : World} {a : Option Addr} {n c : Nat} {L : List Value} (h : Gro w0 W 3 1 (.slice a n c) n L) : n ≤ c := by
  rcases h.own.2 with ⟨e1, e2⟩ | ⟨g', cap, cur, e1, _, _, hn, _⟩
  · simp only [Value.slice.injEq] at e1; omega
  · simp only [Value.slice.injEq] at e1; omega
theorem newAutoWK (E : List Int) (ea : Option Addr) (ec : Nat) (p : ByteArray) (w : World) (hE : NsAt w ea E) (hEl : E.length ≤ 137438953000) :
    Calls Tryd.prog 27 #[.iface 77 (.agg #[.slice ea E.length ec, .string p])] w fun e w' => (∃ ba, e = .returned (.pointer (some ⟨ba, 0, none⟩)) ∧ AuM w' ba (nxWk E) (acW E) (nz (rch E [] 0))) ∧ Kept (fun _ => False) w w' := by
  have CS := hideG (wstart_any E ea ec p w hE (by omega))
  have M0 := methS
  have HE := hideG hE
  have HL := hideG hEl
  clear hE hEl
  go_enter Tryd.func27, Tryd.ntmps27
  go_wp2_with (go_at_call 67; refine CS.out.mono ?_; clear CS; rintro e W ⟨a, c, rfl, G⟩; have HG := hideG G; clear G)
  go_ret
  have ka := Kept.alloc W (.cells #[.iface 77 (.agg #[.slice ea E.length ec, .string p]), .slice a (rch E [] 0).length c] 60)
  refine ⟨⟨W.heap.size, rfl, ?_⟩, HG.out.kept.trans ka (fun _ f => f.elim)⟩
  exact aum_of (knd_wild _ E ea ec p ((HE.out.kept HG.out.kept).kept ka) HL.out) (sa := a) (sc := c) ⟨by simp, by rw [nz_len]; simp, (NsAt.of_gro HG.out).kept ka, by rw [nz_len]; exact gro_cap HG.out⟩ ⟨_, rfl, wst_start E⟩
def wiK (w w' : World) (pa : Addr) : Option (List Int) → Ending → Prop
  | none, e => e = .returned (.tuple #[.pointer none, .iface 97 (.pointer (some pa))]) ∧ Kept (fun _ => False) w w'
  | some E, e => ∃ ba, e = .returned (.tuple #[.pointer (some ⟨ba, 0, none⟩), .nilIface]) ∧ AuM w' ba (nxWk E) (acW E) (nz (rch E [] 0)) ∧ Kept (fun _ => False) w w'
set_option maxRecDepth 20000 in
set_option maxHeartbeats 4000000 in
theorem WildK_any (l : List UInt8) (pa : Addr) (w : World) (hl : l.length ≤ 137438953000) (hP : w.cell? ⟨1, 0, none⟩ = some (.iface 97 (.pointer (some pa)))) :
    Calls Tryd.prog 17 #[.string (bq l)] w fun e w' => wiK w w' pa (elsR [] l) e := by
  have CE := hideG (elementsOf_any l w (by omega))
  have HP := hideG hP
  cases hZ : elsR [] l with
  | none =>
    rw [hZ] at CE
    clear hP hZ
    go_enter Tryd.func17, Tryd.ntmps17
    go_wp2_with (first
      | (go_at_call 31; refine CE.out.mono ?_; clear CE; rintro e W ⟨rfl, K1⟩; have g1 := K1.cell HP.out (fun f => f))
      | go_quiet (fail))
    go_ret2
    exact ⟨rfl, K1.trans (Kept.drewA _ _) (fun _ f => f.elim)⟩
  | some E =>
    rw [hZ] at CE
    have hEl := elsR_len l.length l [] E (Nat.le_refl _) hZ
    have hEl2 : E.length ≤ 137438953000 := by simp at hEl; omega
    have hsz : (bq l).size ≤ 281474976710656 := by rw [bq_size]; omega
    have HEl := hideG hEl2
    clear hP hZ hEl hEl2
    generalize hs : bq l = s at *
    go_enter Tryd.func17, Tryd.ntmps17
    go_wp2_with (first
      | (go_at_call 31; refine CE.out.mono ?_; clear CE; rintro e W ⟨a, c, rfl, G1⟩; have HG := hideG G1; clear G1)
      | (go_at_call 28; refine (clone_any s W hsz).mono ?_; rintro e W2 ⟨rfl, K2⟩; have HK2 := hideG (HG.out.kept.trans K2 (fun _ f => f.elim)); have HNs := hideG ((NsAt.of_gro HG.out).kept K2); clear K2)
      | (go_at_call 27; refine (newAutoWK E a c s W2 HNs.out HEl.out).mono ?_; rintro e W3 ⟨⟨ba, rfl, hA⟩, K3⟩; have HA := hideG hA; clear hA))
    go_ret2
    subst hs
    exact ⟨ba, rfl, HA.out, HK2.out.trans K3 (fun _ f => f.elim)⟩
theorem ExactM (l : List UInt8) (w : World) (hl : l.length ≤ 1099511627776) : Calls Tryd.prog 34 #[.string (bq l)] w fun e w' => (∃ ba, e = .returned (.pointer (some ⟨ba, 0, none⟩)) ∧ AuM w' ba (nxX l) (acX l) [0]) ∧ Kept (fun _ => False) w w' :=
  (ExactK_any l w hl).mono (fun e w' ⟨⟨ba, S0, sa, sc, h1, h2, h3⟩, h4⟩ => by subst h3; exact ⟨⟨ba, h1, aum_of (knd_exact w' l hl) h2 (.inr ⟨0, rfl, Nat.zero_le _⟩)⟩, h4⟩)
theorem PrefixM (l : List UInt8) (w : World) (hl : l.length ≤ 1099511627776) : Calls Tryd.prog 32 #[.string (bq l)] w fun e w' => (∃ ba, e = .returned (.pointer (some ⟨ba, 0, none⟩)) ∧ AuM w' ba (nxP l) (acX l) [0]) ∧ Kept (fun _ => False) w w' :=
  (PrefixK_any l w hl).mono (fun e w' ⟨⟨ba, S0, sa, sc, h1, h2, h3⟩, h4⟩ => by subst h3; exact ⟨⟨ba, h1, aum_of (knd_prefix w' l hl) h2 (.inr ⟨0, rfl, Nat.zero_le _⟩)⟩, h4⟩)
set_option maxRecDepth 20000 in
set_option maxHeartbeats 4000000 in
theorem make1K_any (k : Int) (l : List UInt8) (n : Int) (a1 a2 : Bool) (t1 : ByteArray) (b1 b2 : Bool) (t2 : ByteArray) (ad : Nat → Addr) (w : World) (hE : Errs14 w ad) (hl : l.length ≤ 137438953000) (h1 : t1.size ≤ 1099511627776) (h2 : t2.size ≤ 1099511627776) : Calls Tryd.prog 18 #[.agg #[.int .i64 k, .string (bq l), .int .i64 n, .bool a1, .bool a2, .string t1, .bool b1, .bool b2, .string t2]] w fun e w' => mkK ad k l n w' (bad k l n) e ∧ Kept (fun _ => False) w w' := by
  have KB := Kept.alloc w (.cells #[.int .i64 k, .string (bq l), .int .i64 n, .bool a1, .bool a2, .string t1, .bool b1, .bool b2, .string t2] 25)
  have HKB := hideG KB
  have HE := hideG (hE.kept KB)
  have hsz : (bq l).size ≤ 281474976710656 := by rw [bq_size]; omega
  have CW := hideG (WildK_any l (ad 13) _ hl (hE.kept KB).s13.var)
  have CP := hideG (PrefixM l (w.alloc (.cells #[.int .i64 k, .string (bq l), .int .i64 n, .bool a1, .bool a2, .string t1, .bool b1, .bool b2, .string t2] 25)) (by omega))
  have CX := hideG (ExactM l (w.alloc (.cells #[.int .i64 k, .string (bq l), .int .i64 n, .bool a1, .bool a2, .string t1, .bool b1, .bool b2, .string t2] 25)) (by omega))
  have CS := hideG (SpanK_any a1 a2 b1 b2 t1 t2 (w.alloc (.cells #[.int .i64 k, .string (bq l), .int .i64 n, .bool a1, .bool a2, .string t1, .bool b1, .bool b2, .string t2] 25)) h1 h2)
  have CFg : Hid (∀ ed : Nat, ed ≤ 2 → Calls Tryd.prog 15 #[.string (bq l), .int .i64 (ed : Nat)] (w.alloc (.cells #[.int .i64 k, .string (bq l), .int .i64 n, .bool a1, .bool a2, .string t1, .bool b1, .bool b2, .string t2] 25)) fun e w' => (∃ ba, e = .returned (.tuple #[.pointer (some ⟨ba, 0, none⟩), .nilIface]) ∧ AuM w' ba (nxF l ed) (acF l) (nz (0 :: List.range (min l.length ed + 1)))) ∧ Kept (fun _ => False) (w.alloc (.cells #[.int .i64 k, .string (bq l), .int .i64 n, .bool a1, .bool a2, .string t1, .bool b1, .bool b2, .string t2] 25)) w') := hideG (fun ed h => FuzzyK_any l ed _ (by omega) h)
  have CFb : Hid ((n < 0 ∨ 2 < n) → Calls Tryd.prog 15 #[.string (bq l), .int .i64 n] (w.alloc (.cells #[.int .i64 k, .string (bq l), .int .i64 n, .bool a1, .bool a2, .string t1, .bool b1, .bool b2, .string t2] 25)) fun e w' => e = .returned (.tuple #[.pointer none, .iface 97 (.pointer (some (ad 7)))]) ∧ Kept (fun _ => False) (w.alloc (.cells #[.int .i64 k, .string (bq l), .int .i64 n, .bool a1, .bool a2, .string t1, .bool b1, .bool b2, .string t2] 25)) w') := hideG (fun x => Fuzzy_bad (bq l) n (ad 7) _ x (hE.kept KB).s7.var)
  clear KB hE
  generalize hs : bq l = s at *
  by_cases k2 : k = 2
  · subst k2
    rw [bad_o (by decide) (by decide)]
    clear CW CX CS CFg CFb
    go_enter Tryd.func18, Tryd.ntmps18
    go_wp2_with (go_at_call 32; refine CP.out.mono ?_; clear CP; rintro e W ⟨⟨b, rfl, hM⟩, K1⟩)
    go_ret2
    exact ⟨⟨_, _, rfl, .inl ⟨rfl, ⟨b, _, _, _, rfl, hM, ⟨fun _ => ⟨rfl, rfl, rfl⟩, fun h => by omega, fun h => by omega, fun h => by omega⟩⟩, rfl⟩⟩, HKB.out.trans K1 (fun _ f => f.elim)⟩
  · have q2 : (k == 2) = false := by simpa using k2
    by_cases k3 : k = 3
    · subst k3
      cases hZ : elsR [] l with
      | none =>
        rw [hZ] at CW
        have eb : bad 3 l n = 14 := by unfold bad gd; rw [hZ, if_pos ⟨rfl, rfl⟩]
        rw [eb]
        clear CP CX CS CFg CFb eb hZ
        go_enter Tryd.func18, Tryd.ntmps18
        go_wp2_with (go_at_call 17; refine CW.out.mono ?_; clear CW; rintro e W ⟨rfl, K1⟩)
        go_ret2
        exact ⟨⟨_, _, rfl, .inr (.inl ⟨rfl, rfl, rfl⟩)⟩, HKB.out.trans K1 (fun _ f => f.elim)⟩
      | some E =>
        rw [hZ] at CW
        have eb : bad 3 l n = 0 := by unfold bad gd; rw [hZ, if_neg (by simp), if_neg (by omega)]
        rw [eb]
        have HZE := hideG hZ
        clear CP CX CS CFg CFb eb hZ
        go_enter Tryd.func18, Tryd.ntmps18
        go_wp2_with (go_at_call 17; refine CW.out.mono ?_; clear CW; rintro e W ⟨ba, rfl, hA, K1⟩)
        go_ret2
        exact ⟨⟨_, _, rfl, .inl ⟨rfl, ⟨ba, _, _, _, rfl, hA, ⟨fun h => by omega, fun _ => ⟨E, HZE.out, rfl, rfl, rfl⟩, fun h => by omega, fun _ h => absurd rfl h⟩⟩, rfl⟩⟩, HKB.out.trans K1 (fun _ f => f.elim)⟩
    · have q3 : (k == 3) = false := by simpa using k3
      by_cases k4 : k = 4
      · subst k4
        by_cases hn : n < 0 ∨ 2 < n
        · have eb : bad 4 l n = 8 := by unfold bad; rw [if_neg (by omega), if_pos ⟨rfl, hn⟩]
          rw [eb]
          have CF := hideG (CFb.out hn)
          clear CP CX CS CFg CFb eb CW
          go_enter Tryd.func18, Tryd.ntmps18
          go_wp2_with (go_at_call 15; refine CF.out.mono ?_; clear CF; rintro e W ⟨rfl, K1⟩)
          go_ret2
          exact ⟨⟨_, _, rfl, .inr (.inr ⟨rfl, rfl, rfl⟩)⟩, HKB.out.trans K1 (fun _ f => f.elim)⟩
        · have eb : bad 4 l n = 0 := by unfold bad; rw [if_neg (by omega), if_neg (fun h => hn h.2)]
          rw [eb]
          obtain ⟨ed, rfl⟩ : ∃ ed : Nat, n = (ed : Int) := ⟨n.toNat, by omega⟩
          have CF := hideG (CFg.out ed (by omega))
          clear CP CX CS CFg CFb eb CW
          go_enter Tryd.func18, Tryd.ntmps18
          go_wp2_with (go_at_call 15; refine CF.out.mono ?_; clear CF; rintro e W ⟨⟨b, rfl, hM⟩, K1⟩)
          go_ret2
          exact ⟨⟨_, _, rfl, .inl ⟨rfl, ⟨b, _, _, _, rfl, hM, ⟨fun h => by omega, fun h => by omega, fun _ => ⟨by rw [Int.toNat_natCast], rfl, by rw [Int.toNat_natCast]⟩, fun _ _ h => absurd rfl h⟩⟩, rfl⟩⟩, HKB.out.trans K1 (fun _ f => f.elim)⟩
      · have q4 : (k == 4) = false := by simpa using k4
        rw [bad_o k3 k4]
        by_cases k5 : k = 5
        · subst k5
          clear CP CX CW CFg CFb
          go_enter Tryd.func18, Tryd.ntmps18
          go_wp2_with (go_at_call 33; refine CS.out.mono ?_; clear CS; rintro e W ⟨⟨b, nx, ac, S0, rfl, hM⟩, K1⟩)
          go_ret2
          exact ⟨⟨_, _, rfl, .inl ⟨rfl, ⟨b, _, _, _, rfl, hM, ⟨fun h => by omega, fun h => by omega, fun h => by omega, fun _ _ _ h => absurd rfl h⟩⟩, rfl⟩⟩, HKB.out.trans K1 (fun _ f => f.elim)⟩
        · have q5 : (k == 5) = false := by simpa using k5
          clear CP CS CW CFg CFb
          go_enter Tryd.func18, Tryd.ntmps18
          go_wp2_with (go_at_call 34; refine CX.out.mono ?_; clear CX; rintro e W ⟨⟨b, rfl, hM⟩, K1⟩)
          go_ret2
          exact ⟨⟨_, _, rfl, .inl ⟨rfl, ⟨b, _, _, _, rfl, hM, ⟨fun h => absurd h k2, fun h => absurd h k3, fun h => absurd h k4, fun _ _ _ _ => ⟨rfl, rfl, rfl⟩⟩⟩, rfl⟩⟩, HKB.out.trans K1 (fun _ f => f.elim)⟩
def mdK (k : Int) (l : List UInt8) (n z : Int) (w' : World) (e : Ending) : Prop := (z = 0 ∧ ∃ b nx ac S0, e = .returned (.tuple #[.pointer (some ⟨b, 0, none⟩), .bool true]) ∧ AuM w' b nx ac S0 ∧ KSo k l n nx ac S0) ∨ (z ≠ 0 ∧ e = .returned (.tuple #[.pointer none, .bool true]))
set_option maxRecDepth 20000 in
set_option maxHeartbeats 4000000 in
theorem madeK_any (k : Int) (l : List UInt8) (n : Int) (a1 a2 : Bool) (t1 : ByteArray) (b1 b2 : Bool) (t2 : ByteArray) (ad : Nat → Addr) (w : World) (hE : Errs14 w ad) (hl : l.length ≤ 137438953000) (h1 : t1.size ≤ 1099511627776) (h2 : t2.size ≤ 1099511627776) : Calls Tryd.prog 8 #[.agg #[.int .i64 k, .string (bq l), .int .i64 n, .bool a1, .bool a2, .string t1, .bool b1, .bool b2, .string t2]] w fun e w' => mdK k l n (bad k l n) w' e ∧ Kept (fun _ => False) w w' := by
  have KB := Kept.alloc w (.cells #[.int .i64 k, .string (bq l), .int .i64 n, .bool a1, .bool a2, .string t1, .bool b1, .bool b2, .string t2] 25)
  have hbx := heap_alloc_new w (.cells #[.int .i64 k, .string (bq l), .int .i64 n, .bool a1, .bool a2, .string t1, .bool b1, .bool b2, .string t2] 25)
  have HKB := hideG KB
  have HE := hideG (hE.kept KB)
  have HX := hideG hbx
  have C1 := hideG (make1K_any k l n a1 a2 t1 b1 b2 t2 ad _ (hE.kept KB) hl h1 h2)
  have C2 := fun W => hideG (told_any k (bq l) n a1 a2 t1 b1 b2 t2 W)
  have C3 := fun W => hideG (Make_told k l n a1 a2 t1 b1 b2 t2 W (by omega))
  generalize tld k (bq l) n a1 a2 t1 b1 b2 t2 = tv at *
  generalize bad k l n = z at *
  unfold mkK at C1
  clear KB hbx hE
  generalize bq l = s at *
  have CELLS : Hid (∀ W : World, W.heap[w.heap.size]? = some (.cells #[.int .i64 k, .string s, .int .i64 n, .bool a1, .bool a2, .string t1, .bool b1, .bool b2, .string t2] 25 (0, 0)) → W.cell? ⟨w.heap.size, 0, none⟩ = some (.int .i64 k) ∧ W.cell? ⟨w.heap.size, 1, none⟩ = some (.string s) ∧ W.cell? ⟨w.heap.size, 2, none⟩ = some (.int .i64 n) ∧ W.cell? ⟨w.heap.size, 3, none⟩ = some (.bool a1) ∧ W.cell? ⟨w.heap.size, 4, none⟩ = some (.bool a2) ∧ W.cell? ⟨w.heap.size, 5, none⟩ = some (.string t1) ∧ W.cell? ⟨w.heap.size, 6, none⟩ = some (.bool b1) ∧ W.cell? ⟨w.heap.size, 7, none⟩ = some (.bool b2) ∧ W.cell? ⟨w.heap.size, 8, none⟩ = some (.string t2)) := hideG (fun W h => by refine ⟨?_, ?_, ?_, ?_, ?_, ?_, ?_, ?_, ?_⟩ <;> simp [World.cell?, h])
  go_enter Tryd.func8, Tryd.ntmps8
  go_wp2_with (go_at_call 18; refine Stp2.go ?_)
  refine ⟨?_⟩
  refine C1.out.mono ?_
  rintro e W ⟨⟨p, x, rfl, hz⟩, K1⟩
  obtain ⟨x0, x1, x2, x3, x4, x5, x6, x7, x8⟩ := CELLS.out W (K1.heap HX.out (fun f => f))
  have HK1 := hideG (HKB.out.trans K1 (fun _ f => f.elim))
  have HE1 := hideG (HE.out.kept K1)
  clear C1 CELLS HX HE HKB K1
  rcases hz with ⟨rfl, ⟨b, nx, ac, S0, rfl, hM, hKS⟩, rfl⟩ | ⟨rfl, rfl, rfl⟩ | ⟨rfl, rfl, rfl⟩
  · have HM := hideG hM
    have HKS := hideG hKS
    clear hM hKS
    go_wp2_with (first
      | (go_at_call 9; refine (C2 _).out.mono ?_; clear C2; rintro e W2 ⟨rfl, K2⟩; have HM2 := hideG (HM.out.kept K2); have HK2 := hideG (HK1.out.trans K2 (fun _ f => f.elim)); clear K2)
      | (go_at_call 19; refine (C3 _).out.mono ?_; clear C3; rintro e W3 ⟨rfl, K3⟩; have HM3 := hideG (HM2.out.kept K3); have HK3 := hideG (HK2.out.trans K3 (fun _ f => f.elim)); clear K3)
      | (go_at_call 20; refine (num_nil W3).mono ?_; rintro e W4 ⟨rfl, e4⟩; subst e4))
    go_ret2
    exact ⟨.inl ⟨rfl, b, nx, ac, S0, rfl, HM3.out, HKS.out⟩, HK3.out⟩
  · unfold erI
    go_wp2_with (first
      | (go_at_call 9; refine (C2 _).out.mono ?_; clear C2; rintro e W2 ⟨rfl, K2⟩; have HK2 := hideG (HK1.out.trans K2 (fun _ f => f.elim)); have HE2 := hideG (HE1.out.kept K2); clear K2)
      | (go_at_call 19; refine (C3 _).out.mono ?_; clear C3; rintro e W3 ⟨rfl, K3⟩; have HK3 := hideG (HK2.out.trans K3 (fun _ f => f.elim)); have CN := hideG (num_pattern (HE2.out.kept K3)); clear K3)
      | (go_at_call 20; refine CN.out.mono ?_; clear CN; rintro e W4 ⟨rfl, e4⟩; subst e4))
    go_ret2
    exact ⟨.inr ⟨by decide, rfl⟩, HK3.out⟩
  · unfold erI
    go_wp2_with (first
      | (go_at_call 9; refine (C2 _).out.mono ?_; clear C2; rintro e W2 ⟨rfl, K2⟩; have HK2 := hideG (HK1.out.trans K2 (fun _ f => f.elim)); have HE2 := hideG (HE1.out.kept K2); clear K2)
      | (go_at_call 19; refine (C3 _).out.mono ?_; clear C3; rintro e W3 ⟨rfl, K3⟩; have HK3 := hideG (HK2.out.trans K3 (fun _ f => f.elim)); have CN := hideG (num_range (HE2.out.kept K3)); clear K3)
      | (go_at_call 20; refine CN.out.mono ?_; clear CN; rintro e W4 ⟨rfl, e4⟩; subst e4))
    go_ret2
    exact ⟨.inr ⟨by decide, rfl⟩, HK3.out⟩
end Go.Proofs.YtacmmclamkhpcaaDoor
