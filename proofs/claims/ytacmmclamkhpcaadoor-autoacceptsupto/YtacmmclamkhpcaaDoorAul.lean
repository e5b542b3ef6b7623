import Derived.Test.YtacmmclamkhpcaaDoorAuk
namespace Go.Proofs.YtacmmclamkhpcaaDoor
open Go.ChangeShapes Go.WideShapes Go.ChangeAt Go.RowKit

set_option maxRecDepth 20000 in
set_option maxHeartbeats 4000000 in
theorem Span_any (o i O I : Bool) (t T : ByteArray) (w : World) (ht : t.size ≤ 1099511627776) (hT : T.size ≤ 1099511627776) : Calls Tryd.prog 33 #[.agg #[.bool o, .bool i, .string t], .agg #[.bool O, .bool I, .string T]] w fun e w' => PtP w w' e := by
  have K1 := Kept.alloc w (.cells #[.bool o, .bool i, .string t] 23)
  have K2 := Kept.alloc (w.alloc (.cells #[.bool o, .bool i, .string t] 23)) (.cells #[.bool O, .bool I, .string T] 23)
  have h1 := K2.heap (heap_alloc_new w (.cells #[.bool o, .bool i, .string t] 23)) (fun f => f)
  have h2 := heap_alloc_new (w.alloc (.cells #[.bool o, .bool i, .string t] 23)) (.cells #[.bool O, .bool I, .string T] 23)
  rw [World.size_alloc] at h2
  have HK := hideG (K1.trans K2 (fun _ f => f.elim))
  have CO := fun W => hideG (ownBound_any o i t W (by omega))
  have CP := fun W => hideG (ownBound_any O I T W (by omega))
  have HC : Hid (∀ W', Kept (fun _ => False) ((w.alloc (.cells #[.bool o, .bool i, .string t] 23)).alloc (.cells #[.bool O, .bool I, .string T] 23)) W' → W'.cell? ⟨w.heap.size, 0, none⟩ = some (.bool o) ∧ W'.cell? ⟨w.heap.size, 1, none⟩ = some (.bool i) ∧ W'.cell? ⟨w.heap.size, 2, none⟩ = some (.string t) ∧ W'.cell? ⟨w.heap.size + 1, 0, none⟩ = some (.bool O) ∧ W'.cell? ⟨w.heap.size + 1, 1, none⟩ = some (.bool I) ∧ W'.cell? ⟨w.heap.size + 1, 2, none⟩ = some (.string T)) := hideG (fun W' k => by
    have g1 := k.heap h1 (fun f => f)
    have g2 := k.heap h2 (fun f => f)
    refine ⟨by simp [World.cell?, g1], by simp [World.cell?, g1], by simp [World.cell?, g1], by simp [World.cell?, g2], by simp [World.cell?, g2], by simp [World.cell?, g2]⟩)
  clear h1 h2 K1 K2
  go_enter Tryd.func33, Tryd.ntmps33
  go_wp2
  generalize World.alloc (World.alloc w (.cells #[.bool o, .bool i, .string t] 23)) (.cells #[.bool O, .bool I, .string T] 23) = V at *
  have hS6 : Kept (fun _ => False) V V.drew := Kept.drewA V 1
  refine wp_region_held (S := fun W' => Kept (fun _ => False) V W') (by kernel_rfl) ?_
  change wpAnyH _ _ _ _ _ _ _ _ (World.drew _)
  refine takeHA (i := 0) (d := 5) (v := .agg #[.bool o, .bool i, .string t]) rfl rfl (by kernel_rfl) (by kernel_rfl) (by kernel_rfl) (fun _ _ _ h => h) (Or.inl ⟨by rfl, fun W hW => ?_⟩) hS6 ?_
  · (obtain ⟨q0, q1, q2, q3, q4, q5⟩ := HC.out _ hW; go_simp)
  simp only [Act.put, List.setIfInBounds_toArray, List.set_cons_zero, List.set_cons_succ]
  refine takeHA (i := 2) (d := 7) (v := .agg #[.bool O, .bool I, .string T]) rfl rfl (by kernel_rfl) (by kernel_rfl) (by kernel_rfl) (fun _ _ _ h => h) (Or.inl ⟨by rfl, fun W hW => ?_⟩) hS6 ?_
  · (obtain ⟨q0, q1, q2, q3, q4, q5⟩ := HC.out _ hW; go_simp)
  simp only [Act.put, List.setIfInBounds_toArray, List.set_cons_zero, List.set_cons_succ]
  refine wpAnyH_all (rs := [1]) (by kernel_rfl) (by simp) ?_
  intro i hi
  obtain rfl : i = 1 := by simpa using hi
  unfold wpOp
  go_simp
  first | refine (CO _).out.mono ?_ | refine Or.inl ((CO _).out.mono ?_)
  rintro e W2 ⟨⟨i', t', rfl, ht'⟩, k2⟩
  have hk2 := hS6.trans k2 (fun _ f => f.elim)
  refine ⟨hk2, ?_⟩
  refine wpAnyH_all (rs := [3]) (by kernel_rfl) (by simp) ?_
  intro i hi
  obtain rfl : i = 3 := by simpa using hi
  unfold wpOp
  go_simp
  first | refine (CP _).out.mono ?_ | refine Or.inl ((CP _).out.mono ?_)
  rintro e W3 ⟨⟨I', T', rfl, hT'⟩, k3⟩
  have hk3 := hk2.trans k3 (fun _ f => f.elim)
  refine ⟨hk3, ?_⟩
  refine takeHA (i := 4) (d := 9) (v := .agg #[.bool o, .bool i', .string t', .bool O, .bool I', .string T']) rfl rfl (by kernel_rfl) (by kernel_rfl) (by kernel_rfl) (fun _ _ _ h => h) (Or.inl ⟨by rfl, fun W hW => ?_⟩) hk3 ?_
  · go_simp
  simp only [Act.put, List.setIfInBounds_toArray, List.set_cons_zero, List.set_cons_succ]
  refine takeHA (i := 5) (d := 10) (v := .iface 92 (.agg #[.bool o, .bool i', .string t', .bool O, .bool I', .string T'])) rfl rfl (by kernel_rfl) (by kernel_rfl) (by kernel_rfl) (fun _ _ _ h => h) (Or.inl ⟨by rfl, fun W hW => ?_⟩) hk3 ?_
  · go_simp
  simp only [Act.put, List.setIfInBounds_toArray, List.set_cons_zero, List.set_cons_succ]
  refine wpAnyH_all (rs := [6]) (by kernel_rfl) (by simp) ?_
  intro i hi
  obtain rfl : i = 6 := by simpa using hi
  unfold wpOp
  go_simp
  first | refine (newAuto_span o i' O I' t' T' W3 (by omega)).mono ?_ | refine Or.inl ((newAuto_span o i' O I' t' T' W3 (by omega)).mono ?_)
  rintro e W4 ⟨⟨b, rfl⟩, k4⟩
  have hk4 := hk3.trans k4 (fun _ f => f.elim)
  refine ⟨hk4, ?_⟩
  refine takeHA (i := 7) (d := 4) (v := .pointer (some ⟨b, 0, none⟩)) rfl rfl (by kernel_rfl) (by kernel_rfl) (by kernel_rfl) (fun _ _ _ h => h) (Or.inl ⟨by rfl, fun W hW => ?_⟩) hk4 ?_
  · go_simp
  simp only [Act.put, List.setIfInBounds_toArray, List.set_cons_zero, List.set_cons_succ]
  refine wpAnyH_done (by kernel_rfl) ?_ _
  go_wp2
  go_ret
  exact ⟨⟨_, rfl⟩, HK.out.trans hk4 (fun _ f => f.elim)⟩

def Zs : ByteArray := ⟨#[]⟩
/-- What the document's automaton is made of. -/
def tld (k : Int) (s : ByteArray) (n : Int) (a1 a2 : Bool) (t1 : ByteArray) (b1 b2 : Bool) (t2 : ByteArray) : Value :=
  if k < 2 ∨ 5 < k then .agg #[.int .i64 1, .string s, .int .i64 0, .bool false, .bool false, .string ⟨#[]⟩, .bool false, .bool false, .string ⟨#[]⟩]
  else .agg #[.int .i64 k, .string s, .int .i64 n, .bool a1, .bool a2, .string t1, .bool b1, .bool b2, .string t2]
set_option maxRecDepth 20000 in
theorem told_any (k : Int) (s : ByteArray) (n : Int) (a1 a2 : Bool) (t1 : ByteArray) (b1 b2 : Bool) (t2 : ByteArray) (w : World) : Calls Tryd.prog 9 #[.agg #[.int .i64 k, .string s, .int .i64 n, .bool a1, .bool a2, .string t1, .bool b1, .bool b2, .string t2]] w fun e w' => e = .returned (tld k s n a1 a2 t1 b1 b2 t2) ∧ Kept (fun _ => False) w w' := by
  by_cases h1 : k < 2
  · have e : tld k s n a1 a2 t1 b1 b2 t2 = .agg #[.int .i64 1, .string s, .int .i64 0, .bool false, .bool false, .string ⟨#[]⟩, .bool false, .bool false, .string ⟨#[]⟩] := by unfold tld; rw [if_pos (.inl h1)]
    rw [e]
    clear e
    go_enter Tryd.func9, Tryd.ntmps9
    go_wp2
    refine bodyPost_ret (v := .agg #[.int .i64 1, .string s, .int .i64 0, .bool false, .bool false, .string ⟨#[]⟩, .bool false, .bool false, .string ⟨#[]⟩]) (by simp [results, Tryd.results9, go_sem]) rfl ⟨rfl, (Kept.alloc _ _).trans (Kept.alloc _ _) (fun _ f => f.elim)⟩
  · by_cases h2 : 5 < k
    · have e : tld k s n a1 a2 t1 b1 b2 t2 = .agg #[.int .i64 1, .string s, .int .i64 0, .bool false, .bool false, .string ⟨#[]⟩, .bool false, .bool false, .string ⟨#[]⟩] := by unfold tld; rw [if_pos (.inr h2)]
      rw [e]
      clear e
      go_enter Tryd.func9, Tryd.ntmps9
      go_wp2
      refine bodyPost_ret (v := .agg #[.int .i64 1, .string s, .int .i64 0, .bool false, .bool false, .string ⟨#[]⟩, .bool false, .bool false, .string ⟨#[]⟩]) (by simp [results, Tryd.results9, go_sem]) rfl ⟨rfl, (Kept.alloc _ _).trans (Kept.alloc _ _) (fun _ f => f.elim)⟩
    · have e : tld k s n a1 a2 t1 b1 b2 t2 = .agg #[.int .i64 k, .string s, .int .i64 n, .bool a1, .bool a2, .string t1, .bool b1, .bool b2, .string t2] := by unfold tld; rw [if_neg (by rintro (h | h) <;> omega)]
      rw [e]
      clear e
      go_enter Tryd.func9, Tryd.ntmps9
      go_wp2
      refine bodyPost_ret (v := .agg #[.int .i64 k, .string s, .int .i64 n, .bool a1, .bool a2, .string t1, .bool b1, .bool b2, .string t2]) (by simp [results, Tryd.results9, go_sem]) rfl ⟨rfl, (Kept.alloc _ _).trans (Kept.alloc _ _) (fun _ f => f.elim)⟩
/-- The error's number. -/
def bad (k : Int) (l : List UInt8) (n : Int) : Int := if k = 3 ∧ gd l = false then 14 else if k = 4 ∧ (n < 0 ∨ 2 < n) then 8 else 0
set_option maxRecDepth 20000 in
set_option maxHeartbeats 4000000 in
theorem Make_any (k : Int) (l : List UInt8) (n : Int) (a1 a2 : Bool) (t1 : ByteArray) (b1 b2 : Bool) (t2 : ByteArray) (w : World) (hl : l.length ≤ 1099511627776) : Calls Tryd.prog 19 #[.agg #[.int .i64 k, .string (bq l), .int .i64 n, .bool a1, .bool a2, .string t1, .bool b1, .bool b2, .string t2]] w fun e w' => e = .returned (.int .i64 (bad k l n)) ∧ Kept (fun _ => False) w w' := by
  have CG := fun W => hideG (rgood_any l W hl)
  have KB := hideG (Kept.alloc w (.cells #[.int .i64 k, .string (bq l), .int .i64 n, .bool a1, .bool a2, .string t1, .bool b1, .bool b2, .string t2] 31))
  have hbx := heap_alloc_new w (.cells #[.int .i64 k, .string (bq l), .int .i64 n, .bool a1, .bool a2, .string t1, .bool b1, .bool b2, .string t2] 31)
  have HX := hideG hbx
  clear hbx
  generalize hs : bq l = s at *
  by_cases h3 : k = 3
  · subst h3
    cases hg : gd l with
    | false =>
      have e : bad 3 l n = 14 := by unfold bad; rw [if_pos ⟨rfl, hg⟩]
      rw [e]
      rw [hg] at CG
      clear e hg
      go_enter Tryd.func19, Tryd.ntmps19
      go_wp2_with (go_at_call 35; refine (CG _).out.mono ?_; rintro e W ⟨rfl, K1⟩)
      go_ret
      exact ⟨rfl, KB.out.trans K1 (fun _ f => f.elim)⟩
    | true =>
      have e : bad 3 l n = 0 := by unfold bad; rw [if_neg (by rw [hg]; simp), if_neg (by omega)]
      rw [e]
      rw [hg] at CG
      clear e hg
      go_enter Tryd.func19, Tryd.ntmps19
      go_wp2_with (go_at_call 35; refine (CG _).out.mono ?_; rintro e W ⟨rfl, K1⟩; have g1 := K1.heap HX.out (fun f => f); have x0 : W.cell? ⟨w.heap.size, 0, none⟩ = some (.int .i64 3) := (by simp [World.cell?, g1]); have HK1 := hideG K1; clear g1 K1)
      go_ret
      exact ⟨rfl, KB.out.trans HK1.out (fun _ f => f.elim)⟩
  · have q3 : (k == 3) = false := by simpa using h3
    by_cases h4 : k = 4
    · subst h4
      by_cases hn0 : n < 0
      · have e : bad 4 l n = 8 := by unfold bad; rw [if_neg (by omega), if_pos ⟨rfl, .inl hn0⟩]
        rw [e]
        clear e CG
        go_enter Tryd.func19, Tryd.ntmps19
        go_wp2
        go_ret
        exact ⟨rfl, KB.out⟩
      · by_cases hn2 : 2 < n
        · have e : bad 4 l n = 8 := by unfold bad; rw [if_neg (by omega), if_pos ⟨rfl, .inr hn2⟩]
          rw [e]
          clear e CG
          go_enter Tryd.func19, Tryd.ntmps19
          go_wp2
          go_ret
          exact ⟨rfl, KB.out⟩
        · have e : bad 4 l n = 0 := by unfold bad; rw [if_neg (by omega), if_neg (by omega)]
          rw [e]
          clear e CG
          go_enter Tryd.func19, Tryd.ntmps19
          go_wp2
          go_ret
          exact ⟨rfl, KB.out⟩
    · have q4 : (k == 4) = false := by simpa using h4
      have e : bad k l n = 0 := by unfold bad; rw [if_neg (fun h => h3 h.1), if_neg (fun h => h4 h.1)]
      rw [e]
      clear e CG
      go_enter Tryd.func19, Tryd.ntmps19
      go_wp2
      go_ret
      exact ⟨rfl, KB.out⟩
end Go.Proofs.YtacmmclamkhpcaaDoor
