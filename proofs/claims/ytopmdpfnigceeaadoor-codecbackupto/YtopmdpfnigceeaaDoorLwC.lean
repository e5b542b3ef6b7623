import Derived.Test.YtopmdpfnigceeaaDoorLwB
namespace Go.Proofs.YtopmdpfnigceeaaDoor
open Go.ChangeShapes Go.WideShapes Go.ChangeAt Go.RowKit

theorem may9_form {l : List Int} (h : mayB 9 l = true) : bitLen (orl l) ≠ 0 ∨ l.length ≤ 65536 := by
  by_cases hb : l.length ≤ 65536
  · exact .inr hb
  · refine .inl fun e => may9_zero h ⟨?_, by omega⟩
    have : orl l < 2 ^ 0 := (bitLen_le_iff _ _).1 (by omega)
    omega
set_option maxRecDepth 20000 in
set_option maxHeartbeats 1000000 in
theorem write_8 (bw : Nat) (v : Value) (xs : List Int) (sec : Bool) (nn uu ii : Int) (bv : Value) (s : ByteArray) (l : List Int) (a : Option Addr) (c : Nat) (e3 e7 : Addr) (w : World) (h : Wr w bw v xs) (hF : IntsFar w a l bw v) (hI : IsInts l) (hl : l.length ≤ 17592186044416) (hr : xs.length + 10 * (l.length + 1) ≤ 140737488355328)
    (g3 : w.cell? ⟨4, 0, none⟩ = some (errV e3)) (g7 : w.cell? ⟨3, 0, none⟩ = some (errV e7)) :
    Calls Tryd.prog 9 #[.pointer (some ⟨bw, 0, none⟩), .agg #[.int .i64 8, .bool sec, .int .i64 nn, .int .u64 uu, .int .i64 ii, bv, .string s, .slice a l.length c]] w fun e w' => WPut bw v xs w (mayB 8 l) (if mayB 8 l = true then rising l else []) e w' := by
  obtain ⟨o, ho⟩ : ∃ o, o = opB 8 sec nn uu ii bv s (.slice a l.length c) := ⟨_, rfl⟩
  have hF1 : IntsFar (w.alloc o) a l bw v := hF.keptF (Kept.alloc w o) (fun _ _ f => f)
  have hk1 := Kept.alloc w o
  have c1 : Calls Tryd.prog 27 #[.pointer (some ⟨bw, 0, none⟩), .slice a l.length c] (w.alloc o) fun e w' => ∃ (ev v' : Value), e = .returned ev ∧ (mayB 8 l = true ∧ ev = .nilIface ∨ mayB 8 l = false ∧ ∃ ad, ev = .iface 96 (.pointer (some ad))) ∧ Hid (Wr w' bw v' (xs ++ (if mayB 8 l = true then rising l else [])) ∧ WStep (w.alloc o) w' bw v v') := by
    cases hm : mayB 8 l with
    | true =>
      refine (rising_any bw v xs l a c (w.alloc o) (h.alloc _) hF1 (mayB_nonneg hm) hI (mayB_rise hm) hl hr).mono ?_
      rintro e w' ⟨rfl, v', q1, q2⟩
      exact ⟨_, v', rfl, .inl ⟨rfl, rfl⟩, q1, q2⟩
    | false =>
      rcases may8_not hm with hn | ⟨h0, hn⟩
      · refine (rising_neg bw l a c e7 (w.alloc o) hF1.ints hl hn (hk1.cell g7 (fun f => f))).mono ?_
        rintro e w' ⟨rfl, rfl⟩
        exact ⟨_, v, rfl, .inr ⟨rfl, _, rfl⟩, by simpa using h.alloc o, WStep.refl _ _ _⟩
      · refine (rising_ord bw l a c e3 (w.alloc o) hF1.ints hl h0 hn (hk1.cell g3 (fun f => f))).mono ?_
        rintro e w' ⟨rfl, n, rfl⟩
        exact ⟨_, v, rfl, .inr ⟨rfl, _, rfl⟩, by simpa using (h.alloc o).drewN n, WStep.drewN _ _ _ _⟩
  have hbo : w.heap.size ≠ bw := by have := h.lt; omega
  have hvo : ∀ k, v.ownBlock = some k → k < w.heap.size := by
    intro k hk
    rcases h.own.2 with ⟨rfl, _⟩ | ⟨g, cap, cur, rfl, _, hg, _⟩
    · cases hk
    · simp [Value.ownBlock] at hk
      subst hk
      exact lt_of_block hg
  have box : ∀ (w2 : World) (v' : Value), WStep (w.alloc o) w2 bw v v' → w2.heap[w.heap.size]? = some o ∧ IntsAt w2 a l := by
    intro w2 v' hs
    refine ⟨hs.kept.heap (heap_alloc_new w _) ?_, (hF1.step hs).ints⟩
    rintro (e | e)
    · exact hbo e
    · have := hvo _ e; omega
  have cm : ∀ (w2 : World), IntsAt w2 a l → Calls Tryd.prog 28 #[.agg #[.int .i64 8, .bool sec, .int .i64 nn, .int .u64 uu, .int .i64 ii, bv, .string s, .slice a l.length c]] w2 fun e w' => e = .returned (.bool (mayB 8 l)) ∧ Kept (fun _ => False) w2 w' := fun w2 hA => may_any 8 sec nn uu ii bv s l a c w2 hA hl
  obtain ⟨mb, hmb⟩ : ∃ mb, mb = mayB 8 l := ⟨_, rfl⟩
  rw [← hmb] at c1 cm ⊢
  obtain ⟨b, hb⟩ : ∃ b, b = (if mb = true then rising l else []) := ⟨_, rfl⟩
  rw [← hb] at c1 ⊢
  have C1 := hide c1
  have CM := hide cm
  have BOX := hide box
  subst ho
  clear c1 cm box hmb hb hF hF1 hk1 h hI g3 g7 hbo hvo
  go_enter Tryd.func9, Tryd.ntmps9
  go_wp2_with (go_at_call 27; refine C1.out.mono ?_; rintro e w2 ⟨ev, v', rfl, hev, hk2⟩; obtain ⟨z1, z2⟩ := BOX.out w2 v' hk2.out.2; have Z2 := hide z2; clear z2)
  rcases hev with ⟨rfl, rfl⟩ | ⟨rfl, ad, rfl⟩
  · skip
    unfold opB at z1
    have y0 : w2.cell? ⟨w.heap.size, 0, none⟩ = some (.int .i64 8) := by simp [World.cell?, z1]
    have y1 : w2.cell? ⟨w.heap.size, 1, none⟩ = some (.bool sec) := by simp [World.cell?, z1]
    have y2 : w2.cell? ⟨w.heap.size, 2, none⟩ = some (.int .i64 nn) := by simp [World.cell?, z1]
    have y3 : w2.cell? ⟨w.heap.size, 3, none⟩ = some (.int .u64 uu) := by simp [World.cell?, z1]
    have y4 : w2.cell? ⟨w.heap.size, 4, none⟩ = some (.int .i64 ii) := by simp [World.cell?, z1]
    have y5 : w2.cell? ⟨w.heap.size, 5, none⟩ = some bv := by simp [World.cell?, z1]
    have y6 : w2.cell? ⟨w.heap.size, 6, none⟩ = some (.string s) := by simp [World.cell?, z1]
    have y7 : w2.cell? ⟨w.heap.size, 7, none⟩ = some (.slice a l.length c) := by simp [World.cell?, z1]
    clear z1
    have cm2 : Hid (∀ k, Calls Tryd.prog 28 #[.agg #[.int .i64 8, .bool sec, .int .i64 nn, .int .u64 uu, .int .i64 ii, bv, .string s, .slice a l.length c]] (w2.drewN k) fun e w' => e = .returned (.bool true) ∧ Hid (Kept (fun _ => False) w2 w')) := by
      intro k
      refine (CM.out (w2.drewN k) Z2.out).mono ?_
      rintro e w' ⟨rfl, hk⟩
      exact ⟨rfl, (Kept.drewN w2 k).trans hk (fun _ f => f.elim)⟩
    have fin : Hid (∀ w3, Kept (fun _ => False) w2 w3 → ∀ w4, Kept (fun _ => False) w3 w4 → WPut bw v xs w true b (.returned (.tuple #[.bool true, .bool true])) w4) := by
      intro w3 k3 w4 k4
      have k5 := k3.trans k4 (fun _ f => f.elim)
      exact WPut.of (WStep.alloc _ _ _ _) (hk2.out.1.kept k5 (fun _ _ f => f)) (hk2.out.2.trans ⟨k5.mono (fun _ f => f.elim), fun _ h => .inl h⟩)
    clear CM BOX
    go_region_with ((go_at_call 28; refine (cm2.out _).mono ?_; rintro e w3 ⟨rfl, hk3⟩))
    all_goals
      go_wp2
      go_ret2
      first
        | exact fin.out _ hk3.out _ (Kept.refl _ _)
        | exact fin.out _ hk3.out _ (Kept.drewN _ _)
  · skip
    unfold opB at z1
    have y0 : w2.cell? ⟨w.heap.size, 0, none⟩ = some (.int .i64 8) := by simp [World.cell?, z1]
    have y1 : w2.cell? ⟨w.heap.size, 1, none⟩ = some (.bool sec) := by simp [World.cell?, z1]
    have y2 : w2.cell? ⟨w.heap.size, 2, none⟩ = some (.int .i64 nn) := by simp [World.cell?, z1]
    have y3 : w2.cell? ⟨w.heap.size, 3, none⟩ = some (.int .u64 uu) := by simp [World.cell?, z1]
    have y4 : w2.cell? ⟨w.heap.size, 4, none⟩ = some (.int .i64 ii) := by simp [World.cell?, z1]
    have y5 : w2.cell? ⟨w.heap.size, 5, none⟩ = some bv := by simp [World.cell?, z1]
    have y6 : w2.cell? ⟨w.heap.size, 6, none⟩ = some (.string s) := by simp [World.cell?, z1]
    have y7 : w2.cell? ⟨w.heap.size, 7, none⟩ = some (.slice a l.length c) := by simp [World.cell?, z1]
    clear z1
    have cm2 : Hid (∀ k, Calls Tryd.prog 28 #[.agg #[.int .i64 8, .bool sec, .int .i64 nn, .int .u64 uu, .int .i64 ii, bv, .string s, .slice a l.length c]] (w2.drewN k) fun e w' => e = .returned (.bool false) ∧ Hid (Kept (fun _ => False) w2 w')) := by
      intro k
      refine (CM.out (w2.drewN k) Z2.out).mono ?_
      rintro e w' ⟨rfl, hk⟩
      exact ⟨rfl, (Kept.drewN w2 k).trans hk (fun _ f => f.elim)⟩
    have fin : Hid (∀ w3, Kept (fun _ => False) w2 w3 → ∀ w4, Kept (fun _ => False) w3 w4 → WPut bw v xs w false b (.returned (.tuple #[.bool false, .bool true])) w4) := by
      intro w3 k3 w4 k4
      have k5 := k3.trans k4 (fun _ f => f.elim)
      exact WPut.of (WStep.alloc _ _ _ _) (hk2.out.1.kept k5 (fun _ _ f => f)) (hk2.out.2.trans ⟨k5.mono (fun _ f => f.elim), fun _ h => .inl h⟩)
    clear CM BOX
    go_region_with ((go_at_call 28; refine (cm2.out _).mono ?_; rintro e w3 ⟨rfl, hk3⟩))
    all_goals
      go_wp2
      go_ret2
      first
        | exact fin.out _ hk3.out _ (Kept.refl _ _)
        | exact fin.out _ hk3.out _ (Kept.drewN _ _)

set_option maxRecDepth 20000 in
set_option maxHeartbeats 1000000 in
theorem write_9 (bw : Nat) (v : Value) (xs : List Int) (sec : Bool) (nn uu ii : Int) (bv : Value) (s : ByteArray) (l : List Int) (a : Option Addr) (c : Nat) (e2 e7 : Addr) (w : World) (h : Wr w bw v xs) (hF : IntsFar w a l bw v) (hI : IsInts l) (hl : l.length ≤ 17592186044416) (hr : xs.length + 11 + (l.length * 63 + 7) / 8 ≤ 140737488355328)
    (g2 : w.cell? ⟨0, 0, none⟩ = some (errV e2)) (g7 : w.cell? ⟨3, 0, none⟩ = some (errV e7)) :
    Calls Tryd.prog 9 #[.pointer (some ⟨bw, 0, none⟩), .agg #[.int .i64 9, .bool sec, .int .i64 nn, .int .u64 uu, .int .i64 ii, bv, .string s, .slice a l.length c]] w fun e w' => WPut bw v xs w (mayB 9 l) (if mayB 9 l = true then packed l else []) e w' := by
  obtain ⟨o, ho⟩ : ∃ o, o = opB 9 sec nn uu ii bv s (.slice a l.length c) := ⟨_, rfl⟩
  have hF1 : IntsFar (w.alloc o) a l bw v := hF.keptF (Kept.alloc w o) (fun _ _ f => f)
  have hk1 := Kept.alloc w o
  have c1 : Calls Tryd.prog 29 #[.pointer (some ⟨bw, 0, none⟩), .slice a l.length c] (w.alloc o) fun e w' => ∃ (ev v' : Value), e = .returned ev ∧ (mayB 9 l = true ∧ ev = .nilIface ∨ mayB 9 l = false ∧ ∃ ad, ev = .iface 96 (.pointer (some ad))) ∧ Hid (Wr w' bw v' (xs ++ (if mayB 9 l = true then packed l else [])) ∧ WStep (w.alloc o) w' bw v v') := by
    cases hm : mayB 9 l with
    | true =>
      refine (packed_any bw v xs l a c (w.alloc o) (h.alloc _) hF1 (mayB_nonneg hm) hI (may9_form hm) hl hr).mono ?_
      rintro e w' ⟨rfl, v', q1, q2⟩
      exact ⟨_, v', rfl, .inl ⟨rfl, rfl⟩, q1, q2⟩
    | false =>
      rcases may9_not hm with hn | ⟨h0, hn, hb⟩
      · refine (packed_neg bw l a c e7 (w.alloc o) hF1.ints hl hn (hk1.cell g7 (fun f => f))).mono ?_
        rintro e w' ⟨rfl, rfl⟩
        exact ⟨_, v, rfl, .inr ⟨rfl, _, rfl⟩, by simpa using h.alloc o, WStep.refl _ _ _⟩
      · refine (packed_lim bw l a c e2 (w.alloc o) hF1.ints hl h0 hI hn hb (hk1.cell g2 (fun f => f))).mono ?_
        rintro e w' ⟨rfl, rfl⟩
        exact ⟨_, v, rfl, .inr ⟨rfl, _, rfl⟩, by simpa using h.alloc o, WStep.refl _ _ _⟩
  have hbo : w.heap.size ≠ bw := by have := h.lt; omega
  have hvo : ∀ k, v.ownBlock = some k → k < w.heap.size := by
    intro k hk
    rcases h.own.2 with ⟨rfl, _⟩ | ⟨g, cap, cur, rfl, _, hg, _⟩
    · cases hk
    · simp [Value.ownBlock] at hk
      subst hk
      exact lt_of_block hg
  have box : ∀ (w2 : World) (v' : Value), WStep (w.alloc o) w2 bw v v' → w2.heap[w.heap.size]? = some o ∧ IntsAt w2 a l := by
    intro w2 v' hs
    refine ⟨hs.kept.heap (heap_alloc_new w _) ?_, (hF1.step hs).ints⟩
    rintro (e | e)
    · exact hbo e
    · have := hvo _ e; omega
  have cm : ∀ (w2 : World), IntsAt w2 a l → Calls Tryd.prog 28 #[.agg #[.int .i64 9, .bool sec, .int .i64 nn, .int .u64 uu, .int .i64 ii, bv, .string s, .slice a l.length c]] w2 fun e w' => e = .returned (.bool (mayB 9 l)) ∧ Kept (fun _ => False) w2 w' := fun w2 hA => may_any 9 sec nn uu ii bv s l a c w2 hA hl
  obtain ⟨mb, hmb⟩ : ∃ mb, mb = mayB 9 l := ⟨_, rfl⟩
  rw [← hmb] at c1 cm ⊢
  obtain ⟨b, hb⟩ : ∃ b, b = (if mb = true then packed l else []) := ⟨_, rfl⟩
  rw [← hb] at c1 ⊢
  have C1 := hide c1
  have CM := hide cm
  have BOX := hide box
  subst ho
  clear c1 cm box hmb hb hF hF1 hk1 h hI g2 g7 hbo hvo
  go_enter Tryd.func9, Tryd.ntmps9
  go_wp2_with (go_at_call 29; refine C1.out.mono ?_; rintro e w2 ⟨ev, v', rfl, hev, hk2⟩; obtain ⟨z1, z2⟩ := BOX.out w2 v' hk2.out.2; have Z2 := hide z2; clear z2)
  rcases hev with ⟨rfl, rfl⟩ | ⟨rfl, ad, rfl⟩
  · skip
    unfold opB at z1
    have y0 : w2.cell? ⟨w.heap.size, 0, none⟩ = some (.int .i64 9) := by simp [World.cell?, z1]
    have y1 : w2.cell? ⟨w.heap.size, 1, none⟩ = some (.bool sec) := by simp [World.cell?, z1]
    have y2 : w2.cell? ⟨w.heap.size, 2, none⟩ = some (.int .i64 nn) := by simp [World.cell?, z1]
    have y3 : w2.cell? ⟨w.heap.size, 3, none⟩ = some (.int .u64 uu) := by simp [World.cell?, z1]
    have y4 : w2.cell? ⟨w.heap.size, 4, none⟩ = some (.int .i64 ii) := by simp [World.cell?, z1]
    have y5 : w2.cell? ⟨w.heap.size, 5, none⟩ = some bv := by simp [World.cell?, z1]
    have y6 : w2.cell? ⟨w.heap.size, 6, none⟩ = some (.string s) := by simp [World.cell?, z1]
    have y7 : w2.cell? ⟨w.heap.size, 7, none⟩ = some (.slice a l.length c) := by simp [World.cell?, z1]
    clear z1
    have cm2 : Hid (∀ k, Calls Tryd.prog 28 #[.agg #[.int .i64 9, .bool sec, .int .i64 nn, .int .u64 uu, .int .i64 ii, bv, .string s, .slice a l.length c]] (w2.drewN k) fun e w' => e = .returned (.bool true) ∧ Hid (Kept (fun _ => False) w2 w')) := by
      intro k
      refine (CM.out (w2.drewN k) Z2.out).mono ?_
      rintro e w' ⟨rfl, hk⟩
      exact ⟨rfl, (Kept.drewN w2 k).trans hk (fun _ f => f.elim)⟩
    have fin : Hid (∀ w3, Kept (fun _ => False) w2 w3 → ∀ w4, Kept (fun _ => False) w3 w4 → WPut bw v xs w true b (.returned (.tuple #[.bool true, .bool true])) w4) := by
      intro w3 k3 w4 k4
      have k5 := k3.trans k4 (fun _ f => f.elim)
      exact WPut.of (WStep.alloc _ _ _ _) (hk2.out.1.kept k5 (fun _ _ f => f)) (hk2.out.2.trans ⟨k5.mono (fun _ f => f.elim), fun _ h => .inl h⟩)
    clear CM BOX
    go_region_with ((go_at_call 28; refine (cm2.out _).mono ?_; rintro e w3 ⟨rfl, hk3⟩))
    all_goals
      go_wp2
      go_ret2
      first
        | exact fin.out _ hk3.out _ (Kept.refl _ _)
        | exact fin.out _ hk3.out _ (Kept.drewN _ _)
  · skip
    unfold opB at z1
    have y0 : w2.cell? ⟨w.heap.size, 0, none⟩ = some (.int .i64 9) := by simp [World.cell?, z1]
    have y1 : w2.cell? ⟨w.heap.size, 1, none⟩ = some (.bool sec) := by simp [World.cell?, z1]
    have y2 : w2.cell? ⟨w.heap.size, 2, none⟩ = some (.int .i64 nn) := by simp [World.cell?, z1]
    have y3 : w2.cell? ⟨w.heap.size, 3, none⟩ = some (.int .u64 uu) := by simp [World.cell?, z1]
    have y4 : w2.cell? ⟨w.heap.size, 4, none⟩ = some (.int .i64 ii) := by simp [World.cell?, z1]
    have y5 : w2.cell? ⟨w.heap.size, 5, none⟩ = some bv := by simp [World.cell?, z1]
    have y6 : w2.cell? ⟨w.heap.size, 6, none⟩ = some (.string s) := by simp [World.cell?, z1]
    have y7 : w2.cell? ⟨w.heap.size, 7, none⟩ = some (.slice a l.length c) := by simp [World.cell?, z1]
    clear z1
    have cm2 : Hid (∀ k, Calls Tryd.prog 28 #[.agg #[.int .i64 9, .bool sec, .int .i64 nn, .int .u64 uu, .int .i64 ii, bv, .string s, .slice a l.length c]] (w2.drewN k) fun e w' => e = .returned (.bool false) ∧ Hid (Kept (fun _ => False) w2 w')) := by
      intro k
      refine (CM.out (w2.drewN k) Z2.out).mono ?_
      rintro e w' ⟨rfl, hk⟩
      exact ⟨rfl, (Kept.drewN w2 k).trans hk (fun _ f => f.elim)⟩
    have fin : Hid (∀ w3, Kept (fun _ => False) w2 w3 → ∀ w4, Kept (fun _ => False) w3 w4 → WPut bw v xs w false b (.returned (.tuple #[.bool false, .bool true])) w4) := by
      intro w3 k3 w4 k4
      have k5 := k3.trans k4 (fun _ f => f.elim)
      exact WPut.of (WStep.alloc _ _ _ _) (hk2.out.1.kept k5 (fun _ _ f => f)) (hk2.out.2.trans ⟨k5.mono (fun _ f => f.elim), fun _ h => .inl h⟩)
    clear CM BOX
    go_region_with ((go_at_call 28; refine (cm2.out _).mono ?_; rintro e w3 ⟨rfl, hk3⟩))
    all_goals
      go_wp2
      go_ret2
      first
        | exact fin.out _ hk3.out _ (Kept.refl _ _)
        | exact fin.out _ hk3.out _ (Kept.drewN _ _)
end Go.Proofs.YtopmdpfnigceeaaDoor
