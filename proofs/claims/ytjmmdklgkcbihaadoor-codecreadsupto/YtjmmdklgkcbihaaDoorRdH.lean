import Derived.Test.YtjmmdklgkcbihaaDoorRdG
namespace Go.Proofs.YtjmmdklgkcbihaaDoor
open Go.ChangeShapes Go.WideShapes Go.ChangeAt Go.RowKit

set_option maxRecDepth 20000 in
set_option maxHeartbeats 4000000 in
theorem rraw_ok (br : Nat) (v : Value) (l : List Int) (p n : Nat) (w : World) (h : Rd w br v l p) (hpn : p + n ≤ l.length) :
    Calls Tryd.prog 18 #[.pointer (some ⟨br, 0, none⟩), .int .i64 n] w fun e w' => ∃ g, e = .returned (.tuple #[.slice (some ⟨g, 0, none⟩) n n, .nilIface]) ∧ w.heap.size ≤ g ∧ w'.ownsRow w.heap.size 5 1 (.slice (some ⟨g, 0, none⟩) n n) n (bs ((l.drop p).take n)) ∧ Rd w' br v l (p + n) ∧ Kept (fun i => i = br) w w' := by
  have hc := h.cell1
  have hc0 := h.cell0
  have hf := h.free1
  have hs := h.sm
  have HH := hide h
  have c1 := left_any br v l p w h
  have h1 : (n : Int) ≤ ((l.length - p : Nat) : Int) := by omega
  obtain ⟨lf, hlf⟩ : ∃ lf, lf = l.length - p := ⟨_, rfl⟩
  rw [← hlf] at c1 h1
  rcases h.own.2 with ⟨rfl, e0⟩ | ⟨g, cap, cur, rfl, _, hgg, hnc, hcm, _, _⟩
  · obtain ⟨g, e⟩ := h.frm
    cases e
  · obtain ⟨a, c, e, hb, _⟩ := bytes_of_own h.own
    simp only [Value.slice.injEq, true_and] at e
    obtain ⟨rfl, rfl⟩ := e
    clear h hlf
    have hwr : IntKind.i64.wrap ((p : Int) + n) = (p : Int) + n := by rw [IntKind.wrap_i64]; omega
    have hpc : (p : Int) + n ≤ cap := by omega
    have hp0 : (0 : Int) ≤ p := by omega
    have hp1 : (p : Int) ≤ (p : Int) + n := by omega
    have hlen : ((l.drop p).take n).length = n := by rw [List.length_take, List.length_drop]; omega
    have fr : ∀ (ad : Addr) (c k : Nat), BytesAt w (some ad) ((l.drop p).take n) → Calls Tryd.prog 29 #[.slice (some ad) n c] (w.drewN k) fun e w' => e = .returned (.slice (some ⟨w.heap.size, 0, none⟩) n n) ∧ w'.ownsRow w.heap.size 5 1 (.slice (some ⟨w.heap.size, 0, none⟩) n n) n (bs ((l.drop p).take n)) ∧ Kept (fun _ => False) w w' := by
      intro ad c k hBB
      have q := fresh_any ((l.drop p).take n) (some ad) c (w.drewN k) hBB (by rw [hlen]; omega)
      rw [hlen] at q
      refine q.mono ?_
      rintro e w' ⟨rfl, ho, hk⟩
      exact ⟨rfl, ho, (Kept.drewN w k).trans hk (fun _ f => f.elim)⟩
    have fin : ∀ w2 : World, w2.ownsRow w.heap.size 5 1 (.slice (some ⟨w.heap.size, 0, none⟩) n n) n (bs ((l.drop p).take n)) → Kept (fun _ => False) w w2 →
        (w2.cell? ⟨br, 1, none⟩ = some (.int .i64 p) ∧ w2.frozen? ⟨br, 1, none⟩ = false) ∧ ((w2.setCell ⟨br, 1, none⟩ (.int .i64 ((p + n : Nat) : Int))).ownsRow w.heap.size 5 1 (.slice (some ⟨w.heap.size, 0, none⟩) n n) n (bs ((l.drop p).take n)) ∧ Rd (w2.setCell ⟨br, 1, none⟩ (.int .i64 ((p + n : Nat) : Int))) br (.slice (some ⟨g, 0, none⟩) l.length cap) l (p + n) ∧ Kept (fun i => i = br) w (w2.setCell ⟨br, 1, none⟩ (.int .i64 ((p + n : Nat) : Int)))) := by
      intro w2 ho hk
      have r2 := HH.out.kept hk (fun f => f) (fun _ _ f => f)
      have hbr := lt_of_block HH.out.blk
      refine ⟨⟨r2.cell1, r2.free1⟩, ownsRow_setCell_other ho (by simp [Value.ownBlock]; omega) _, r2.move hpn, (hk.mono (fun _ f => f.elim)).trans (Kept.setCell _ _ _) (fun _ hi => .inl hi)⟩
    have epn : (p : Int) + n = ((p + n : Nat) : Int) := by omega
    have EPN := hide epn
    have FR := hide fr
    have FIN := hide fin
    have HBB := hide hb
    clear fr fin epn hlen hb
    have f2 : Hid (∀ k : Nat, Calls Tryd.prog 29 #[.slice (if cap = p then some ⟨g, 0, none⟩ else some ⟨g, p, none⟩) (((p : Int) + n).toNat - p) (cap - p)] (w.drewN k) fun e w' => e = .returned (.slice (some ⟨w.heap.size, 0, none⟩) n n) ∧ Hid (w'.ownsRow w.heap.size 5 1 (.slice (some ⟨w.heap.size, 0, none⟩) n n) n (bs ((l.drop p).take n)) ∧ Kept (fun _ => False) w w')) := by
      intro k
      rw [show ((p : Int) + n).toNat - p = n by omega]
      by_cases hcp : cap = p
      · rw [if_pos hcp]
        refine (FR.out ⟨g, 0, none⟩ (cap - p) k ?_).mono (fun e w' ⟨h1, h2, h3⟩ => ⟨h1, h2, h3⟩)
        intro hne
        have : ((l.drop p).take n).length = 0 := by rw [List.length_take, List.length_drop]; omega
        exact (hne (List.eq_nil_of_length_eq_zero this)).elim
      · rw [if_neg hcp]
        refine (FR.out ⟨g, p, none⟩ (cap - p) k ?_).mono (fun e w' ⟨h1, h2, h3⟩ => ⟨h1, h2, h3⟩)
        intro hne
        have hl0 : l ≠ [] := by intro e; rw [e] at hne; simp at hne
        obtain ⟨b, off, e, hcc⟩ := HBB.out hl0
        cases e
        have q := BytesAt.cut (p := p) (n := n) hcc hpn hne
        rw [Nat.zero_add] at q
        exact q
    clear FR HBB
    by_cases hcp : cap = p
    · have hn0 : n = 0 := by omega
      subst hn0
      subst hcp
      rw [if_pos rfl] at f2
      have f3 : Hid (∀ k : Nat, Calls Tryd.prog 29 #[.slice (some ⟨g, 0, none⟩) 0 0] (w.drewN k) fun e w' => e = .returned (.slice (some ⟨w.heap.size, 0, none⟩) 0 0) ∧ Hid (w'.ownsRow w.heap.size 5 1 (.slice (some ⟨w.heap.size, 0, none⟩) 0 0) 0 (bs ((l.drop cap).take 0)) ∧ Kept (fun _ => False) w w')) := by
        intro k
        have q := f2.out k
        rw [show ((cap : Int) + ((0 : Nat) : Int)).toNat - cap = 0 by omega, Nat.sub_self] at q
        exact q
      clear f2 hwr hpc hp1
      have hwr : IntKind.i64.wrap (cap : Int) = (cap : Int) := by rw [IntKind.wrap_i64]; omega
      go_enter Tryd.func18, Tryd.ntmps18
      go_wp2_with (go_at_call 19; refine c1.mono ?_; rintro e w' ⟨rfl, m, rfl⟩)
      go_region_with ((go_at_call 29; refine (f3.out (m + 1)).mono ?_; rintro e w2 ⟨rfl, hk2⟩))
      all_goals
        obtain ⟨⟨z1, z2⟩, z3, z4, z5⟩ := FIN.out w2 hk2.out.1 hk2.out.2
        have Z3 := hide z3
        have Z4 := hide z4
        have Z5 := hide z5
        clear z3 z4 z5 hk2
        go_wp2
        go_ret2
        exact ⟨w.heap.size, rfl, Nat.le_refl _, by simpa using Z3.out, by simpa using Z4.out, by simpa using Z5.out⟩
    · rw [if_neg hcp] at f2
      go_enter Tryd.func18, Tryd.ntmps18
      go_wp2_with (go_at_call 19; refine c1.mono ?_; rintro e w' ⟨rfl, m, rfl⟩)
      go_region_with ((go_at_call 29; refine (f2.out (m + 1)).mono ?_; rintro e w2 ⟨rfl, hk2⟩))
      all_goals
        obtain ⟨⟨z1, z2⟩, z3, z4, z5⟩ := FIN.out w2 hk2.out.1 hk2.out.2
        have Z3 := hide z3
        have Z4 := hide z4
        have Z5 := hide z5
        clear z3 z4 z5 hk2
        go_wp2
        go_ret2
        rw [EPN.out]
        exact ⟨w.heap.size, rfl, Nat.le_refl _, Z3.out, Z4.out, Z5.out⟩

set_option maxRecDepth 20000 in
theorem rraw_neg (br : Nat) (n : Int) (a7 : Addr) (w : World) (hn : n < 0) (g7 : w.cell? ⟨0, 0, none⟩ = some (errV a7)) :
    Calls Tryd.prog 18 #[.pointer (some ⟨br, 0, none⟩), .int .i64 n] w fun e w' => e = .returned (.tuple #[.slice none 0 0, errV a7]) ∧ ∃ m, w' = w.drewN m := by
  go_enter Tryd.func18, Tryd.ntmps18
  go_wp2_with fail
  go_quiet (fail)
  go_wp2
  go_ret2
  exact ⟨rfl, nq, rfl⟩
set_option maxRecDepth 20000 in
theorem rraw_short (br : Nat) (v : Value) (l : List Int) (p n : Nat) (a0 : Addr) (w : World) (h : Rd w br v l p) (hpn : l.length < p + n) (g0 : w.cell? ⟨1, 0, none⟩ = some (errV a0)) :
    Calls Tryd.prog 18 #[.pointer (some ⟨br, 0, none⟩), .int .i64 n] w fun e w' => e = .returned (.tuple #[.slice none 0 0, errV a0]) ∧ ∃ m, w' = w.drewN m := by
  have hp := h.le
  have c1 := left_any br v l p w h
  have h1 : ((l.length - p : Nat) : Int) < (n : Int) := by omega
  obtain ⟨lf, hlf⟩ : ∃ lf, lf = l.length - p := ⟨_, rfl⟩
  rw [← hlf] at c1 h1
  clear h hlf
  go_enter Tryd.func18, Tryd.ntmps18
  go_wp2_with (go_at_call 19; refine c1.mono ?_; rintro e w' ⟨rfl, m, rfl⟩)
  go_quiet (fail)
  go_wp2
  go_ret2
  exact ⟨rfl, m + nq, by first | rfl | rw [World.drewN_drewN]⟩
end Go.Proofs.YtjmmdklgkcbihaaDoor
