import Derived.Test.YtmpneljkpcniiaaDoorRdN
namespace Go.Proofs.YtmpneljkpcniiaaDoor
open Go.ChangeShapes Go.WideShapes Go.ChangeAt Go.RowKit

set_option maxRecDepth 20000 in
set_option maxHeartbeats 400000 in
theorem rpak_zero (br g : Nat) (l : List Int) (p q n cc : Nat) (most : Int) (a0 a2 a3 : Addr) (w : World) (h : Rd w br (.slice (some ⟨g, 0, none⟩) l.length l.length) l p) (hsm : l.length ≤ 1099511627776)
    (C1 : Hid (∀ n', Calls Tryd.prog 30 #[.slice (some ⟨g, 0, none⟩) l.length l.length, .int .i64 p, .int .i64 most] (w.drewN n') fun e w' => e = .returned (.tuple #[.int .i64 n, .int .i64 (q : Int), .nilIface]) ∧ ∃ m, w' = w.drewN m))
    (hq : q < l.length) (hnp : 0 < n) (hcl : w.cell? ⟨g, q, none⟩ = some (.int .u8 (cc : Int))) (hc63 : cc ≤ 63)
    (hz : cc = 0 ∧ n ≤ 65536)
    (m : Nat) (hm : m = (n * cc + 7) / 8) (hqm : q + 1 + m ≤ l.length) (R xs : List Int) (hR : R = (l.drop (q + 1)).take m) (hxs : xs = unp (vle R) cc n)
    (g3 : w.cell? ⟨1, 0, none⟩ = some (errV a3)) :
    Calls Tryd.prog 13 #[.pointer (some ⟨br, 0, none⟩), .int .i64 most] w fun e w' => PakPost br (.slice (some ⟨g, 0, none⟩) l.length l.length) l p q a0 a2 a3 w e w' (pakRes R xs cc m) := by
  have hc := h.cell1
  have hcc0 := h.cell0
  have hf := h.free1
  obtain ⟨aa, ca, hv, hb, _⟩ := bytes_of_own h.own
  simp only [Value.slice.injEq, true_and] at hv
  obtain ⟨rfl, rfl⟩ := hv
  have hRl : R.length = m := by rw [hR, List.length_take, List.length_drop]; omega
  have hRB : IsBytes R := by rw [hR]; exact fun x hx => h.isb x (List.mem_of_mem_drop (List.mem_of_mem_take hx))
  have hxl : xs.length = n := by rw [hxs, unp_length]
  have hP8 : n * cc ≤ 8 * m := by omega
  have hnb : n ≤ 17592186044416 := by
    obtain ⟨h0, h1⟩ := hz
    omega
  have ba : ∀ (W : World) (off : Nat), Kept (fun _ => False) w W → (off = q + 1 ∨ m = 0) → BytesAt W (some ⟨g, off, none⟩) R := by
    intro W off hW ho hne
    rcases ho with rfl | rfl
    · obtain ⟨b, off, e, hcc⟩ := hb (by intro e; rw [e] at hq; simp at hq)
      cases e
      have q1 := BytesAt.cut (p := q + 1) (n := m) hcc hqm
      rw [← hR, Nat.zero_add] at q1
      obtain ⟨b, off, e, hcc⟩ := q1 hne
      cases e
      exact ⟨_, _, rfl, fun k hk => hW.cell (hcc k hk) (fun f => f)⟩
    · exact (hne (List.eq_nil_of_length_eq_zero hRl)).elim
  have cu : ∀ (k off c : Nat), (off = q + 1 ∨ m = 0) → Calls Tryd.prog 32 #[.slice (some ⟨g, off, none⟩) m c, .int .i64 n, .int .i64 cc] (w.drewN k) fun e w' => e = .returned (.slice (some ⟨w.heap.size, 0, none⟩) n n) ∧ Hid (w'.ownsRow w.heap.size 3 1 (.slice (some ⟨w.heap.size, 0, none⟩) n n) n (is xs) ∧ Kept (fun _ => False) w w') := by
    intro k off c ho
    have q1 := unpack_any R (some ⟨g, off, none⟩) c n cc (w.drewN k) (ba _ off (Kept.drewN _ _) ho) hRB hc63 (by rw [hRl]; omega) hnb (by rw [hRl]; omega)
    rw [hRl, ← hxs] at q1
    refine q1.mono ?_
    rintro e w' ⟨rfl, h1, h2⟩
    exact ⟨rfl, h1, (Kept.drewN w k).trans h2 (fun _ f => f.elim)⟩
  have ct : ∀ (w2 : World) (off c : Nat), Hid (w2.ownsRow w.heap.size 3 1 (.slice (some ⟨w.heap.size, 0, none⟩) n n) n (is xs) ∧ Kept (fun _ => False) w w2) → (off = q + 1 ∨ m = 0) → ∀ k, Calls Tryd.prog 33 #[.slice (some ⟨g, off, none⟩) m c, .slice (some ⟨w.heap.size, 0, none⟩) n n, .int .i64 cc] (w2.drewN k) fun e w' => e = .returned (.bool (tightB R xs cc)) ∧ w' = w2.drewN k := by
    intro w2 off c hh ho k
    have hi : IntsAt (w2.drewN k) (some ⟨w.heap.size, 0, none⟩) xs := by
      obtain ⟨a', c', e, _, hcl'⟩ := ints_of_own hh.out.1
      simp only [Value.slice.injEq, true_and] at e
      obtain ⟨rfl, rfl⟩ := e
      intro hne
      obtain ⟨b, off, e, _, _, hc'⟩ := hcl' hne
      exact ⟨b, off, e, hc'⟩
    have q1 := tight_any R xs (some ⟨g, off, none⟩) (some ⟨w.heap.size, 0, none⟩) c n cc (w2.drewN k) (ba _ off (hh.out.2.trans (Kept.drewN _ _) (fun _ f => f.elim)) ho) hRB hi (by rw [hxs]; exact unp_ints hc63) (by rw [hxs]; exact fun x hx => (unp_mem hx).1) hc63 (by rw [hxl]; exact hnb) (by rw [hRl, hxl]; exact hm)
    rw [hRl, hxl] at q1
    exact q1
  have HH := hide h
  have hbr := lt_of_block h.blk
  have fin : ∀ (w2 : World) (k : Nat), Hid (w2.ownsRow w.heap.size 3 1 (.slice (some ⟨w.heap.size, 0, none⟩) n n) n (is xs) ∧ Kept (fun _ => False) w w2) →
      ((w2.drewN k).cell? ⟨br, 1, none⟩ = some (.int .i64 p) ∧ (w2.drewN k).frozen? ⟨br, 1, none⟩ = false ∧ w2.cell? ⟨1, 0, none⟩ = some (errV a3) ∧ w2.cell? ⟨br, 0, none⟩ = some (.slice (some ⟨g, 0, none⟩) l.length l.length)) ∧
      (tightB R xs cc = true → PakPost br (.slice (some ⟨g, 0, none⟩) l.length l.length) l p q a0 a2 a3 w (.returned (.tuple #[.slice (some ⟨w.heap.size, 0, none⟩) n n, .nilIface])) ((w2.drewN k).setCell ⟨br, 1, none⟩ (.int .i64 ((q + 1 + m : Nat) : Int))) (pakRes R xs cc m)) ∧
      (tightB R xs cc = false → PakPost br (.slice (some ⟨g, 0, none⟩) l.length l.length) l p q a0 a2 a3 w (.returned (.tuple #[.slice none 0 0, errV a3])) (w2.drewN k) (pakRes R xs cc m)) := by
    intro w2 k hh
    have r2 := HH.out.kept hh.out.2 (fun f => f) (fun _ _ f => f)
    have r3 := r2.drewN k
    refine ⟨⟨r3.cell1, r3.free1, hh.out.2.cell g3 (fun f => f), r2.cell0⟩, fun e => ?_, fun e => ?_⟩
    · rw [pakRes, if_pos e]
      refine ⟨_, rfl, ?_, ?_, ?_⟩
      · rw [hxl]
        exact ownsRow_setCell_other (hh.out.1) (by simp [Value.ownBlock]; omega) _
      · rw [show q + (1 + m) = q + 1 + m by omega]
        exact r3.move hqm
      · exact ((hh.out.2.trans (Kept.drewN _ _) (fun _ f => f.elim)).mono (fun _ f => f.elim)).trans (Kept.setCell _ _ _) (fun _ hi => .inl hi)
    · rw [pakRes, if_neg (by rw [e]; decide)]
      exact ⟨rfl, r3, hh.out.2.trans (Kept.drewN _ _) (fun _ f => f.elim)⟩
  obtain ⟨P, hP⟩ : ∃ P, P = n * cc := ⟨_, rfl⟩
  have hPI : (n : Int) * cc = (P : Int) := by rw [hP]; push_cast; rfl
  rw [← hP] at hm
  have hPb : P ≤ 8796093022208 := by omega
  have hmI : ((P : Int) + 7) / 8 = (m : Int) := by omega
  have hmb : m ≤ 1099511627776 := by omega
  have FIN := hide fin
  have CU := hide cu
  have CT := hide ct
  obtain ⟨rs, hrs⟩ : ∃ rs, rs = pakRes R xs cc m := ⟨_, rfl⟩
  rw [← hrs] at FIN ⊢
  obtain ⟨tb, htb⟩ : ∃ tb, tb = tightB R xs cc := ⟨_, rfl⟩
  rw [← htb] at FIN CT
  clear hrs htb
  clear h hb hRl hRB hxl hP8 ba cu ct fin hR hxs hP hm
  obtain ⟨hcz0, hn6⟩ := hz
  have hP0 : P = 0 := by
    subst hcz0
    simp at hPI
    omega
  have hm0 : m = 0 := by omega
  have hccI : (cc : Int) = 0 := by omega
  rw [hccI] at hcl
  rw [hccI] at CU CT
  subst hm0
  clear hPb hmb hP0 hcz0 hmI hPI hc63 hccI
  by_cases hlq : l.length = q + 1
  · rw [hlq] at C1 FIN hcc0 ⊢
    have hqb : q < 1099511627776 := by omega
    clear hlq hq hqm hsm HH
    have cu2 : Hid (∀ k c : Nat, Calls Tryd.prog 32 #[.slice (some ⟨g, 0, none⟩) 0 c, .int .i64 n, .int .i64 0] (w.drewN k) fun e w' => e = .returned (.slice (some ⟨w.heap.size, 0, none⟩) n n) ∧ Hid (w'.ownsRow w.heap.size 3 1 (.slice (some ⟨w.heap.size, 0, none⟩) n n) n (is xs) ∧ Kept (fun _ => False) w w')) := fun k c => CU.out k (0) c (.inr rfl)
    have ct3 : Hid (∀ (w2 : World) (c : Nat), Hid (w2.ownsRow w.heap.size 3 1 (.slice (some ⟨w.heap.size, 0, none⟩) n n) n (is xs) ∧ Kept (fun _ => False) w w2) → Calls Tryd.prog 33 #[.slice (some ⟨g, 0, none⟩) 0 c, .slice (some ⟨w.heap.size, 0, none⟩) n n, .int .i64 0] w2 fun e w' => e = .returned (.bool tb) ∧ w' = w2) := fun w2 c hk => CT.out w2 (0) c hk (.inr rfl) 0
    clear CU CT
    cases tb
    · go_enter Tryd.func13, Tryd.ntmps13
      go_wp2_with fail
      go_quiet ((exact C1.out _))
      go_wp2_with (first | (go_at_call 32; refine (cu2.out _ _).mono ?_; rintro e w2 ⟨rfl, hk2⟩; obtain ⟨⟨z1, z2, z3, z7⟩, z4⟩ := FIN.out w2 0 hk2; rw [World.drewN_zero] at z1 z2; clear z4) | (go_at_call 33; refine (ct3.out _ _ hk2).mono ?_; rintro e w3 ⟨rfl, rfl⟩))
      go_quiet (fail)
      go_wp2
      go_ret2
      exact (FIN.out _ _ hk2).2.2 (by first | rfl | trivial)
    · go_enter Tryd.func13, Tryd.ntmps13
      go_wp2_with fail
      go_quiet ((exact C1.out _))
      go_wp2_with (first | (go_at_call 32; refine (cu2.out _ _).mono ?_; rintro e w2 ⟨rfl, hk2⟩; obtain ⟨⟨z1, z2, z3, z7⟩, z4⟩ := FIN.out w2 0 hk2; rw [World.drewN_zero] at z1 z2; clear z4) | (go_at_call 33; refine (ct3.out _ _ hk2).mono ?_; rintro e w3 ⟨rfl, rfl⟩))
      go_ret2
      exact (FIN.out _ 0 hk2).2.1 (by first | rfl | trivial)
  · skip
    have cu2 : Hid (∀ k c : Nat, Calls Tryd.prog 32 #[.slice (some ⟨g, q + 1, none⟩) 0 c, .int .i64 n, .int .i64 0] (w.drewN k) fun e w' => e = .returned (.slice (some ⟨w.heap.size, 0, none⟩) n n) ∧ Hid (w'.ownsRow w.heap.size 3 1 (.slice (some ⟨w.heap.size, 0, none⟩) n n) n (is xs) ∧ Kept (fun _ => False) w w')) := fun k c => CU.out k (q + 1) c (.inl rfl)
    have ct3 : Hid (∀ (w2 : World) (c : Nat), Hid (w2.ownsRow w.heap.size 3 1 (.slice (some ⟨w.heap.size, 0, none⟩) n n) n (is xs) ∧ Kept (fun _ => False) w w2) → Calls Tryd.prog 33 #[.slice (some ⟨g, q + 1, none⟩) 0 c, .slice (some ⟨w.heap.size, 0, none⟩) n n, .int .i64 0] w2 fun e w' => e = .returned (.bool tb) ∧ w' = w2) := fun w2 c hk => CT.out w2 (q + 1) c hk (.inl rfl) 0
    clear CU CT
    cases tb
    · go_enter Tryd.func13, Tryd.ntmps13
      go_wp2_with fail
      go_quiet ((exact C1.out _))
      go_wp2_with (first | (go_at_call 32; refine (cu2.out _ _).mono ?_; rintro e w2 ⟨rfl, hk2⟩; obtain ⟨⟨z1, z2, z3, z7⟩, z4⟩ := FIN.out w2 0 hk2; rw [World.drewN_zero] at z1 z2; clear z4) | (go_at_call 33; refine (ct3.out _ _ hk2).mono ?_; rintro e w3 ⟨rfl, rfl⟩))
      go_quiet (fail)
      go_wp2
      go_ret2
      exact (FIN.out _ _ hk2).2.2 (by first | rfl | trivial)
    · go_enter Tryd.func13, Tryd.ntmps13
      go_wp2_with fail
      go_quiet ((exact C1.out _))
      go_wp2_with (first | (go_at_call 32; refine (cu2.out _ _).mono ?_; rintro e w2 ⟨rfl, hk2⟩; obtain ⟨⟨z1, z2, z3, z7⟩, z4⟩ := FIN.out w2 0 hk2; rw [World.drewN_zero] at z1 z2; clear z4) | (go_at_call 33; refine (ct3.out _ _ hk2).mono ?_; rintro e w3 ⟨rfl, rfl⟩))
      go_ret2
      exact (FIN.out _ 0 hk2).2.1 (by first | rfl | trivial)
end Go.Proofs.YtmpneljkpcniiaaDoor
