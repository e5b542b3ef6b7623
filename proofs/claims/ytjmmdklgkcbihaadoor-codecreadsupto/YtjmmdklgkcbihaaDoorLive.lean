import Derived.Test.YtjmmdklgkcbihaaDoorRdC
namespace Go.Proofs.YtjmmdklgkcbihaaDoor
open Go.ChangeShapes Go.WideShapes Go.ChangeAt Go.RowKit

theorem uvb300 : uvb 300 = [172, 2] := by rw [uvb_big (by decide), uvb_small (by decide)]; rfl
theorem rdu300 : rdu 0 0 (([172, 2, 7] : List Int).drop 0) = .ok (300, 2) := by rfl

set_option maxRecDepth 20000 in
set_option maxHeartbeats 1000000 in
theorem lives_any (a0 a1 : Addr) (w : World) (g0 : w.cell? ⟨1, 0, none⟩ = some (errV a0)) (g1 : w.cell? ⟨3, 0, none⟩ = some (errV a1)) :
    Calls Tryd.prog 5 #[] w fun e w' => e = .returned (.bool true) ∧ Kept (fun _ => False) w w' := by
  go_enter Tryd.func5, Tryd.ntmps5
  go_wp2_with (first
    | (go_at_call 6; refine (new_any _).mono ?_; rintro e w1 ⟨rfl, hW1, hK1⟩)
    | (go_at_call 27; refine (wuv_any w.heap.size (.slice none 0 0) [] 300 _ hW1 (by decide) (by decide)).mono ?_; rintro e w2 ⟨rfl, v2, hW2, hS2⟩))
  have hW2' : Wr w2 w.heap.size v2 [172, 2] := by have q := hW2; rw [uvb300] at q; exact q
  clear hW2
  have k02 : Kept (fun _ => False) w w2 := (hK1.trans hS2.kept (fun i hi => .inr (by
    rcases hi with rfl | hi
    · exact Nat.le_refl _
    · simp [Value.ownBlock] at hi))).mono (fun _ f => f.elim)
  generalize hw3 : w2.alloc (Obj.cells #[Value.int IntKind.u8 172, Value.int IntKind.u8 2, Value.int IntKind.u8 7] 5) = w3
  have k23 : Kept (fun _ => False) w2 w3 := by rw [← hw3]; exact Kept.alloc _ _
  have hW3 : Wr w3 w.heap.size v2 [172, 2] := hW2'.kept k23 (fun _ _ f => f)
  have hB3 : BytesAt w3 (some ⟨w2.heap.size, 0, none⟩) [172, 2, 7] := by
    intro _
    refine ⟨w2.heap.size, 0, rfl, fun k hk => ?_⟩
    rw [← hw3, World.cell?_alloc_at (hn := rfl)]
    match k, hk with
    | 0, _ => rfl
    | 1, _ => rfl
    | 2, _ => rfl
    | n + 3, h => simp at h; omega
  have k03 : Kept (fun _ => False) w w3 := k02.trans k23 (fun _ f => f.elim)
  have hs3 : w2.heap.size < w3.heap.size := by rw [← hw3]; simp
  clear hw3 k23 k02 hW2' hS2 hK1 hW1
  refine (newr_any [172, 2, 7] (some ⟨w2.heap.size, 0, none⟩) 3 w3 hB3 (by intro x hx; simp at hx; omega) (by decide)).mono ?_
  rintro e w4 ⟨br, vr, rfl, hR4, hbr, hvr, k34⟩
  have hW4 : Wr w4 w.heap.size v2 [172, 2] := hW3.kept k34 (fun _ _ f => f)
  have k04 : Kept (fun _ => False) w w4 := k03.trans k34 (fun _ f => f.elim)
  have hwbr : w.heap.size ≤ br := Nat.le_trans k03.size hbr
  clear hW3 k03 k34 hB3
  have HW := hide hW4
  have HR := hide hR4
  have HK := hide k04
  have HB := hide hwbr
  have HV := hide hvr
  clear hW4 hR4 k04 hbr hvr hwbr
  go_wp2_with (first
    | (go_at_call 8; refine (bytes_any w.heap.size v2 [172, 2] _ HW.out (by decide)).mono ?_; rintro e w5 ⟨rfl, ho5, hK5⟩; have hcv : (convert 26 9 (.slice (some ⟨w4.heap.size, 0, none⟩) 2 2)).run Tryd.prog w5 = .ok (.string { data := #[172, 2] }) w5 := conv_own ho5)
    | (go_at_call 7; refine (wlen_any w.heap.size v2 [172, 2] _ (HW.out.kept hK5 (fun _ _ f => f))).mono ?_; rintro e w6 ⟨rfl, rfl⟩))
  have g0' : w6.cell? ⟨1, 0, none⟩ = some (errV a0) := hK5.cell (HK.out.cell g0 (fun f => f)) (fun f => f)
  have g1' : w6.cell? ⟨3, 0, none⟩ = some (errV a1) := hK5.cell (HK.out.cell g1 (fun f => f)) (fun f => f)
  have hR6 := HR.out.kept hK5 (fun f => f) (fun _ _ f => f)
  refine (ruv_ok br vr [172, 2, 7] 0 300 2 a0 a1 w6 hR6 rdu300 g0' g1').mono ?_
  rintro e w7 ⟨rfl, hR7, hK7⟩
  have k07 : Kept (fun _ => False) w w7 := (HK.out.trans hK5 (fun _ f => f.elim)).trans hK7 (fun i hi => .inr (by rw [hi]; exact HB.out))
  have H7 := hide hR7
  have K7 := hide k07
  clear hR6 hR7 hK7 k07 g0' g1' hK5 ho5
  go_wp2_with (first
    | (go_at_call 20; refine (at_any br vr [172, 2, 7] (0 + 2) _ H7.out).mono ?_; rintro e w8 ⟨rfl, rfl⟩)
    | (go_at_call 19; refine (left_any br vr [172, 2, 7] (0 + 2) _ H7.out).mono ?_; rintro e w9 ⟨rfl, n, rfl⟩))
  go_ret
  exact ⟨rfl, K7.out.trans (Kept.drewN _ _) (fun _ f => f.elim)⟩
end Go.Proofs.YtjmmdklgkcbihaaDoor
