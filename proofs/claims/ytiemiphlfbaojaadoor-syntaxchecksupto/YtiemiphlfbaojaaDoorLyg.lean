import Derived.Test.YtiemiphlfbaojaaDoorLyf
namespace Go.Proofs.YtiemiphlfbaojaaDoor
open Go.ChangeShapes Go.WideShapes Go.ChangeAt Go.RowKit

variable {w0 w w' : World} {b : Nat} {l : List UInt8} {p k : Nat} {t : List UInt8} {n : Int} {a e : Nat} {v : Value} {m : Nat} {L : List Lx}
set_option maxRecDepth 20000 in
set_option maxHeartbeats 4000000 in
theorem name_any (R : List UInt8) (h : Sc w0 w b l p k [] n a e v m L) (hC : ClsAt w0) (ha : a ≤ p) (hp : p ≤ l.length) (hl : l.length ≤ 400000000000) (hR : R = (l.drop a).take (p - a)) (hE : (sgn R).any isE = false) :
    Calls Tryd.prog 51 #[.pointer (some ⟨b, 0, none⟩)] w fun x w' => x = .returned (.tuple #[]) ∧ Sc w0 w' b l p (kdF R) (txF R) n a e v m L := by
  have hRl : R.length ≤ 400000000000 := by rw [hR, List.length_take, List.length_drop]; omega
  have hx : (bq l).extract a p = bq R := by rw [bq_extract, hR]
  have CK := hideL (fun W (k : Kept (fun _ => False) w0 W) => kindOf_any R W (hC.later k) hRl)
  have CL := hideL (fun W (k : Kept (fun _ => False) w0 W) => literal_any R W (hC.later k) hRl hE)
  have CN := hideL (fun W (k : Kept (fun _ => False) w0 W) => canonical_any R W (hC.later k) hRl hE)
  have HS := hideL h
  obtain ⟨x0, x1, -, -, -, x5, -, -⟩ := h.cells
  have hz : (bq l).size = l.length := bq_size l
  have hk7 := kdF_lt R
  unfold txF
  generalize kdF R = kk at *
  obtain ⟨s, hs⟩ : ∃ s, s = bq l := ⟨_, rfl⟩
  rw [← hs] at x0 hx hz
  obtain ⟨r, hr⟩ : ∃ r, r = bq R := ⟨_, rfl⟩
  rw [← hr] at hx CK CL CN
  have i1 : (a : Int) ≤ (p : Int) := by omega
  have i2 : (p : Int) ≤ (s.size : Int) := by omega
  have hsb : s.size ≤ 400000000000 := by omega
  clear h hC hR hE hRl hr hs hz hl hp ha
  by_cases h1 : kk = 1
  · subst h1
    rw [if_pos rfl]
    clear CN
    go_enter Tryd.func51, Tryd.ntmps51
    go_wp2_with fail
    go_quiet (fail)
    have H0 := hideL (HS.out.later (Kept.drewL w nq))
    generalize w.drewN nq = V at *
    clear HS x0 x1 x5
    go_wp2_with (first
      | (go_at_call 69; refine (CK.out _ H0.out.kept).mono ?_; clear CK; rintro x W1 ⟨rfl, e1⟩; subst e1; have y2 := H0.out.cells.2.2.1; have g2 := H0.out.free 2)
      | (go_at_call 52; have H1 := hideL (H0.out.setK 1 1 rfl); refine (CL.out _ H1.out.kept).mono ?_; clear CL; rintro x W2 ⟨rfl, k2⟩; have H2 := hideL (H1.out.later k2); have y3 := H2.out.cells.2.2.2.1; have g3 := H2.out.free 3; clear H1 k2))
    have H3 := hideL (H2.out.setT (litF R))
    clear H2
    first | go_ret | go_ret2 | go_end0
    exact ⟨rfl, H3.out⟩
  · rw [if_neg h1]
    by_cases h2 : kk = 2
    · subst h2
      rw [if_pos rfl]
      clear CL
      go_enter Tryd.func51, Tryd.ntmps51
      go_wp2_with fail
      go_quiet (fail)
      have H0 := hideL (HS.out.later (Kept.drewL w nq))
      generalize w.drewN nq = V at *
      clear HS x0 x1 x5
      go_wp2_with (first
        | (go_at_call 69; refine (CK.out _ H0.out.kept).mono ?_; clear CK; rintro x W1 ⟨rfl, e1⟩; subst e1; have y2 := H0.out.cells.2.2.1; have g2 := H0.out.free 2)
        | (go_at_call 70; have H1 := hideL (H0.out.setK 2 2 rfl); refine (CN.out _ H1.out.kept).mono ?_; clear CN; rintro x W2 ⟨rfl, k2⟩; have H2 := hideL (H1.out.later k2); have y3 := H2.out.cells.2.2.2.1; have g3 := H2.out.free 3; clear H1 k2))
      have H3 := hideL (H2.out.setT (cnF R))
      clear H2
      first | go_ret | go_ret2 | go_end0
      exact ⟨rfl, H3.out⟩
    · rw [if_neg h2]
      have q1 : ((kk : Int) == 1) = false := by rw [beq_eq_false_iff_ne]; omega
      have q2 : ((kk : Int) == 2) = false := by rw [beq_eq_false_iff_ne]; omega
      clear CL CN h1 h2
      go_enter Tryd.func51, Tryd.ntmps51
      go_wp2_with fail
      go_quiet (fail)
      have H0 := hideL (HS.out.later (Kept.drewL w nq))
      generalize w.drewN nq = V at *
      clear HS x0 x1 x5
      go_wp2_with (go_at_call 69; refine (CK.out _ H0.out.kept).mono ?_; clear CK; rintro x W1 ⟨rfl, e1⟩; subst e1; have y2 := H0.out.cells.2.2.1; have g2 := H0.out.free 2)
      have H3 := hideL (H0.out.setK kk (kk : Int) rfl)
      clear H0
      first | go_ret | go_ret2 | go_end0
      exact ⟨rfl, H3.out⟩
end Go.Proofs.YtiemiphlfbaojaaDoor
