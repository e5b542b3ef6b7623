import Derived.Test.YtbdhmibiggpomaaDoorPot
namespace Go.Proofs.YtbdhmibiggpomaaDoor
open Go.ChangeShapes Go.WideShapes Go.ChangeAt Go.RowKit

/-- The errors that postings ask. -/
structure ErQ (w : World) (ad : Nat → Addr) : Prop where
  p : ErP w ad
  v7 : w.cell? ⟨8, 0, none⟩ = some (errV (ad 7))
  v9 : w.cell? ⟨0, 0, none⟩ = some (errV (ad 9))
theorem ErQ.kept {w w' : World} {ad : Nat → Addr} (h : ErQ w ad) (k : Kept (fun _ => False) w w') : ErQ w' ad := by
  constructor
  · exact h.p.kept k
  all_goals first | exact k.cell h.v9 (fun f => f) | exact k.cell h.v7 (fun f => f)
theorem Errs13.toQ {w : World} {ad : Nat → Addr} (h : Errs13 w ad) : ErQ w ad := ⟨h.toP, h.s7.var, h.s9.var⟩
theorem encode_good (L : List Pg) (a : Option Addr) (c : Nat) (ad : Nat → Addr) (w : World) (hP : PsAt w a L) (hg : gdl (-1) (pol L)) (hl : L.length ≤ 1073741824) (hc : L.length ≤ c) (ht : tot (pol L) ≤ 1099511627776) (hE : ErQ w ad) :
    Calls Tryd.prog 18 #[.slice a L.length c] w fun e w' => ∃ g, w.heap.size ≤ g ∧ e = .returned (.tuple #[.slice (some ⟨g, 0, none⟩) (img (pol L)).length (img (pol L)).length, .nilIface]) ∧ w'.ownsRow w.heap.size 5 1 (.slice (some ⟨g, 0, none⟩) (img (pol L)).length (img (pol L)).length) (img (pol L)).length (bs (img (pol L))) ∧ Kept (fun _ => False) w w' := by
  have hI : ∀ g ∈ L, IsInts g.ps := fun g hgm x hx => by
    have := (gdl_pos hg g.po (List.mem_map.2 ⟨g, hgm, rfl⟩)).2.mem x hx
    omega
  have h0 : flts (-1) (pol L) = 0 := (flts_iff (fun p hp => by
    obtain ⟨g, hgm, rfl⟩ := List.mem_map.1 hp
    exact hI g hgm)).2 hg
  refine (pencode_any L a c (ad 3) (ad 7) w hP hI hl hc ht hE.p.s3 hE.v7).mono ?_
  rintro e w' ⟨k, h | h | h⟩
  · obtain ⟨_, g, h1, h2, h3⟩ := h
    exact ⟨g, h1, h2, h3, k⟩
  · have := h.1; omega
  · have := h.1; omega
theorem docs_any (bl : Nat) (ia : Option Addr) (ic : Nat) (l : List Int) (n t : Nat) (sa : Option Addr) (sc : Nat) (S : List Sk) (p0 : Nat) (w : World) (hL : LsAt w bl ia ic l n t sa sc S p0) : Calls Tryd.prog 19 #[.pointer (some ⟨bl, 0, none⟩)] w fun e w' => e = .returned (.int .i64 (n : Int)) ∧ w' = w := by
  have c1 := hL.c1
  clear hL
  go_enter Tryd.func19, Tryd.ntmps19
  go_wp2
  go_ret
  exact ⟨rfl, rfl⟩
theorem total_any (bl : Nat) (ia : Option Addr) (ic : Nat) (l : List Int) (n t : Nat) (sa : Option Addr) (sc : Nat) (S : List Sk) (p0 : Nat) (w : World) (hL : LsAt w bl ia ic l n t sa sc S p0) : Calls Tryd.prog 20 #[.pointer (some ⟨bl, 0, none⟩)] w fun e w' => e = .returned (.int .i64 (t : Int)) ∧ w' = w := by
  have c1 := hL.c2
  clear hL
  go_enter Tryd.func20, Tryd.ntmps20
  go_wp2
  go_ret
  exact ⟨rfl, rfl⟩
theorem blocks_any (bl : Nat) (ia : Option Addr) (ic : Nat) (l : List Int) (n t : Nat) (sa : Option Addr) (sc : Nat) (S : List Sk) (p0 : Nat) (w : World) (hL : LsAt w bl ia ic l n t sa sc S p0) : Calls Tryd.prog 21 #[.pointer (some ⟨bl, 0, none⟩)] w fun e w' => e = .returned (.int .i64 ((S.length : Nat) : Int)) ∧ w' = w := by
  have c1 := hL.c3
  clear hL
  generalize S.length = m at *
  go_enter Tryd.func21, Tryd.ntmps21
  go_wp2
  go_ret
  exact ⟨rfl, rfl⟩
theorem neqSP (t : TypeId) (a b : ByteArray) : binOp .neq t (.string a) (.string b) = pure (.bool !(a.toList == b.toList)) := by simp [binOp, Op.stringOp]
theorem eqSP (t : TypeId) (a b : ByteArray) : binOp .eql t (.string a) (.string b) = pure (.bool (a.toList == b.toList)) := by simp [binOp, Op.stringOp]
theorem str_B0 : strOfNums B0 = ⟨#[2, 3, 5, 9, 2, 2, 10, 2, 1, 1, 1, 2, 0]⟩ := by decide +kernel
theorem opn_B0 : opn B0 = some P0 := by
  rw [← img_P0]
  exact opn_put gdl_P0 (by rw [img_P0]; decide)
theorem B0_bytes : IsBytes B0 := by rw [← img_P0]; exact img_bytes gdl_P0
theorem hdr_B0 {h : Hd} (hh : hdr B0 = some h) : h.n = 2 ∧ h.t = 3 ∧ h.S.length = 1 := by
  obtain ⟨_, _, p, h1, _⟩ := opn_back B0_bytes opn_B0
  rw [h1] at hh
  injection hh with hh
  rw [← hh]
  exact ⟨rfl, rfl, rfl⟩
set_option maxRecDepth 20000 in
set_option maxHeartbeats 4000000 in
theorem plives_any (ad : Nat → Addr) (w : World) (hE : ErQ w ad) : Calls Tryd.prog 5 #[] w fun e w' => e = .returned (.bool true) ∧ Kept (fun _ => False) w w' := by
  have A1 := Kept.alloc w (.cells #[.int .i64 1, .int .i64 4] 3)
  have A2 := Kept.alloc (w.alloc (.cells #[.int .i64 1, .int .i64 4] 3)) (.cells #[.int .i64 0] 3)
  have A3 := Kept.alloc ((w.alloc (.cells #[.int .i64 1, .int .i64 4] 3)).alloc (.cells #[.int .i64 0] 3)) (.cells #[.int .i64 2, .slice (some ⟨w.heap.size, 0, none⟩) 2 2, .int .i64 5, .slice (some ⟨w.heap.size + 1, 0, none⟩) 1 1] 42)
  obtain ⟨W3, hW3⟩ : ∃ W3, W3 = ((w.alloc (.cells #[.int .i64 1, .int .i64 4] 3)).alloc (.cells #[.int .i64 0] 3)).alloc (.cells #[.int .i64 2, .slice (some ⟨w.heap.size, 0, none⟩) 2 2, .int .i64 5, .slice (some ⟨w.heap.size + 1, 0, none⟩) 1 1] 42) := ⟨_, rfl⟩
  have g1 := A3.heap (A2.heap (heap_alloc_new w (.cells #[.int .i64 1, .int .i64 4] 3)) (fun f => f)) (fun f => f)
  have g2 := A3.heap (heap_alloc_new (w.alloc (.cells #[.int .i64 1, .int .i64 4] 3)) (.cells #[.int .i64 0] 3)) (fun f => f)
  have g3 := heap_alloc_new ((w.alloc (.cells #[.int .i64 1, .int .i64 4] 3)).alloc (.cells #[.int .i64 0] 3)) (.cells #[.int .i64 2, .slice (some ⟨w.heap.size, 0, none⟩) 2 2, .int .i64 5, .slice (some ⟨w.heap.size + 1, 0, none⟩) 1 1] 42)
  have z1 : (w.alloc (.cells #[.int .i64 1, .int .i64 4] 3)).heap.size = w.heap.size + 1 := by simp
  have z2 : ((w.alloc (.cells #[.int .i64 1, .int .i64 4] 3)).alloc (.cells #[.int .i64 0] 3)).heap.size = w.heap.size + 1 + 1 := by simp
  rw [z1] at g2
  rw [z2] at g3
  have K3 := A1.trans (A2.trans A3 (fun _ f => f.elim)) (fun _ f => f.elim)
  rw [← hW3] at g1 g2 g3 K3
  have hP : PsAt W3 (some ⟨w.heap.size + 1 + 1, 0, none⟩) (L0 (some ⟨w.heap.size, 0, none⟩) (some ⟨w.heap.size + 1, 0, none⟩)) := fun _ => ⟨_, 0, rfl, fun k hk => by
    have hk2 : k < 2 := hk
    rcases (show k = 0 ∨ k = 1 by omega) with rfl | rfl
    · refine ⟨by rw [cell_of_row _ _ _ _ _ _ g3]; rfl, by rw [cell_of_row _ _ _ _ _ _ g3]; rfl, fun _ => ⟨_, 0, rfl, fun j hj => ?_⟩⟩
      have hj2 : j < 2 := hj
      rcases (show j = 0 ∨ j = 1 by omega) with rfl | rfl <;> (rw [cell_of_row _ _ _ _ _ _ g1]; rfl)
    · refine ⟨by rw [cell_of_row _ _ _ _ _ _ g3]; rfl, by rw [cell_of_row _ _ _ _ _ _ g3]; rfl, fun _ => ⟨_, 0, rfl, fun j hj => ?_⟩⟩
      have hj2 : j < 1 := hj
      obtain rfl : j = 0 := by omega
      rw [cell_of_row _ _ _ _ _ _ g2]; rfl⟩
  have CE := encode_good (L0 (some ⟨w.heap.size, 0, none⟩) (some ⟨w.heap.size + 1, 0, none⟩)) (some ⟨w.heap.size + 1 + 1, 0, none⟩) 2 ad W3 hP gdl_P0 (by show (2 : Nat) ≤ 1073741824; decide) (Nat.le_refl 2) (by show (3 : Nat) ≤ 1099511627776; decide) (hE.kept K3)
  rw [pol_L0, img_P0, show (L0 (some ⟨w.heap.size, 0, none⟩) (some ⟨w.heap.size + 1, 0, none⟩)).length = 2 from rfl, show B0.length = 13 from rfl] at CE
  have HCE := hideP CE
  have HK3 := hideP K3
  have HE := hideP hE
  have ne1 : (!((⟨#[2, 3, 5, 9, 2, 2, 10, 2, 1, 1, 1, 2, 0]⟩ : ByteArray).toList == (⟨#[2, 3, 5, 9, 2, 2, 10, 2, 1, 1, 1, 2, 0]⟩ : ByteArray).toList)) = false := by simp
  clear A1 A2 A3 g1 g2 g3 z1 z2 K3 hP CE hE
  go_enter Tryd.func5, Tryd.ntmps5
  go_wp2_with fail
  rw [← hW3]
  clear hW3
  refine HCE.out.mono ?_
  rintro e W4 ⟨g, hg, rfl, ho4, k4⟩
  have cv := conv_own ho4
  rw [str_B0] at cv
  have HK4 := hideP (HK3.out.trans k4 (fun _ f => f.elim))
  have hE4 := HE.out.kept HK4.out
  have hbt : BytesAt W4 (some ⟨g, 0, none⟩) B0 := by
    obtain ⟨a', c', e', h', -⟩ := bytes_of_own ho4
    simp only [Value.slice.injEq, true_and] at e'
    exact e'.1 ▸ h'
  have CO := popen_any B0 (some ⟨g, 0, none⟩) 13 ad W4 hbt B0_bytes (by decide) hE4.p hE4.v9
  rw [opn_B0, show B0.length = 13 from rfl] at CO
  unfold opPost at CO
  simp only at CO
  have HCO := hideP CO
  have ns := neqSP 9 ⟨#[2, 3, 5, 9, 2, 2, 10, 2, 1, 1, 1, 2, 0]⟩ ⟨#[2, 3, 5, 9, 2, 2, 10, 2, 1, 1, 1, 2, 0]⟩
  rw [ne1] at ns
  clear CO hbt hE4 ho4 k4 hg HCE HK3 ne1
  go_wp2_with (first
    | (go_at_call 10; refine HCO.out.mono ?_; clear HCO; rintro e W5 ⟨bl, g5, h, sa, sc, rfl, hh, hLs, _, k5⟩; have HK5 := hideP (HK4.out.trans k5 (fun _ f => f.elim)); obtain ⟨n2, t3, s1⟩ := hdr_B0 hh; have D1 := docs_any _ _ _ _ _ _ _ _ _ _ W5 hLs; have D2 := total_any _ _ _ _ _ _ _ _ _ _ W5 hLs; have D3 := blocks_any _ _ _ _ _ _ _ _ _ _ W5 hLs; rw [n2] at D1; rw [t3] at D2; rw [s1] at D3; have HD1 := hideP D1; have HD2 := hideP D2; have HD3 := hideP D3; clear k5 hLs hh n2 t3 s1 D1 D2 D3)
    | (go_at_call 19; refine HD1.out.mono ?_; clear HD1; rintro e W5 ⟨rfl, rfl⟩)
    | (go_at_call 20; refine HD2.out.mono ?_; clear HD2; rintro e W5 ⟨rfl, rfl⟩)
    | (go_at_call 21; refine HD3.out.mono ?_; clear HD3; rintro e W5 ⟨rfl, rfl⟩))
  go_ret
  exact ⟨rfl, HK5.out⟩
end Go.Proofs.YtbdhmibiggpomaaDoor
