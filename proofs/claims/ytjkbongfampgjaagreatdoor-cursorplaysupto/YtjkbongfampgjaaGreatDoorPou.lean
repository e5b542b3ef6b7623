import Derived.Test.YtjkbongfampgjaaGreatDoorPot
namespace Go.Proofs.YtjkbongfampgjaaGreatDoor
open Go.ChangeShapes Go.WideShapes Go.ChangeAt Go.RowKit

/-- The errors that postings ask. -/
structure ErQ (w : World) (ad : Nat → Addr) : Prop where
  p : ErP w ad
  v7 : w.cell? ⟨1, 0, none⟩ = some (errV (ad 7))
  v9 : w.cell? ⟨0, 0, none⟩ = some (errV (ad 9))
theorem ErQ.kept {w w' : World} {ad : Nat → Addr} (h : ErQ w ad) (k : Kept (fun _ => False) w w') : ErQ w' ad := ⟨h.p.kept k, k.cell h.v7 (fun f => f), k.cell h.v9 (fun f => f)⟩
theorem encode_good (L : List Pg) (a : Option Addr) (c : Nat) (ad : Nat → Addr) (w : World) (hP : PsAt w a L) (hg : gdl (-1) (pol L)) (hl : L.length ≤ 1073741824) (hc : L.length ≤ c) (ht : tot (pol L) ≤ 1099511627776) (hE : ErQ w ad) :
    Calls Tryz.prog 22 #[.slice a L.length c] w fun e w' => ∃ g, w.heap.size ≤ g ∧ e = .returned (.tuple #[.slice (some ⟨g, 0, none⟩) (img (pol L)).length (img (pol L)).length, .nilIface]) ∧ w'.ownsRow w.heap.size 5 1 (.slice (some ⟨g, 0, none⟩) (img (pol L)).length (img (pol L)).length) (img (pol L)).length (bs (img (pol L))) ∧ Kept (fun _ => False) w w' := by
  have hI : ∀ g ∈ L, IsInts g.ps := fun g hgm x hx => by
    have := (gdl_pos hg g.po (List.mem_map.2 ⟨g, hgm, rfl⟩)).2.mem x hx
    omega
  have h0 : flts (-1) (pol L) = 0 := (flts_iff (fun p hp => by
    obtain ⟨g, hgm, rfl⟩ := List.mem_map.1 hp
    exact hI g hgm)).2 hg
  refine (pencode_any L a c (ad 3) (ad 7) w hP hI hl hc ht hE.p.s3 hE.v7).mono ?_
  rintro e w' ⟨k, h | h | h⟩
  · obtain ⟨_, g, h1, h2, h3⟩ := h
    exact ⟨g, h1, h2, h3, k⟩
  · have := h.1; omega
  · have := h.1; omega
theorem docs_any (bl : Nat) (ia : Option Addr) (ic : Nat) (l : List Int) (n t : Nat) (sa : Option Addr) (sc : Nat) (S : List Sk) (p0 : Nat) (w : World) (hL : LsAt w bl ia ic l n t sa sc S p0) : Calls Tryz.prog 49 #[.pointer (some ⟨bl, 0, none⟩)] w fun e w' => e = .returned (.int .i64 (n : Int)) ∧ w' = w := by
  have c1 := hL.c1
  clear hL
  go_enter Tryz.func49, Tryz.ntmps49
  go_wp2
  go_ret
  exact ⟨rfl, rfl⟩
theorem total_any (bl : Nat) (ia : Option Addr) (ic : Nat) (l : List Int) (n t : Nat) (sa : Option Addr) (sc : Nat) (S : List Sk) (p0 : Nat) (w : World) (hL : LsAt w bl ia ic l n t sa sc S p0) : Calls Tryz.prog 50 #[.pointer (some ⟨bl, 0, none⟩)] w fun e w' => e = .returned (.int .i64 (t : Int)) ∧ w' = w := by
  have c1 := hL.c2
  clear hL
  go_enter Tryz.func50, Tryz.ntmps50
  go_wp2
  go_ret
  exact ⟨rfl, rfl⟩
theorem blocks_any (bl : Nat) (ia : Option Addr) (ic : Nat) (l : List Int) (n t : Nat) (sa : Option Addr) (sc : Nat) (S : List Sk) (p0 : Nat) (w : World) (hL : LsAt w bl ia ic l n t sa sc S p0) : Calls Tryz.prog 53 #[.pointer (some ⟨bl, 0, none⟩)] w fun e w' => e = .returned (.int .i64 ((S.length : Nat) : Int)) ∧ w' = w := by
  have c1 := hL.c3
  clear hL
  generalize S.length = m at *
  go_enter Tryz.func53, Tryz.ntmps53
  go_wp2
  go_ret
  exact ⟨rfl, rfl⟩
theorem neqSP (t : TypeId) (a b : ByteArray) : binOp .neq t (.string a) (.string b) = pure (.bool !(a.toList == b.toList)) := by simp [binOp, Op.stringOp]
theorem eqSP (t : TypeId) (a b : ByteArray) : binOp .eql t (.string a) (.string b) = pure (.bool (a.toList == b.toList)) := by simp [binOp, Op.stringOp]
theorem str_B0 : strOfNums B0 = ⟨#[2, 3, 5, 9, 2, 2, 10, 2, 1, 1, 1, 2, 0]⟩ := by decide +kernel
theorem opn_B0 : opn B0 = some P0 := by
  rw [← img_P0]
  exact opn_put gdl_P0 (by rw [img_P0]; decide)
theorem B0_bytes : IsBytes B0 := by rw [← img_P0]; exact img_bytes gdl_P0
theorem hdr_B0 {h : Hd} (hh : hdr B0 = some h) : h.n = 2 ∧ h.t = 3 ∧ h.S.length = 1 := by
  obtain ⟨_, _, p, h1, _⟩ := opn_back B0_bytes opn_B0
  rw [h1] at hh
  injection hh with hh
  rw [← hh]
  exact ⟨rfl, rfl, rfl⟩
end Go.Proofs.YtjkbongfampgjaaGreatDoor
