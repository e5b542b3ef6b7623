import Derived.Test.YtedohkcoeebajaaDoorPot
namespace Go.Proofs.YtedohkcoeebajaaDoor
open Go.ChangeShapes Go.WideShapes Go.ChangeAt Go.RowKit

/-- The errors that postings ask. -/
structure ErQ (w : World) (ad : Nat → Addr) : Prop where
  p : ErP w ad
  v9 : w.cell? ⟨0, 0, none⟩ = some (errV (ad 9))
theorem ErQ.kept {w w' : World} {ad : Nat → Addr} (h : ErQ w ad) (k : Kept (fun _ => False) w w') : ErQ w' ad := by
  constructor
  · exact h.p.kept k
  all_goals first | exact k.cell h.v9 (fun f => f) | exact k.cell h.v7 (fun f => f)
theorem docs_any (bl : Nat) (ia : Option Addr) (ic : Nat) (l : List Int) (n t : Nat) (sa : Option Addr) (sc : Nat) (S : List Sk) (p0 : Nat) (w : World) (hL : LsAt w bl ia ic l n t sa sc S p0) : Calls Tryd.prog 40 #[.pointer (some ⟨bl, 0, none⟩)] w fun e w' => e = .returned (.int .i64 (n : Int)) ∧ w' = w := by
  have c1 := hL.c1
  clear hL
  go_enter Tryd.func40, Tryd.ntmps40
  go_wp2
  go_ret
  exact ⟨rfl, rfl⟩
theorem blocks_any (bl : Nat) (ia : Option Addr) (ic : Nat) (l : List Int) (n t : Nat) (sa : Option Addr) (sc : Nat) (S : List Sk) (p0 : Nat) (w : World) (hL : LsAt w bl ia ic l n t sa sc S p0) : Calls Tryd.prog 43 #[.pointer (some ⟨bl, 0, none⟩)] w fun e w' => e = .returned (.int .i64 ((S.length : Nat) : Int)) ∧ w' = w := by
  have c1 := hL.c3
  clear hL
  generalize S.length = m at *
  go_enter Tryd.func43, Tryd.ntmps43
  go_wp2
  go_ret
  exact ⟨rfl, rfl⟩
theorem neqSP (t : TypeId) (a b : ByteArray) : binOp .neq t (.string a) (.string b) = pure (.bool !(a.toList == b.toList)) := by simp [binOp, Op.stringOp]
theorem eqSP (t : TypeId) (a b : ByteArray) : binOp .eql t (.string a) (.string b) = pure (.bool (a.toList == b.toList)) := by simp [binOp, Op.stringOp]
theorem str_B0 : strOfNums B0 = ⟨#[2, 3, 5, 9, 2, 2, 10, 2, 1, 1, 1, 2, 0]⟩ := by decide +kernel
theorem opn_B0 : opn B0 = some P0 := by
  rw [← img_P0]
  exact opn_put gdl_P0 (by rw [img_P0]; decide)
theorem B0_bytes : IsBytes B0 := by rw [← img_P0]; exact img_bytes gdl_P0
theorem hdr_B0 {h : Hd} (hh : hdr B0 = some h) : h.n = 2 ∧ h.t = 3 ∧ h.S.length = 1 := by
  obtain ⟨_, _, p, h1, _⟩ := opn_back B0_bytes opn_B0
  rw [h1] at hh
  injection hh with hh
  rw [← hh]
  exact ⟨rfl, rfl, rfl⟩
end Go.Proofs.YtedohkcoeebajaaDoor
