import Derived.Test.YtbcohdioapmlgaaDoorMay
namespace Go.Proofs.YtbcohdioapmlgaaDoor
open Go.ChangeShapes Go.WideShapes Go.ChangeAt Go.RowKit

/-- A call of a script, boxed. -/
def opB (kd : Int) (sec : Bool) (nn uu ii : Int) (bv : Value) (s : ByteArray) (lv : Value) : Obj := .cells #[.int .i64 kd, .bool sec, .int .i64 nn, .int .u64 uu, .int .i64 ii, bv, .string s, lv] 30
theorem WStep.alloc (w : World) (o : Obj) (bw : Nat) (v : Value) : WStep w (w.alloc o) bw v v := ⟨(Kept.alloc w o).mono (fun _ f => f.elim), fun _ h => .inl h⟩
theorem Wr.alloc {w : World} {bw : Nat} {v : Value} {xs : List Int} (h : Wr w bw v xs) (o : Obj) : Wr (w.alloc o) bw v xs := h.kept (Kept.alloc w o) (fun _ _ f => f)
theorem BytesAt.alloc {w : World} {a : Option Addr} {l : List Int} (h : BytesAt w a l) (o : Obj) : BytesAt (w.alloc o) a l := by
  intro hne
  obtain ⟨b, off, rfl, hc⟩ := h hne
  exact ⟨b, off, rfl, fun k hk => (Kept.alloc w o).cell (hc k hk) (fun f => f)⟩
def WPut (bw : Nat) (v : Value) (xs : List Int) (w : World) (took : Bool) (b : List Int) (e : Ending) (w' : World) : Prop :=
  e = .returned (.tuple #[.bool took, .bool true]) ∧ ∃ v', Wr w' bw v' (xs ++ b) ∧ WStep w w' bw v v'
theorem WPut.of {bw : Nat} {v v' : Value} {xs b : List Int} {w w1 w' : World} {took : Bool} (k : WStep w w1 bw v v) (hw : Wr w' bw v' (xs ++ b)) (hs : WStep w1 w' bw v v') : WPut bw v xs w took b (.returned (.tuple #[.bool took, .bool true])) w' :=
  ⟨rfl, v', hw, k.trans hs⟩

end Go.Proofs.YtbcohdioapmlgaaDoor
