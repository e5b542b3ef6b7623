import Derived.Test.YtmddcjjmlfpffaaAuq
namespace Go.Proofs.Ytmddcjjmlfpffaa
open Go.ChangeShapes Go.WideShapes Go.ChangeAt Go.RowKit

def zn (S : List Int) : List Nat := S.map Int.toNat
theorem zn_nz (L : List Nat) : zn (nz L) = L := by unfold zn nz; rw [List.map_map]; exact (List.map_congr_left (fun x _ => Int.toNat_natCast x)).trans (List.map_id L)
def IvW (E : List Int) (S : List Int) : Prop := ∃ L : List Nat, S = nz L ∧ WSt E L
def nxWk (E : List Int) (S : List Int) (b : Nat) : List Int := nz (nxt E b (zn S))
def acW (E : List Int) (S : List Int) : Bool := decide ((zn S).getLast? = some E.length)
end Go.Proofs.Ytmddcjjmlfpffaa
