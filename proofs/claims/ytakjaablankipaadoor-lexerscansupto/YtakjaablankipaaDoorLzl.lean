import Derived.Test.YtakjaablankipaaDoorLzj
import Derived.Test.YtakjaablankipaaDoorLba
namespace Go.Proofs.YtakjaablankipaaDoor
open Go.ChangeShapes Go.WideShapes Go.ChangeAt Go.RowKit

/-! A run's kind and text, by its signs. -/
theorem SgB.piece {w : World} {b : Nat} {G : List Sg} (h : SgB w b G) (i n : Nat) : SgO w b (i * 4) ((G.drop i).take n) := by
  refine ⟨fun j y ey => ?_, h.h⟩
  have e : G[i + j]? = some y := by
    rw [List.getElem?_take] at ey
    split at ey
    · rw [List.getElem?_drop] at ey; exact ey
    · cases ey
  have := h.l (i + j) y e
  rw [Nat.zero_add, Nat.add_mul] at this
  exact this
theorem kw_T (R : List Sg) (T : List UInt8) (h : R.map sgB = sgn T) : kwF R = if rsv T = 1 then (-1 : Int) else ((rsv T : Nat) : Int) := by
  have e1 : R.any (·.l) = (sgn T).any (·.2) := by rw [← h, List.any_map]; rfl
  have e2 : R.map (·.c) = (sgn T).map (·.1) := by rw [← h, List.map_map]; rfl
  cases ha : (sgn T).any (·.2) with
  | true => rw [kw_let R (by rw [e1, ha]), rsv_letter T ha, if_pos rfl]
  | false => rw [kw_no R (by rw [e1, ha]), e2, sgn_plain _ T (Nat.le_refl _) ha]
/-- The text of a run as the document makes it. -/
def txE (st : Bool) (x : Sg) : List UInt8 := if st && x.l && (wdB x.c || x.c == 92) then [92, x.c] else [x.c]
theorem tx_T (R : List Sg) (T : List UInt8) (h : R.map sgB = sgn T) (hr : rsv T = 1) (st : Bool) (hs : st = (sgn T).any isW) : R.flatMap (txE st) = txF T ∧ kdF T = if st then 2 else 1 := by
  have hk : kdF T = if st then 2 else 1 := by
    unfold kdF
    rw [if_neg (by omega), hs]
  refine ⟨?_, hk⟩
  unfold txF
  rw [hk]
  cases st with
  | true =>
    show _ = cnF T
    unfold cnF
    rw [← h, List.flatMap_map]
    rfl
  | false =>
    show _ = litF T
    unfold litF
    rw [← h, List.map_map]
    have : txE false = fun x => [x.c] := by funext x; unfold txE; rfl
    rw [this]
    clear h hr hs hk this
    induction R with
    | nil => rfl
    | cons x R ih => rw [List.flatMap_cons, List.map_cons, ih]; rfl
end Go.Proofs.YtakjaablankipaaDoor
