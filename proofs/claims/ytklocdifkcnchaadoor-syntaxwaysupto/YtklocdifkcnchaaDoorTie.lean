/-
  DERIVED. GIVEN WITH THE SEED: THE PROGRAM's TIES (one call each: nine closed facts by the kernel) AND EACH ROW's TIE, after the 31st guide's Derived/Test/Toyas{Tie, Card}.lean. No idea stands in it: it is a product of the set-up. Laid BY PROGRAM, IN A SANDBOX (cutbox-door.mjs). By AI agents, Wed Nov 11 2026. No macro, syntax, notation, axiom, sorry.
-/
import Derived.Test.YtklocdifkcnchaaDoorRows
import Derived.LaidByTextLater
import Derived.SevenTiedAt
import Derived.LaidSub
import Derived.LaidOnce
namespace Go.Proofs.YtklocdifkcnchaaDoor
open Go
set_option maxRecDepth 100000
theorem seatTie1 : Tryd.prog.laidByTextLater [("concord/api.ErrSyntax", Rows.laid_concord_api_ErrSyntax), ("concord/api.ErrDeep", Rows.laid_concord_api_ErrDeep), ("concord/lexer.classes", Rows.laid_concord_lexer_classes), ("concord/syntax.joins", Rows.laid_concord_syntax_joins)] [.sentinel, .sentinel, .data, .data] true :=
  Program.laidByTextLater_by_one 60 8 128 (by kernel_rfl) (by kernel_rfl) (by kernel_rfl) (by kernel_rfl) (by kernel_rfl) (by kernel_rfl) (fun _ _ => by kernel_rfl)
theorem noOwnUnsafe : Tryd.pinned.checked.prog.headLifts.contains "ownunsafe" = false := by kernel_rfl
theorem tie : Tryd.prog.laidByTextLater [("concord/api.ErrSyntax", Rows.laid_concord_api_ErrSyntax), ("concord/api.ErrDeep", Rows.laid_concord_api_ErrDeep), ("concord/lexer.classes", Rows.laid_concord_lexer_classes), ("concord/syntax.joins", Rows.laid_concord_syntax_joins)] [.sentinel, .sentinel, .data, .data] true :=
  Program.laidByTextLater.sub seatTie1 ["concord/api.ErrSyntax", "concord/api.ErrDeep", "concord/lexer.classes", "concord/syntax.joins"] (by kernel_rfl) (by kernel_rfl)
theorem syntaxWays_row_tie : Rows.syntaxWaysRow.laidByTextAt .later Tryd.pinned [.sentinel, .sentinel, .data, .data] true :=
  OpenClaim.laidByTextAt_later rfl rfl tie noOwnUnsafe
theorem syntaxWaysUpto_row_tie : Rows.syntaxWaysUptoRow.laidByTextAt .later Tryd.pinned [.sentinel, .sentinel, .data, .data] true :=
  OpenClaim.laidByTextAt_later rfl rfl tie noOwnUnsafe
end Go.Proofs.YtklocdifkcnchaaDoor
