/-
  DERIVED. GIVEN WITH THE SEED: THE CARDS: each row of YtoglgicmnhklbaaDoorRows.lean that lists a variable, with what it lists TIED to the program's text (the seventh form; the later family's looks); each row that meets fmt, with fmt's text TOLD by the authors' own Lean function (tested against real Go, not proved from fmt's source: count such statements apart). THE CARD IS WHAT COUNTS. Prove the row's statement (the work); the ties are given (YtoglgicmnhklbaaDoorTie.lean); close each card by the builder's one call (the guide's Derived/Test/ToyasCard.lean, 'card_holds'). Laid BY PROGRAM, IN A SANDBOX (cutbox-door.mjs). By AI agents, Wed Nov 11 2026. No macro, syntax, notation, axiom, sorry.
-/
import Derived.Test.YtoglgicmnhklbaaDoorRows
import GoSem.ClaimSeven
namespace Go.Proofs.YtoglgicmnhklbaaDoor
namespace Rows

/-- THE TIED CARD OF 'concordlaw02.FrameScans'. -/
def frameScansCard : Claim7 := { stood := { row := frameScansRow, standIns := [], harness := (true, "55a6df21a9a3402aeb58a938385e88d2db984fff96ba09bb1777fe44be5c1cd7"), looks := false }, kinds := [], alts := [], laidByText := true, laidKinds := [.sentinel, .sentinel, .sentinel, .sentinel, .data], laidTests := true, laidLooks := .later }
def FrameScansCardSaid : Prop := Claim7.holds Tryd.pinned (.plain (OpenSpec.ofChange frameScansSpec)) frameScansCard

/-- THE TIED CARD OF 'concordlaw02.FrameChains'. -/
def frameChainsCard : Claim7 := { stood := { row := frameChainsRow, standIns := [], harness := (true, "55a6df21a9a3402aeb58a938385e88d2db984fff96ba09bb1777fe44be5c1cd7"), looks := false }, kinds := [], alts := [], laidByText := true, laidKinds := [.sentinel, .sentinel, .sentinel, .sentinel, .data], laidTests := true, laidLooks := .later }
def FrameChainsCardSaid : Prop := Claim7.holds Tryd.pinned (.plain (OpenSpec.ofChange frameChainsSpec)) frameChainsCard

/-- THE TIED CARD OF 'concordlaw02.FrameOwnsScan'. -/
def frameOwnsScanCard : Claim7 := { stood := { row := frameOwnsScanRow, standIns := [], harness := (true, "55a6df21a9a3402aeb58a938385e88d2db984fff96ba09bb1777fe44be5c1cd7"), looks := false }, kinds := [], alts := [], laidByText := true, laidKinds := [.sentinel, .sentinel, .sentinel, .sentinel, .data], laidTests := true, laidLooks := .later }
def FrameOwnsScanCardSaid : Prop := Claim7.holds Tryd.pinned (.plain (OpenSpec.ofChange frameOwnsScanSpec)) frameOwnsScanCard

/-- THE SECOND FORM's CARD OF 'concordlaw02.FrameScans'. -/
def frameScansUptoCard : Claim7 := { stood := { row := frameScansUptoRow, standIns := [], harness := (true, "55a6df21a9a3402aeb58a938385e88d2db984fff96ba09bb1777fe44be5c1cd7"), looks := false }, kinds := [], alts := [], laidByText := true, laidKinds := [.sentinel, .sentinel, .sentinel, .sentinel, .data], laidTests := true, laidLooks := .later }
def FrameScansUptoCardSaid : Prop := Claim7.holds Tryd.pinned (.plain (OpenSpec.upto frameScansSpec)) frameScansUptoCard

/-- THE SECOND FORM's CARD OF 'concordlaw02.FrameChains'. -/
def frameChainsUptoCard : Claim7 := { stood := { row := frameChainsUptoRow, standIns := [], harness := (true, "55a6df21a9a3402aeb58a938385e88d2db984fff96ba09bb1777fe44be5c1cd7"), looks := false }, kinds := [], alts := [], laidByText := true, laidKinds := [.sentinel, .sentinel, .sentinel, .sentinel, .data], laidTests := true, laidLooks := .later }
def FrameChainsUptoCardSaid : Prop := Claim7.holds Tryd.pinned (.plain (OpenSpec.upto frameChainsSpec)) frameChainsUptoCard

/-- THE SECOND FORM's CARD OF 'concordlaw02.FrameOwnsScan'. -/
def frameOwnsScanUptoCard : Claim7 := { stood := { row := frameOwnsScanUptoRow, standIns := [], harness := (true, "55a6df21a9a3402aeb58a938385e88d2db984fff96ba09bb1777fe44be5c1cd7"), looks := false }, kinds := [], alts := [], laidByText := true, laidKinds := [.sentinel, .sentinel, .sentinel, .sentinel, .data], laidTests := true, laidLooks := .later }
def FrameOwnsScanUptoCardSaid : Prop := Claim7.holds Tryd.pinned (.plain (OpenSpec.upto frameOwnsScanSpec)) frameOwnsScanUptoCard
end Rows
end Go.Proofs.YtoglgicmnhklbaaDoor
