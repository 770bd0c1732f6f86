/-
  DERIVED. GIVEN WITH THE SEED: THE CARDS: each row of YtdcmanhgekjhgaaDoorRows.lean that lists a variable, with what it lists TIED to the program's text (the seventh form; the later family's looks); each row that meets fmt, with fmt's text TOLD by the authors' own Lean function (tested against real Go, not proved from fmt's source: count such statements apart). THE CARD IS WHAT COUNTS. Prove the row's statement (the work); the ties are given (YtdcmanhgekjhgaaDoorTie.lean); close each card by the builder's one call (the guide's Derived/Test/ToyasCard.lean, 'card_holds'). Laid BY PROGRAM, IN A SANDBOX (cutbox-door.mjs). By AI agents, Wed Nov 11 2026. No macro, syntax, notation, axiom, sorry.
-/
import Derived.Test.YtdcmanhgekjhgaaDoorRows
import GoSem.ClaimSeven
namespace Go.Proofs.YtdcmanhgekjhgaaDoor
namespace Rows

/-- THE TIED CARD OF 'parquetrylaw13.ParseValues'. -/
def parseValuesCard : Claim7 := { stood := { row := parseValuesRow, standIns := [], harness := (true, "3254a92e0cea6785c3275fc30397b35559cddeedda4b46ba7ec4f1c49cd541ca"), looks := false }, kinds := [], alts := [], laidByText := true, laidKinds := [.data, .data, .data, .data], laidTests := true, laidLooks := .later }
def ParseValuesCardSaid : Prop := Claim7.holds Tryd.pinned (.plain (OpenSpec.ofChange parseValuesSpec)) parseValuesCard

/-- THE SECOND FORM's CARD OF 'parquetrylaw13.ParseValues'. -/
def parseValuesUptoCard : Claim7 := { stood := { row := parseValuesUptoRow, standIns := [], harness := (true, "3254a92e0cea6785c3275fc30397b35559cddeedda4b46ba7ec4f1c49cd541ca"), looks := false }, kinds := [], alts := [], laidByText := true, laidKinds := [.data, .data, .data, .data], laidTests := true, laidLooks := .later }
def ParseValuesUptoCardSaid : Prop := Claim7.holds Tryd.pinned (.plain (OpenSpec.upto parseValuesSpec)) parseValuesUptoCard
end Rows
end Go.Proofs.YtdcmanhgekjhgaaDoor
