/-
  DERIVED. GIVEN WITH THE SEED: THE CARDS: each row of YtgocelaghggpmaaGreatDoorRows.lean that lists a variable, with what it lists TIED to the program's text (the seventh form; the later family's looks); each row that meets fmt, with fmt's text TOLD by the authors' own Lean function (tested against real Go, not proved from fmt's source: count such statements apart). THE CARD IS WHAT COUNTS. Prove the row's statement (the work); the ties are given (YtgocelaghggpmaaGreatDoorTie.lean); close each card by the builder's one call (the guide's Derived/Test/ToyasCard.lean, 'card_holds'). Laid BY PROGRAM, IN A SANDBOX (cutbox-door.mjs). By AI agents, Wed Nov 11 2026. No macro, syntax, notation, axiom, sorry.
-/
import Derived.Test.YtgocelaghggpmaaGreatDoorRows
import GoSem.ClaimSeven
namespace Go.Proofs.YtgocelaghggpmaaGreatDoor
namespace Rows

/-- THE TIED CARD OF 'orrerylaw12.LexTakes'. -/
def lexTakesCard : Claim7 := { stood := { row := lexTakesRow, standIns := [], harness := (true, "8797157614a5afe8a5b5f93c0c1b2ebb4d12f4ce3e2dd8ed0fd022a96cb84469"), looks := true }, kinds := [], alts := [], laidByText := true, laidKinds := [.data, .data, .data, .sentinel, .sentinel, .listed, .data], laidTests := true, laidLooks := .later }
def LexTakesCardSaid : Prop := Claim7.holds Tryz.pinned (.plain (OpenSpec.ofChange lexTakesSpec)) lexTakesCard

/-- THE SECOND FORM's CARD OF 'orrerylaw12.LexTakes'. -/
def lexTakesUptoCard : Claim7 := { stood := { row := lexTakesUptoRow, standIns := [], harness := (true, "8797157614a5afe8a5b5f93c0c1b2ebb4d12f4ce3e2dd8ed0fd022a96cb84469"), looks := true }, kinds := [], alts := [], laidByText := true, laidKinds := [.data, .data, .data, .sentinel, .sentinel, .listed, .data], laidTests := true, laidLooks := .later }
def LexTakesUptoCardSaid : Prop := Claim7.holds Tryz.pinned (.plain (OpenSpec.upto lexTakesSpec)) lexTakesUptoCard
end Rows
end Go.Proofs.YtgocelaghggpmaaGreatDoor
