/-
  DERIVED. GIVEN WITH THE SEED: THE CARDS: each row of YtjffmlbopmmoaaaGreatDoorRows.lean that lists a variable, with what it lists TIED to the program's text (the seventh form; the later family's looks); each row that meets fmt, with fmt's text TOLD by the authors' own Lean function (tested against real Go, not proved from fmt's source: count such statements apart). THE CARD IS WHAT COUNTS. Prove the row's statement (the work); the ties are given (YtjffmlbopmmoaaaGreatDoorTie.lean); close each card by the builder's one call (the guide's Derived/Test/ToyasCard.lean, 'card_holds'). Laid BY PROGRAM, IN A SANDBOX (cutbox-door.mjs). By AI agents, Wed Nov 11 2026. No macro, syntax, notation, axiom, sorry.
-/
import Derived.Test.YtjffmlbopmmoaaaGreatDoorRows
import GoSem.ClaimSeven
namespace Go.Proofs.YtjffmlbopmmoaaaGreatDoor
namespace Rows

/-- THE TIED CARD OF 'joinerylaw07.StepDoes'. -/
def stepDoesCard : Claim7 := { stood := { row := stepDoesRow, standIns := [], harness := (true, "bf81c4b1dc0ca6ea9159fc14ce51886fca80ec5e9673abae2d0041ec75faca7f"), looks := true }, kinds := [], alts := [], laidByText := true, laidKinds := [.data, .data, .data, .sentinel, .sentinel, .data], laidTests := true, laidLooks := .later }
def StepDoesCardSaid : Prop := Claim7.holds Tryz.pinned (.plain (OpenSpec.ofChange stepDoesSpec)) stepDoesCard

/-- THE TIED CARD OF 'joinerylaw07.StepAnswers'. -/
def stepAnswersCard : Claim7 := { stood := { row := stepAnswersRow, standIns := [], harness := (true, "bf81c4b1dc0ca6ea9159fc14ce51886fca80ec5e9673abae2d0041ec75faca7f"), looks := true }, kinds := [], alts := [], laidByText := true, laidKinds := [.data, .data, .data, .sentinel, .sentinel, .data], laidTests := true, laidLooks := .later }
def StepAnswersCardSaid : Prop := Claim7.holds Tryz.pinned (.plain (OpenSpec.ofChange stepAnswersSpec)) stepAnswersCard

/-- THE SECOND FORM's CARD OF 'joinerylaw07.StepDoes'. -/
def stepDoesUptoCard : Claim7 := { stood := { row := stepDoesUptoRow, standIns := [], harness := (true, "bf81c4b1dc0ca6ea9159fc14ce51886fca80ec5e9673abae2d0041ec75faca7f"), looks := true }, kinds := [], alts := [], laidByText := true, laidKinds := [.data, .data, .data, .sentinel, .sentinel, .data], laidTests := true, laidLooks := .later }
def StepDoesUptoCardSaid : Prop := Claim7.holds Tryz.pinned (.plain (OpenSpec.upto stepDoesSpec)) stepDoesUptoCard

/-- THE SECOND FORM's CARD OF 'joinerylaw07.StepAnswers'. -/
def stepAnswersUptoCard : Claim7 := { stood := { row := stepAnswersUptoRow, standIns := [], harness := (true, "bf81c4b1dc0ca6ea9159fc14ce51886fca80ec5e9673abae2d0041ec75faca7f"), looks := true }, kinds := [], alts := [], laidByText := true, laidKinds := [.data, .data, .data, .sentinel, .sentinel, .data], laidTests := true, laidLooks := .later }
def StepAnswersUptoCardSaid : Prop := Claim7.holds Tryz.pinned (.plain (OpenSpec.upto stepAnswersSpec)) stepAnswersUptoCard
end Rows
end Go.Proofs.YtjffmlbopmmoaaaGreatDoor
