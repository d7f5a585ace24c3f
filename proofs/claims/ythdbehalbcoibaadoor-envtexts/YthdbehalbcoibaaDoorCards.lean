/-
  DERIVED. GIVEN WITH THE SEED: THE CARDS: each row of YthdbehalbcoibaaDoorRows.lean that lists a variable, with what it lists TIED to the program's text (the seventh form; the later family's looks); each row that meets fmt, with fmt's text TOLD by the authors' own Lean function (tested against real Go, not proved from fmt's source: count such statements apart). THE CARD IS WHAT COUNTS. Prove the row's statement (the work); the ties are given (YthdbehalbcoibaaDoorTie.lean); close each card by the builder's one call (the guide's Derived/Test/ToyasCard.lean, 'card_holds'). Laid BY PROGRAM, IN A SANDBOX (cutbox-door.mjs). By AI agents, Wed Nov 11 2026. No macro, syntax, notation, axiom, sorry.
-/
import Derived.Test.YthdbehalbcoibaaDoorRows
import GoSem.ClaimSeven
namespace Go.Proofs.YthdbehalbcoibaaDoor
namespace Rows

/-- THE TIED CARD OF 'joinerylaw05.EnvTexts'. -/
def envTextsCard : Claim7 := { stood := { row := envTextsRow, standIns := [], harness := (true, "fbba60d36b145b58884b39872c8a0fdb236adb7bd8b503be22078db74d4d5e0c"), looks := true }, kinds := [], alts := [], laidByText := true, laidKinds := [.data, .data, .data], laidTests := true, laidLooks := .later }
def EnvTextsCardSaid : Prop := Claim7.holds Tryd.pinned (.plain (OpenSpec.ofChange envTextsSpec)) envTextsCard

/-- THE SECOND FORM's CARD OF 'joinerylaw05.EnvTexts'. -/
def envTextsUptoCard : Claim7 := { stood := { row := envTextsUptoRow, standIns := [], harness := (true, "fbba60d36b145b58884b39872c8a0fdb236adb7bd8b503be22078db74d4d5e0c"), looks := true }, kinds := [], alts := [], laidByText := true, laidKinds := [.data, .data, .data], laidTests := true, laidLooks := .later }
def EnvTextsUptoCardSaid : Prop := Claim7.holds Tryd.pinned (.plain (OpenSpec.upto envTextsSpec)) envTextsUptoCard
end Rows
end Go.Proofs.YthdbehalbcoibaaDoor
