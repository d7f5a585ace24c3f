/-
  DERIVED. GIVEN WITH THE SEED: THE CARDS: each row of YtfllkagbphgjlaaDoorRows.lean that lists a variable, with what it lists TIED to the program's text (the seventh form; the later family's looks); each row that meets fmt, with fmt's text TOLD by the authors' own Lean function (tested against real Go, not proved from fmt's source: count such statements apart). THE CARD IS WHAT COUNTS. Prove the row's statement (the work); the ties are given (YtfllkagbphgjlaaDoorTie.lean); close each card by the builder's one call (the guide's Derived/Test/ToyasCard.lean, 'card_holds'). Laid BY PROGRAM, IN A SANDBOX (cutbox-door.mjs). By AI agents, Wed Nov 11 2026. No macro, syntax, notation, axiom, sorry.
-/
import Derived.Test.YtfllkagbphgjlaaDoorRows
import GoSem.ClaimSeven
namespace Go.Proofs.YtfllkagbphgjlaaDoor
namespace Rows

/-- THE TIED CARD OF 'joinerylaw07.StepRight'. -/
def stepRightCard : Claim7 := { stood := { row := stepRightRow, standIns := [], harness := (true, "9e219f06028bac62f65c9697895c4f5bb7193534e7e45c6dee6142812d1ee79c"), looks := true }, kinds := [], alts := [], laidByText := true, laidKinds := [.data, .data, .data, .sentinel, .sentinel, .data], laidTests := true, laidLooks := .later }
def StepRightCardSaid : Prop := Claim7.holds Tryd.pinned (.plain (OpenSpec.ofChange stepRightSpec)) stepRightCard

/-- THE TIED CARD OF 'joinerylaw07.StepMoves'. -/
def stepMovesCard : Claim7 := { stood := { row := stepMovesRow, standIns := [], harness := (true, "9e219f06028bac62f65c9697895c4f5bb7193534e7e45c6dee6142812d1ee79c"), looks := true }, kinds := [], alts := [], laidByText := true, laidKinds := [.data, .data, .data, .sentinel, .sentinel, .data], laidTests := true, laidLooks := .later }
def StepMovesCardSaid : Prop := Claim7.holds Tryd.pinned (.plain (OpenSpec.ofChange stepMovesSpec)) stepMovesCard

/-- THE TIED CARD OF 'joinerylaw07.StepKeeps'. -/
def stepKeepsCard : Claim7 := { stood := { row := stepKeepsRow, standIns := [], harness := (true, "9e219f06028bac62f65c9697895c4f5bb7193534e7e45c6dee6142812d1ee79c"), looks := true }, kinds := [], alts := [], laidByText := true, laidKinds := [.data, .data, .data, .sentinel, .sentinel, .data], laidTests := true, laidLooks := .later }
def StepKeepsCardSaid : Prop := Claim7.holds Tryd.pinned (.plain (OpenSpec.ofChange stepKeepsSpec)) stepKeepsCard

/-- THE TIED CARD OF 'joinerylaw07.StepHeaps'. -/
def stepHeapsCard : Claim7 := { stood := { row := stepHeapsRow, standIns := [], harness := (true, "9e219f06028bac62f65c9697895c4f5bb7193534e7e45c6dee6142812d1ee79c"), looks := true }, kinds := [], alts := [], laidByText := true, laidKinds := [.data, .data, .data, .sentinel, .sentinel, .data], laidTests := true, laidLooks := .later }
def StepHeapsCardSaid : Prop := Claim7.holds Tryd.pinned (.plain (OpenSpec.ofChange stepHeapsSpec)) stepHeapsCard

/-- THE SECOND FORM's CARD OF 'joinerylaw07.StepRight'. -/
def stepRightUptoCard : Claim7 := { stood := { row := stepRightUptoRow, standIns := [], harness := (true, "9e219f06028bac62f65c9697895c4f5bb7193534e7e45c6dee6142812d1ee79c"), looks := true }, kinds := [], alts := [], laidByText := true, laidKinds := [.data, .data, .data, .sentinel, .sentinel, .data], laidTests := true, laidLooks := .later }
def StepRightUptoCardSaid : Prop := Claim7.holds Tryd.pinned (.plain (OpenSpec.upto stepRightSpec)) stepRightUptoCard

/-- THE SECOND FORM's CARD OF 'joinerylaw07.StepMoves'. -/
def stepMovesUptoCard : Claim7 := { stood := { row := stepMovesUptoRow, standIns := [], harness := (true, "9e219f06028bac62f65c9697895c4f5bb7193534e7e45c6dee6142812d1ee79c"), looks := true }, kinds := [], alts := [], laidByText := true, laidKinds := [.data, .data, .data, .sentinel, .sentinel, .data], laidTests := true, laidLooks := .later }
def StepMovesUptoCardSaid : Prop := Claim7.holds Tryd.pinned (.plain (OpenSpec.upto stepMovesSpec)) stepMovesUptoCard

/-- THE SECOND FORM's CARD OF 'joinerylaw07.StepKeeps'. -/
def stepKeepsUptoCard : Claim7 := { stood := { row := stepKeepsUptoRow, standIns := [], harness := (true, "9e219f06028bac62f65c9697895c4f5bb7193534e7e45c6dee6142812d1ee79c"), looks := true }, kinds := [], alts := [], laidByText := true, laidKinds := [.data, .data, .data, .sentinel, .sentinel, .data], laidTests := true, laidLooks := .later }
def StepKeepsUptoCardSaid : Prop := Claim7.holds Tryd.pinned (.plain (OpenSpec.upto stepKeepsSpec)) stepKeepsUptoCard

/-- THE SECOND FORM's CARD OF 'joinerylaw07.StepHeaps'. -/
def stepHeapsUptoCard : Claim7 := { stood := { row := stepHeapsUptoRow, standIns := [], harness := (true, "9e219f06028bac62f65c9697895c4f5bb7193534e7e45c6dee6142812d1ee79c"), looks := true }, kinds := [], alts := [], laidByText := true, laidKinds := [.data, .data, .data, .sentinel, .sentinel, .data], laidTests := true, laidLooks := .later }
def StepHeapsUptoCardSaid : Prop := Claim7.holds Tryd.pinned (.plain (OpenSpec.upto stepHeapsSpec)) stepHeapsUptoCard
end Rows
end Go.Proofs.YtfllkagbphgjlaaDoor
