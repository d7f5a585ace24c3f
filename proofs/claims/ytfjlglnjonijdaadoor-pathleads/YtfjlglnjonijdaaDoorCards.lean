/-
  DERIVED. GIVEN WITH THE SEED: THE CARDS: each row of YtfjlglnjonijdaaDoorRows.lean that lists a variable, with what it lists TIED to the program's text (the seventh form; the later family's looks); each row that meets fmt, with fmt's text TOLD by the authors' own Lean function (tested against real Go, not proved from fmt's source: count such statements apart). THE CARD IS WHAT COUNTS. Prove the row's statement (the work); the ties are given (YtfjlglnjonijdaaDoorTie.lean); close each card by the builder's one call (the guide's Derived/Test/ToyasCard.lean, 'card_holds'). Laid BY PROGRAM, IN A SANDBOX (cutbox-door.mjs). By AI agents, Wed Nov 11 2026. No macro, syntax, notation, axiom, sorry.
-/
import Derived.Test.YtfjlglnjonijdaaDoorRows
import GoSem.ClaimSeven
namespace Go.Proofs.YtfjlglnjonijdaaDoor
namespace Rows

/-- THE TIED CARD OF 'joinerylaw09.PathLeads'. -/
def pathLeadsCard : Claim7 := { stood := { row := pathLeadsRow, standIns := [], harness := (true, "85d8c49a36e6cdf7e2a7b623053a3bb5d67f5ad9ffb538ce78b57758d3dcef19"), looks := true }, kinds := [], alts := [], laidByText := true, laidKinds := [.data, .data, .data, .sentinel, .sentinel, .data], laidTests := true, laidLooks := .later }
def PathLeadsCardSaid : Prop := Claim7.holds Tryd.pinned (.plain (OpenSpec.ofChange pathLeadsSpec)) pathLeadsCard

/-- THE TIED CARD OF 'joinerylaw09.PathOnce'. -/
def pathOnceCard : Claim7 := { stood := { row := pathOnceRow, standIns := [], harness := (true, "85d8c49a36e6cdf7e2a7b623053a3bb5d67f5ad9ffb538ce78b57758d3dcef19"), looks := true }, kinds := [], alts := [], laidByText := true, laidKinds := [.data, .data, .data, .sentinel, .sentinel, .data], laidTests := true, laidLooks := .later }
def PathOnceCardSaid : Prop := Claim7.holds Tryd.pinned (.plain (OpenSpec.ofChange pathOnceSpec)) pathOnceCard

/-- THE TIED CARD OF 'joinerylaw09.PathSteps'. -/
def pathStepsCard : Claim7 := { stood := { row := pathStepsRow, standIns := [], harness := (true, "85d8c49a36e6cdf7e2a7b623053a3bb5d67f5ad9ffb538ce78b57758d3dcef19"), looks := true }, kinds := [], alts := [], laidByText := true, laidKinds := [.data, .data, .data, .sentinel, .sentinel, .data], laidTests := true, laidLooks := .later }
def PathStepsCardSaid : Prop := Claim7.holds Tryd.pinned (.plain (OpenSpec.ofChange pathStepsSpec)) pathStepsCard

/-- THE TIED CARD OF 'joinerylaw09.PathAlong'. -/
def pathAlongCard : Claim7 := { stood := { row := pathAlongRow, standIns := [], harness := (true, "85d8c49a36e6cdf7e2a7b623053a3bb5d67f5ad9ffb538ce78b57758d3dcef19"), looks := true }, kinds := [], alts := [], laidByText := true, laidKinds := [.data, .data, .data, .sentinel, .sentinel, .data], laidTests := true, laidLooks := .later }
def PathAlongCardSaid : Prop := Claim7.holds Tryd.pinned (.plain (OpenSpec.ofChange pathAlongSpec)) pathAlongCard

/-- THE SECOND FORM's CARD OF 'joinerylaw09.PathLeads'. -/
def pathLeadsUptoCard : Claim7 := { stood := { row := pathLeadsUptoRow, standIns := [], harness := (true, "85d8c49a36e6cdf7e2a7b623053a3bb5d67f5ad9ffb538ce78b57758d3dcef19"), looks := true }, kinds := [], alts := [], laidByText := true, laidKinds := [.data, .data, .data, .sentinel, .sentinel, .data], laidTests := true, laidLooks := .later }
def PathLeadsUptoCardSaid : Prop := Claim7.holds Tryd.pinned (.plain (OpenSpec.upto pathLeadsSpec)) pathLeadsUptoCard

/-- THE SECOND FORM's CARD OF 'joinerylaw09.PathOnce'. -/
def pathOnceUptoCard : Claim7 := { stood := { row := pathOnceUptoRow, standIns := [], harness := (true, "85d8c49a36e6cdf7e2a7b623053a3bb5d67f5ad9ffb538ce78b57758d3dcef19"), looks := true }, kinds := [], alts := [], laidByText := true, laidKinds := [.data, .data, .data, .sentinel, .sentinel, .data], laidTests := true, laidLooks := .later }
def PathOnceUptoCardSaid : Prop := Claim7.holds Tryd.pinned (.plain (OpenSpec.upto pathOnceSpec)) pathOnceUptoCard

/-- THE SECOND FORM's CARD OF 'joinerylaw09.PathSteps'. -/
def pathStepsUptoCard : Claim7 := { stood := { row := pathStepsUptoRow, standIns := [], harness := (true, "85d8c49a36e6cdf7e2a7b623053a3bb5d67f5ad9ffb538ce78b57758d3dcef19"), looks := true }, kinds := [], alts := [], laidByText := true, laidKinds := [.data, .data, .data, .sentinel, .sentinel, .data], laidTests := true, laidLooks := .later }
def PathStepsUptoCardSaid : Prop := Claim7.holds Tryd.pinned (.plain (OpenSpec.upto pathStepsSpec)) pathStepsUptoCard

/-- THE SECOND FORM's CARD OF 'joinerylaw09.PathAlong'. -/
def pathAlongUptoCard : Claim7 := { stood := { row := pathAlongUptoRow, standIns := [], harness := (true, "85d8c49a36e6cdf7e2a7b623053a3bb5d67f5ad9ffb538ce78b57758d3dcef19"), looks := true }, kinds := [], alts := [], laidByText := true, laidKinds := [.data, .data, .data, .sentinel, .sentinel, .data], laidTests := true, laidLooks := .later }
def PathAlongUptoCardSaid : Prop := Claim7.holds Tryd.pinned (.plain (OpenSpec.upto pathAlongSpec)) pathAlongUptoCard
end Rows
end Go.Proofs.YtfjlglnjonijdaaDoor
