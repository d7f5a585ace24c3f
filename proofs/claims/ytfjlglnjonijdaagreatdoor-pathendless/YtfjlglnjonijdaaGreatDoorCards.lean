/-
  DERIVED. GIVEN WITH THE SEED: THE CARDS: each row of YtfjlglnjonijdaaGreatDoorRows.lean that lists a variable, with what it lists TIED to the program's text (the seventh form; the later family's looks); each row that meets fmt, with fmt's text TOLD by the authors' own Lean function (tested against real Go, not proved from fmt's source: count such statements apart). THE CARD IS WHAT COUNTS. Prove the row's statement (the work); the ties are given (YtfjlglnjonijdaaGreatDoorTie.lean); close each card by the builder's one call (the guide's Derived/Test/ToyasCard.lean, 'card_holds'). Laid BY PROGRAM, IN A SANDBOX (cutbox-door.mjs). By AI agents, Wed Nov 11 2026. No macro, syntax, notation, axiom, sorry.
-/
import Derived.Test.YtfjlglnjonijdaaGreatDoorRows
import GoSem.ClaimSeven
namespace Go.Proofs.YtfjlglnjonijdaaGreatDoor
namespace Rows

/-- THE TIED CARD OF 'joinerylaw09.PathRuns'. -/
def pathRunsCard : Claim7 := { stood := { row := pathRunsRow, standIns := [], harness := (true, "a13f122da0bfee056000460c7d1641362e097b5a11b51611792e40ab0dc78019"), looks := true }, kinds := [], alts := [], laidByText := true, laidKinds := [.data, .data, .data, .sentinel, .sentinel, .data], laidTests := true, laidLooks := .later }
def PathRunsCardSaid : Prop := Claim7.holds Tryz.pinned (.plain (OpenSpec.ofChange pathRunsSpec)) pathRunsCard

/-- THE TIED CARD OF 'joinerylaw09.PathEndless'. -/
def pathEndlessCard : Claim7 := { stood := { row := pathEndlessRow, standIns := [], harness := (true, "a13f122da0bfee056000460c7d1641362e097b5a11b51611792e40ab0dc78019"), looks := true }, kinds := [], alts := [], laidByText := true, laidKinds := [.data, .data, .data, .sentinel, .sentinel, .data], laidTests := true, laidLooks := .later }
def PathEndlessCardSaid : Prop := Claim7.holds Tryz.pinned (.plain (OpenSpec.ofChange pathEndlessSpec)) pathEndlessCard

/-- THE SECOND FORM's CARD OF 'joinerylaw09.PathRuns'. -/
def pathRunsUptoCard : Claim7 := { stood := { row := pathRunsUptoRow, standIns := [], harness := (true, "a13f122da0bfee056000460c7d1641362e097b5a11b51611792e40ab0dc78019"), looks := true }, kinds := [], alts := [], laidByText := true, laidKinds := [.data, .data, .data, .sentinel, .sentinel, .data], laidTests := true, laidLooks := .later }
def PathRunsUptoCardSaid : Prop := Claim7.holds Tryz.pinned (.plain (OpenSpec.upto pathRunsSpec)) pathRunsUptoCard

/-- THE SECOND FORM's CARD OF 'joinerylaw09.PathEndless'. -/
def pathEndlessUptoCard : Claim7 := { stood := { row := pathEndlessUptoRow, standIns := [], harness := (true, "a13f122da0bfee056000460c7d1641362e097b5a11b51611792e40ab0dc78019"), looks := true }, kinds := [], alts := [], laidByText := true, laidKinds := [.data, .data, .data, .sentinel, .sentinel, .data], laidTests := true, laidLooks := .later }
def PathEndlessUptoCardSaid : Prop := Claim7.holds Tryz.pinned (.plain (OpenSpec.upto pathEndlessSpec)) pathEndlessUptoCard
end Rows
end Go.Proofs.YtfjlglnjonijdaaGreatDoor
