/-
  DERIVED. GIVEN WITH THE SEED: THE CARDS: each row of YtlmnodbhfpgplaaGreatDoorRows.lean that lists a variable, with what it lists TIED to the program's text (the seventh form; the later family's looks); each row that meets fmt, with fmt's text TOLD by the authors' own Lean function (tested against real Go, not proved from fmt's source: count such statements apart). THE CARD IS WHAT COUNTS. Prove the row's statement (the work); the ties are given (YtlmnodbhfpgplaaGreatDoorTie.lean); close each card by the builder's one call (the guide's Derived/Test/ToyasCard.lean, 'card_holds'). Laid BY PROGRAM, IN A SANDBOX (cutbox-door.mjs). By AI agents, Wed Nov 11 2026. No macro, syntax, notation, axiom, sorry.
-/
import Derived.Test.YtlmnodbhfpgplaaGreatDoorRows
import GoSem.ClaimSeven
namespace Go.Proofs.YtlmnodbhfpgplaaGreatDoor
namespace Rows

/-- THE TIED CARD OF 'joinerylaw08.RunGoes'. -/
def runGoesCard : Claim7 := { stood := { row := runGoesRow, standIns := [], harness := (true, "7b5f62ddf1ea22e8a5134f6493d0f6c77b8bb51a2a24f88c9bac7ab327a3caa4"), looks := true }, kinds := [], alts := [], laidByText := true, laidKinds := [.data, .data, .data, .sentinel, .sentinel, .data], laidTests := true, laidLooks := .later }
def RunGoesCardSaid : Prop := Claim7.holds Tryz.pinned (.plain (OpenSpec.ofChange runGoesSpec)) runGoesCard

/-- THE TIED CARD OF 'joinerylaw10.SkelBuilds'. -/
def skelBuildsCard : Claim7 := { stood := { row := skelBuildsRow, standIns := [], harness := (true, "7b5f62ddf1ea22e8a5134f6493d0f6c77b8bb51a2a24f88c9bac7ab327a3caa4"), looks := true }, kinds := [], alts := [], laidByText := true, laidKinds := [.data, .data, .data, .sentinel, .sentinel, .data], laidTests := true, laidLooks := .later }
def SkelBuildsCardSaid : Prop := Claim7.holds Tryz.pinned (.plain (OpenSpec.ofChange skelBuildsSpec)) skelBuildsCard

/-- THE SECOND FORM's CARD OF 'joinerylaw08.RunGoes'. -/
def runGoesUptoCard : Claim7 := { stood := { row := runGoesUptoRow, standIns := [], harness := (true, "7b5f62ddf1ea22e8a5134f6493d0f6c77b8bb51a2a24f88c9bac7ab327a3caa4"), looks := true }, kinds := [], alts := [], laidByText := true, laidKinds := [.data, .data, .data, .sentinel, .sentinel, .data], laidTests := true, laidLooks := .later }
def RunGoesUptoCardSaid : Prop := Claim7.holds Tryz.pinned (.plain (OpenSpec.upto runGoesSpec)) runGoesUptoCard

/-- THE SECOND FORM's CARD OF 'joinerylaw10.SkelBuilds'. -/
def skelBuildsUptoCard : Claim7 := { stood := { row := skelBuildsUptoRow, standIns := [], harness := (true, "7b5f62ddf1ea22e8a5134f6493d0f6c77b8bb51a2a24f88c9bac7ab327a3caa4"), looks := true }, kinds := [], alts := [], laidByText := true, laidKinds := [.data, .data, .data, .sentinel, .sentinel, .data], laidTests := true, laidLooks := .later }
def SkelBuildsUptoCardSaid : Prop := Claim7.holds Tryz.pinned (.plain (OpenSpec.upto skelBuildsSpec)) skelBuildsUptoCard
end Rows
end Go.Proofs.YtlmnodbhfpgplaaGreatDoor
