/-
  DERIVED. GIVEN WITH THE SEED: THE CARDS: each row of YtlmnodbhfpgplaaDoorRows.lean that lists a variable, with what it lists TIED to the program's text (the seventh form; the later family's looks); each row that meets fmt, with fmt's text TOLD by the authors' own Lean function (tested against real Go, not proved from fmt's source: count such statements apart). THE CARD IS WHAT COUNTS. Prove the row's statement (the work); the ties are given (YtlmnodbhfpgplaaDoorTie.lean); close each card by the builder's one call (the guide's Derived/Test/ToyasCard.lean, 'card_holds'). Laid BY PROGRAM, IN A SANDBOX (cutbox-door.mjs). By AI agents, Wed Nov 11 2026. No macro, syntax, notation, axiom, sorry.
-/
import Derived.Test.YtlmnodbhfpgplaaDoorRows
import GoSem.ClaimSeven
namespace Go.Proofs.YtlmnodbhfpgplaaDoor
namespace Rows

/-- THE TIED CARD OF 'joinerylaw10.SkelWays'. -/
def skelWaysCard : Claim7 := { stood := { row := skelWaysRow, standIns := [], harness := (true, "bb7a9c815925da98ecf9d066ddfb3df734602f0f48b30deca9cae9afcb2934ed"), looks := true }, kinds := [], alts := [], laidByText := true, laidKinds := [.data, .data, .data, .sentinel, .sentinel, .data], laidTests := true, laidLooks := .later }
def SkelWaysCardSaid : Prop := Claim7.holds Tryd.pinned (.plain (OpenSpec.ofChange skelWaysSpec)) skelWaysCard

/-- THE TIED CARD OF 'joinerylaw10.SkelPlaces'. -/
def skelPlacesCard : Claim7 := { stood := { row := skelPlacesRow, standIns := [], harness := (true, "bb7a9c815925da98ecf9d066ddfb3df734602f0f48b30deca9cae9afcb2934ed"), looks := true }, kinds := [], alts := [], laidByText := true, laidKinds := [.data, .data, .data, .sentinel, .sentinel, .data], laidTests := true, laidLooks := .later }
def SkelPlacesCardSaid : Prop := Claim7.holds Tryd.pinned (.plain (OpenSpec.ofChange skelPlacesSpec)) skelPlacesCard

/-- THE TIED CARD OF 'joinerylaw10.SkelCuts'. -/
def skelCutsCard : Claim7 := { stood := { row := skelCutsRow, standIns := [], harness := (true, "bb7a9c815925da98ecf9d066ddfb3df734602f0f48b30deca9cae9afcb2934ed"), looks := true }, kinds := [], alts := [], laidByText := true, laidKinds := [.data, .data, .data, .sentinel, .sentinel, .data], laidTests := true, laidLooks := .later }
def SkelCutsCardSaid : Prop := Claim7.holds Tryd.pinned (.plain (OpenSpec.ofChange skelCutsSpec)) skelCutsCard

/-- THE SECOND FORM's CARD OF 'joinerylaw10.SkelWays'. -/
def skelWaysUptoCard : Claim7 := { stood := { row := skelWaysUptoRow, standIns := [], harness := (true, "bb7a9c815925da98ecf9d066ddfb3df734602f0f48b30deca9cae9afcb2934ed"), looks := true }, kinds := [], alts := [], laidByText := true, laidKinds := [.data, .data, .data, .sentinel, .sentinel, .data], laidTests := true, laidLooks := .later }
def SkelWaysUptoCardSaid : Prop := Claim7.holds Tryd.pinned (.plain (OpenSpec.upto skelWaysSpec)) skelWaysUptoCard

/-- THE SECOND FORM's CARD OF 'joinerylaw10.SkelPlaces'. -/
def skelPlacesUptoCard : Claim7 := { stood := { row := skelPlacesUptoRow, standIns := [], harness := (true, "bb7a9c815925da98ecf9d066ddfb3df734602f0f48b30deca9cae9afcb2934ed"), looks := true }, kinds := [], alts := [], laidByText := true, laidKinds := [.data, .data, .data, .sentinel, .sentinel, .data], laidTests := true, laidLooks := .later }
def SkelPlacesUptoCardSaid : Prop := Claim7.holds Tryd.pinned (.plain (OpenSpec.upto skelPlacesSpec)) skelPlacesUptoCard

/-- THE SECOND FORM's CARD OF 'joinerylaw10.SkelCuts'. -/
def skelCutsUptoCard : Claim7 := { stood := { row := skelCutsUptoRow, standIns := [], harness := (true, "bb7a9c815925da98ecf9d066ddfb3df734602f0f48b30deca9cae9afcb2934ed"), looks := true }, kinds := [], alts := [], laidByText := true, laidKinds := [.data, .data, .data, .sentinel, .sentinel, .data], laidTests := true, laidLooks := .later }
def SkelCutsUptoCardSaid : Prop := Claim7.holds Tryd.pinned (.plain (OpenSpec.upto skelCutsSpec)) skelCutsUptoCard
end Rows
end Go.Proofs.YtlmnodbhfpgplaaDoor
