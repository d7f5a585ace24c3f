/-
  DERIVED. GIVEN WITH THE SEED: THE CARDS: each row of YtjdhhpbgabdheaaDoorRows.lean that lists a variable, with what it lists TIED to the program's text (the seventh form; the later family's looks); each row that meets fmt, with fmt's text TOLD by the authors' own Lean function (tested against real Go, not proved from fmt's source: count such statements apart). THE CARD IS WHAT COUNTS. Prove the row's statement (the work); the ties are given (YtjdhhpbgabdheaaDoorTie.lean); close each card by the builder's one call (the guide's Derived/Test/ToyasCard.lean, 'card_holds'). Laid BY PROGRAM, IN A SANDBOX (cutbox-door.mjs). By AI agents, Wed Nov 11 2026. No macro, syntax, notation, axiom, sorry.
-/
import Derived.Test.YtjdhhpbgabdheaaDoorRows
import GoSem.ClaimSeven
namespace Go.Proofs.YtjdhhpbgabdheaaDoor
namespace Rows

/-- THE TIED CARD OF 'joinerylaw02.LocTexts'. -/
def locTextsCard : Claim7 := { stood := { row := locTextsRow, standIns := [], harness := (true, "55386484b12661c55953905cffa08144372c915c8698853bd2890dcf2091a524"), looks := false }, kinds := [], alts := [], laidByText := true, laidKinds := [.data, .data, .data], laidTests := true, laidLooks := .later }
def LocTextsCardSaid : Prop := Claim7.holds Tryd.pinned (.plain (OpenSpec.ofChange locTextsSpec)) locTextsCard

/-- THE TIED CARD OF 'joinerylaw02.LocParses'. -/
def locParsesCard : Claim7 := { stood := { row := locParsesRow, standIns := [], harness := (true, "55386484b12661c55953905cffa08144372c915c8698853bd2890dcf2091a524"), looks := false }, kinds := [], alts := [], laidByText := true, laidKinds := [.data, .data, .data], laidTests := true, laidLooks := .later }
def LocParsesCardSaid : Prop := Claim7.holds Tryd.pinned (.plain (OpenSpec.ofChange locParsesSpec)) locParsesCard

/-- THE TIED CARD OF 'joinerylaw02.LocBack'. -/
def locBackCard : Claim7 := { stood := { row := locBackRow, standIns := [], harness := (true, "55386484b12661c55953905cffa08144372c915c8698853bd2890dcf2091a524"), looks := false }, kinds := [], alts := [], laidByText := true, laidKinds := [.data, .data, .data], laidTests := true, laidLooks := .later }
def LocBackCardSaid : Prop := Claim7.holds Tryd.pinned (.plain (OpenSpec.ofChange locBackSpec)) locBackCard

/-- THE TIED CARD OF 'joinerylaw02.LocApart'. -/
def locApartCard : Claim7 := { stood := { row := locApartRow, standIns := [], harness := (true, "55386484b12661c55953905cffa08144372c915c8698853bd2890dcf2091a524"), looks := false }, kinds := [], alts := [], laidByText := true, laidKinds := [.data, .data, .data], laidTests := true, laidLooks := .later }
def LocApartCardSaid : Prop := Claim7.holds Tryd.pinned (.plain (OpenSpec.ofChange locApartSpec)) locApartCard

/-- THE TIED CARD OF 'joinerylaw02.LocFew'. -/
def locFewCard : Claim7 := { stood := { row := locFewRow, standIns := [], harness := (true, "55386484b12661c55953905cffa08144372c915c8698853bd2890dcf2091a524"), looks := false }, kinds := [], alts := [], laidByText := true, laidKinds := [.data, .data, .data], laidTests := true, laidLooks := .later }
def LocFewCardSaid : Prop := Claim7.holds Tryd.pinned (.plain (OpenSpec.ofChange locFewSpec)) locFewCard

/-- THE SECOND FORM's CARD OF 'joinerylaw02.LocTexts'. -/
def locTextsUptoCard : Claim7 := { stood := { row := locTextsUptoRow, standIns := [], harness := (true, "55386484b12661c55953905cffa08144372c915c8698853bd2890dcf2091a524"), looks := false }, kinds := [], alts := [], laidByText := true, laidKinds := [.data, .data, .data], laidTests := true, laidLooks := .later }
def LocTextsUptoCardSaid : Prop := Claim7.holds Tryd.pinned (.plain (OpenSpec.upto locTextsSpec)) locTextsUptoCard

/-- THE SECOND FORM's CARD OF 'joinerylaw02.LocParses'. -/
def locParsesUptoCard : Claim7 := { stood := { row := locParsesUptoRow, standIns := [], harness := (true, "55386484b12661c55953905cffa08144372c915c8698853bd2890dcf2091a524"), looks := false }, kinds := [], alts := [], laidByText := true, laidKinds := [.data, .data, .data], laidTests := true, laidLooks := .later }
def LocParsesUptoCardSaid : Prop := Claim7.holds Tryd.pinned (.plain (OpenSpec.upto locParsesSpec)) locParsesUptoCard

/-- THE SECOND FORM's CARD OF 'joinerylaw02.LocBack'. -/
def locBackUptoCard : Claim7 := { stood := { row := locBackUptoRow, standIns := [], harness := (true, "55386484b12661c55953905cffa08144372c915c8698853bd2890dcf2091a524"), looks := false }, kinds := [], alts := [], laidByText := true, laidKinds := [.data, .data, .data], laidTests := true, laidLooks := .later }
def LocBackUptoCardSaid : Prop := Claim7.holds Tryd.pinned (.plain (OpenSpec.upto locBackSpec)) locBackUptoCard

/-- THE SECOND FORM's CARD OF 'joinerylaw02.LocApart'. -/
def locApartUptoCard : Claim7 := { stood := { row := locApartUptoRow, standIns := [], harness := (true, "55386484b12661c55953905cffa08144372c915c8698853bd2890dcf2091a524"), looks := false }, kinds := [], alts := [], laidByText := true, laidKinds := [.data, .data, .data], laidTests := true, laidLooks := .later }
def LocApartUptoCardSaid : Prop := Claim7.holds Tryd.pinned (.plain (OpenSpec.upto locApartSpec)) locApartUptoCard

/-- THE SECOND FORM's CARD OF 'joinerylaw02.LocFew'. -/
def locFewUptoCard : Claim7 := { stood := { row := locFewUptoRow, standIns := [], harness := (true, "55386484b12661c55953905cffa08144372c915c8698853bd2890dcf2091a524"), looks := false }, kinds := [], alts := [], laidByText := true, laidKinds := [.data, .data, .data], laidTests := true, laidLooks := .later }
def LocFewUptoCardSaid : Prop := Claim7.holds Tryd.pinned (.plain (OpenSpec.upto locFewSpec)) locFewUptoCard
end Rows
end Go.Proofs.YtjdhhpbgabdheaaDoor
