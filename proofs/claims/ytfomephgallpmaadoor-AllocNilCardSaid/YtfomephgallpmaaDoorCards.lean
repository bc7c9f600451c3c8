/-
  DERIVED. GIVEN WITH THE SEED: THE CARDS: each row of YtfomephgallpmaaDoorRows.lean that lists a variable, with what it lists TIED to the program's text (the seventh form; the later family's looks); each row that meets fmt, with fmt's text TOLD by the authors' own Lean function (tested against real Go, not proved from fmt's source: count such statements apart). THE CARD IS WHAT COUNTS. Prove the row's statement (the work); the ties are given (YtfomephgallpmaaDoorTie.lean); close each card by the builder's one call (the guide's Derived/Test/ToyasCard.lean, 'card_holds'). Laid BY PROGRAM, IN A SANDBOX (cutbox-door.mjs). By AI agents, Wed Nov 11 2026. No macro, syntax, notation, axiom, sorry.
-/
import Derived.Test.YtfomephgallpmaaDoorRows
import GoSem.ClaimSeven
namespace Go.Proofs.YtfomephgallpmaaDoor
namespace Rows

/-- THE TIED CARD OF 'sidingslaw11.AllocAlone'. -/
def allocAloneCard : Claim7 := { stood := { row := allocAloneRow, standIns := [], harness := (true, "503a3fcb6b0b4a361409c5c46aea0dc0f2da2f7ed2ae550eca4597f49b55f82b"), looks := false }, kinds := [], alts := [], laidByText := true, laidKinds := [.data, .data, .data], laidTests := true, laidLooks := .later }
def AllocAloneCardSaid : Prop := Claim7.holds Tryd.pinned (.plain (OpenSpec.ofChange allocAloneSpec)) allocAloneCard

/-- THE TIED CARD OF 'sidingslaw11.AllocApart'. -/
def allocApartCard : Claim7 := { stood := { row := allocApartRow, standIns := [], harness := (true, "503a3fcb6b0b4a361409c5c46aea0dc0f2da2f7ed2ae550eca4597f49b55f82b"), looks := false }, kinds := [], alts := [], laidByText := true, laidKinds := [.data, .data, .data], laidTests := true, laidLooks := .later }
def AllocApartCardSaid : Prop := Claim7.holds Tryd.pinned (.plain (OpenSpec.ofChange allocApartSpec)) allocApartCard

/-- THE TIED CARD OF 'sidingslaw11.AllocNil'. -/
def allocNilCard : Claim7 := { stood := { row := allocNilRow, standIns := [], harness := (true, "503a3fcb6b0b4a361409c5c46aea0dc0f2da2f7ed2ae550eca4597f49b55f82b"), looks := false }, kinds := [], alts := [], laidByText := true, laidKinds := [.data, .data, .data], laidTests := true, laidLooks := .later }
def AllocNilCardSaid : Prop := Claim7.holds Tryd.pinned (.plain (OpenSpec.ofChange allocNilSpec)) allocNilCard

/-- THE TIED CARD OF 'sidingslaw11.AllocFull'. -/
def allocFullCard : Claim7 := { stood := { row := allocFullRow, standIns := [], harness := (true, "503a3fcb6b0b4a361409c5c46aea0dc0f2da2f7ed2ae550eca4597f49b55f82b"), looks := false }, kinds := [], alts := [], laidByText := true, laidKinds := [.data, .data, .data], laidTests := true, laidLooks := .later }
def AllocFullCardSaid : Prop := Claim7.holds Tryd.pinned (.plain (OpenSpec.ofChange allocFullSpec)) allocFullCard

/-- THE SECOND FORM's CARD OF 'sidingslaw11.AllocAlone'. -/
def allocAloneUptoCard : Claim7 := { stood := { row := allocAloneUptoRow, standIns := [], harness := (true, "503a3fcb6b0b4a361409c5c46aea0dc0f2da2f7ed2ae550eca4597f49b55f82b"), looks := false }, kinds := [], alts := [], laidByText := true, laidKinds := [.data, .data, .data], laidTests := true, laidLooks := .later }
def AllocAloneUptoCardSaid : Prop := Claim7.holds Tryd.pinned (.plain (OpenSpec.upto allocAloneSpec)) allocAloneUptoCard

/-- THE SECOND FORM's CARD OF 'sidingslaw11.AllocApart'. -/
def allocApartUptoCard : Claim7 := { stood := { row := allocApartUptoRow, standIns := [], harness := (true, "503a3fcb6b0b4a361409c5c46aea0dc0f2da2f7ed2ae550eca4597f49b55f82b"), looks := false }, kinds := [], alts := [], laidByText := true, laidKinds := [.data, .data, .data], laidTests := true, laidLooks := .later }
def AllocApartUptoCardSaid : Prop := Claim7.holds Tryd.pinned (.plain (OpenSpec.upto allocApartSpec)) allocApartUptoCard

/-- THE SECOND FORM's CARD OF 'sidingslaw11.AllocNil'. -/
def allocNilUptoCard : Claim7 := { stood := { row := allocNilUptoRow, standIns := [], harness := (true, "503a3fcb6b0b4a361409c5c46aea0dc0f2da2f7ed2ae550eca4597f49b55f82b"), looks := false }, kinds := [], alts := [], laidByText := true, laidKinds := [.data, .data, .data], laidTests := true, laidLooks := .later }
def AllocNilUptoCardSaid : Prop := Claim7.holds Tryd.pinned (.plain (OpenSpec.upto allocNilSpec)) allocNilUptoCard

/-- THE SECOND FORM's CARD OF 'sidingslaw11.AllocFull'. -/
def allocFullUptoCard : Claim7 := { stood := { row := allocFullUptoRow, standIns := [], harness := (true, "503a3fcb6b0b4a361409c5c46aea0dc0f2da2f7ed2ae550eca4597f49b55f82b"), looks := false }, kinds := [], alts := [], laidByText := true, laidKinds := [.data, .data, .data], laidTests := true, laidLooks := .later }
def AllocFullUptoCardSaid : Prop := Claim7.holds Tryd.pinned (.plain (OpenSpec.upto allocFullSpec)) allocFullUptoCard
end Rows
end Go.Proofs.YtfomephgallpmaaDoor
