/-
  DERIVED. GIVEN WITH THE SEED: THE CARDS: each row of YtjcndjfiogbdiaaDoorRows.lean that lists a variable, with what it lists TIED to the program's text (the seventh form; the later family's looks); each row that meets fmt, with fmt's text TOLD by the authors' own Lean function (tested against real Go, not proved from fmt's source: count such statements apart). THE CARD IS WHAT COUNTS. Prove the row's statement (the work); the ties are given (YtjcndjfiogbdiaaDoorTie.lean); close each card by the builder's one call (the guide's Derived/Test/ToyasCard.lean, 'card_holds'). Laid BY PROGRAM, IN A SANDBOX (cutbox-door.mjs). By AI agents, Wed Nov 11 2026. No macro, syntax, notation, axiom, sorry.
-/
import Derived.Test.YtjcndjfiogbdiaaDoorRows
import GoSem.ClaimSeven
namespace Go.Proofs.YtjcndjfiogbdiaaDoor
namespace Rows

/-- THE TIED CARD OF 'sidingslaw06.LayoutTells'. -/
def layoutTellsCard : Claim7 := { stood := { row := layoutTellsRow, standIns := [], harness := (true, "2d9c7d8d47c13e1560b72339496452c9b28a3ebed0386351f2ab5b10281f623b"), looks := false }, kinds := [], alts := [], laidByText := true, laidKinds := [.data, .data], laidTests := true, laidLooks := .later }
def LayoutTellsCardSaid : Prop := Claim7.holds Tryd.pinned (.plain (OpenSpec.ofChange layoutTellsSpec)) layoutTellsCard

/-- THE TIED CARD OF 'sidingslaw06.LayoutStarts'. -/
def layoutStartsCard : Claim7 := { stood := { row := layoutStartsRow, standIns := [], harness := (true, "2d9c7d8d47c13e1560b72339496452c9b28a3ebed0386351f2ab5b10281f623b"), looks := false }, kinds := [], alts := [], laidByText := true, laidKinds := [.data, .data], laidTests := true, laidLooks := .later }
def LayoutStartsCardSaid : Prop := Claim7.holds Tryd.pinned (.plain (OpenSpec.ofChange layoutStartsSpec)) layoutStartsCard

/-- THE TIED CARD OF 'sidingslaw06.LayoutApart'. -/
def layoutApartCard : Claim7 := { stood := { row := layoutApartRow, standIns := [], harness := (true, "2d9c7d8d47c13e1560b72339496452c9b28a3ebed0386351f2ab5b10281f623b"), looks := false }, kinds := [], alts := [], laidByText := true, laidKinds := [.data, .data], laidTests := true, laidLooks := .later }
def LayoutApartCardSaid : Prop := Claim7.holds Tryd.pinned (.plain (OpenSpec.ofChange layoutApartSpec)) layoutApartCard

/-- THE TIED CARD OF 'sidingslaw06.LayoutFree'. -/
def layoutFreeCard : Claim7 := { stood := { row := layoutFreeRow, standIns := [], harness := (true, "2d9c7d8d47c13e1560b72339496452c9b28a3ebed0386351f2ab5b10281f623b"), looks := false }, kinds := [], alts := [], laidByText := true, laidKinds := [.data, .data], laidTests := true, laidLooks := .later }
def LayoutFreeCardSaid : Prop := Claim7.holds Tryd.pinned (.plain (OpenSpec.ofChange layoutFreeSpec)) layoutFreeCard

/-- THE TIED CARD OF 'sidingslaw06.LayoutMore'. -/
def layoutMoreCard : Claim7 := { stood := { row := layoutMoreRow, standIns := [], harness := (true, "2d9c7d8d47c13e1560b72339496452c9b28a3ebed0386351f2ab5b10281f623b"), looks := false }, kinds := [], alts := [], laidByText := true, laidKinds := [.data, .data], laidTests := true, laidLooks := .later }
def LayoutMoreCardSaid : Prop := Claim7.holds Tryd.pinned (.plain (OpenSpec.ofChange layoutMoreSpec)) layoutMoreCard

/-- THE TIED CARD OF 'sidingslaw06.LayoutAgain'. -/
def layoutAgainCard : Claim7 := { stood := { row := layoutAgainRow, standIns := [], harness := (true, "2d9c7d8d47c13e1560b72339496452c9b28a3ebed0386351f2ab5b10281f623b"), looks := false }, kinds := [], alts := [], laidByText := true, laidKinds := [.data, .data], laidTests := true, laidLooks := .later }
def LayoutAgainCardSaid : Prop := Claim7.holds Tryd.pinned (.plain (OpenSpec.ofChange layoutAgainSpec)) layoutAgainCard

/-- THE SECOND FORM's CARD OF 'sidingslaw06.LayoutTells'. -/
def layoutTellsUptoCard : Claim7 := { stood := { row := layoutTellsUptoRow, standIns := [], harness := (true, "2d9c7d8d47c13e1560b72339496452c9b28a3ebed0386351f2ab5b10281f623b"), looks := false }, kinds := [], alts := [], laidByText := true, laidKinds := [.data, .data], laidTests := true, laidLooks := .later }
def LayoutTellsUptoCardSaid : Prop := Claim7.holds Tryd.pinned (.plain (OpenSpec.upto layoutTellsSpec)) layoutTellsUptoCard

/-- THE SECOND FORM's CARD OF 'sidingslaw06.LayoutStarts'. -/
def layoutStartsUptoCard : Claim7 := { stood := { row := layoutStartsUptoRow, standIns := [], harness := (true, "2d9c7d8d47c13e1560b72339496452c9b28a3ebed0386351f2ab5b10281f623b"), looks := false }, kinds := [], alts := [], laidByText := true, laidKinds := [.data, .data], laidTests := true, laidLooks := .later }
def LayoutStartsUptoCardSaid : Prop := Claim7.holds Tryd.pinned (.plain (OpenSpec.upto layoutStartsSpec)) layoutStartsUptoCard

/-- THE SECOND FORM's CARD OF 'sidingslaw06.LayoutApart'. -/
def layoutApartUptoCard : Claim7 := { stood := { row := layoutApartUptoRow, standIns := [], harness := (true, "2d9c7d8d47c13e1560b72339496452c9b28a3ebed0386351f2ab5b10281f623b"), looks := false }, kinds := [], alts := [], laidByText := true, laidKinds := [.data, .data], laidTests := true, laidLooks := .later }
def LayoutApartUptoCardSaid : Prop := Claim7.holds Tryd.pinned (.plain (OpenSpec.upto layoutApartSpec)) layoutApartUptoCard

/-- THE SECOND FORM's CARD OF 'sidingslaw06.LayoutFree'. -/
def layoutFreeUptoCard : Claim7 := { stood := { row := layoutFreeUptoRow, standIns := [], harness := (true, "2d9c7d8d47c13e1560b72339496452c9b28a3ebed0386351f2ab5b10281f623b"), looks := false }, kinds := [], alts := [], laidByText := true, laidKinds := [.data, .data], laidTests := true, laidLooks := .later }
def LayoutFreeUptoCardSaid : Prop := Claim7.holds Tryd.pinned (.plain (OpenSpec.upto layoutFreeSpec)) layoutFreeUptoCard

/-- THE SECOND FORM's CARD OF 'sidingslaw06.LayoutMore'. -/
def layoutMoreUptoCard : Claim7 := { stood := { row := layoutMoreUptoRow, standIns := [], harness := (true, "2d9c7d8d47c13e1560b72339496452c9b28a3ebed0386351f2ab5b10281f623b"), looks := false }, kinds := [], alts := [], laidByText := true, laidKinds := [.data, .data], laidTests := true, laidLooks := .later }
def LayoutMoreUptoCardSaid : Prop := Claim7.holds Tryd.pinned (.plain (OpenSpec.upto layoutMoreSpec)) layoutMoreUptoCard

/-- THE SECOND FORM's CARD OF 'sidingslaw06.LayoutAgain'. -/
def layoutAgainUptoCard : Claim7 := { stood := { row := layoutAgainUptoRow, standIns := [], harness := (true, "2d9c7d8d47c13e1560b72339496452c9b28a3ebed0386351f2ab5b10281f623b"), looks := false }, kinds := [], alts := [], laidByText := true, laidKinds := [.data, .data], laidTests := true, laidLooks := .later }
def LayoutAgainUptoCardSaid : Prop := Claim7.holds Tryd.pinned (.plain (OpenSpec.upto layoutAgainSpec)) layoutAgainUptoCard
end Rows
end Go.Proofs.YtjcndjfiogbdiaaDoor
