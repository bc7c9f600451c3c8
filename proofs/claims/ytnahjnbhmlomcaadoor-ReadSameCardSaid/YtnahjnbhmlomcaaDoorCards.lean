/-
  DERIVED. GIVEN WITH THE SEED: THE CARDS: each row of YtnahjnbhmlomcaaDoorRows.lean that lists a variable, with what it lists TIED to the program's text (the seventh form; the later family's looks); each row that meets fmt, with fmt's text TOLD by the authors' own Lean function (tested against real Go, not proved from fmt's source: count such statements apart). THE CARD IS WHAT COUNTS. Prove the row's statement (the work); the ties are given (YtnahjnbhmlomcaaDoorTie.lean); close each card by the builder's one call (the guide's Derived/Test/ToyasCard.lean, 'card_holds'). Laid BY PROGRAM, IN A SANDBOX (cutbox-door.mjs). By AI agents, Wed Nov 11 2026. No macro, syntax, notation, axiom, sorry.
-/
import Derived.Test.YtnahjnbhmlomcaaDoorRows
import GoSem.ClaimSeven
namespace Go.Proofs.YtnahjnbhmlomcaaDoor
namespace Rows

/-- THE TIED CARD OF 'sidingslaw12.ReadMoved'. -/
def readMovedCard : Claim7 := { stood := { row := readMovedRow, standIns := [], harness := (true, "40a3bb29c10741f48f8fef2c6063fc9133aa2a75eb8086ff0995ae52c6b8da6e"), looks := false }, kinds := [], alts := [], laidByText := true, laidKinds := [.data, .data, .data], laidTests := true, laidLooks := .later }
def ReadMovedCardSaid : Prop := Claim7.holds Tryd.pinned (.plain (OpenSpec.ofChange readMovedSpec)) readMovedCard

/-- THE TIED CARD OF 'sidingslaw12.ReadWaits'. -/
def readWaitsCard : Claim7 := { stood := { row := readWaitsRow, standIns := [], harness := (true, "40a3bb29c10741f48f8fef2c6063fc9133aa2a75eb8086ff0995ae52c6b8da6e"), looks := false }, kinds := [], alts := [], laidByText := true, laidKinds := [.data, .data, .data], laidTests := true, laidLooks := .later }
def ReadWaitsCardSaid : Prop := Claim7.holds Tryd.pinned (.plain (OpenSpec.ofChange readWaitsSpec)) readWaitsCard

/-- THE TIED CARD OF 'sidingslaw12.ReadNil'. -/
def readNilCard : Claim7 := { stood := { row := readNilRow, standIns := [], harness := (true, "40a3bb29c10741f48f8fef2c6063fc9133aa2a75eb8086ff0995ae52c6b8da6e"), looks := false }, kinds := [], alts := [], laidByText := true, laidKinds := [.data, .data, .data], laidTests := true, laidLooks := .later }
def ReadNilCardSaid : Prop := Claim7.holds Tryd.pinned (.plain (OpenSpec.ofChange readNilSpec)) readNilCard

/-- THE TIED CARD OF 'sidingslaw12.ReadSame'. -/
def readSameCard : Claim7 := { stood := { row := readSameRow, standIns := [], harness := (true, "40a3bb29c10741f48f8fef2c6063fc9133aa2a75eb8086ff0995ae52c6b8da6e"), looks := false }, kinds := [], alts := [], laidByText := true, laidKinds := [.data, .data, .data], laidTests := true, laidLooks := .later }
def ReadSameCardSaid : Prop := Claim7.holds Tryd.pinned (.plain (OpenSpec.ofChange readSameSpec)) readSameCard

/-- THE SECOND FORM's CARD OF 'sidingslaw12.ReadMoved'. -/
def readMovedUptoCard : Claim7 := { stood := { row := readMovedUptoRow, standIns := [], harness := (true, "40a3bb29c10741f48f8fef2c6063fc9133aa2a75eb8086ff0995ae52c6b8da6e"), looks := false }, kinds := [], alts := [], laidByText := true, laidKinds := [.data, .data, .data], laidTests := true, laidLooks := .later }
def ReadMovedUptoCardSaid : Prop := Claim7.holds Tryd.pinned (.plain (OpenSpec.upto readMovedSpec)) readMovedUptoCard

/-- THE SECOND FORM's CARD OF 'sidingslaw12.ReadWaits'. -/
def readWaitsUptoCard : Claim7 := { stood := { row := readWaitsUptoRow, standIns := [], harness := (true, "40a3bb29c10741f48f8fef2c6063fc9133aa2a75eb8086ff0995ae52c6b8da6e"), looks := false }, kinds := [], alts := [], laidByText := true, laidKinds := [.data, .data, .data], laidTests := true, laidLooks := .later }
def ReadWaitsUptoCardSaid : Prop := Claim7.holds Tryd.pinned (.plain (OpenSpec.upto readWaitsSpec)) readWaitsUptoCard

/-- THE SECOND FORM's CARD OF 'sidingslaw12.ReadNil'. -/
def readNilUptoCard : Claim7 := { stood := { row := readNilUptoRow, standIns := [], harness := (true, "40a3bb29c10741f48f8fef2c6063fc9133aa2a75eb8086ff0995ae52c6b8da6e"), looks := false }, kinds := [], alts := [], laidByText := true, laidKinds := [.data, .data, .data], laidTests := true, laidLooks := .later }
def ReadNilUptoCardSaid : Prop := Claim7.holds Tryd.pinned (.plain (OpenSpec.upto readNilSpec)) readNilUptoCard

/-- THE SECOND FORM's CARD OF 'sidingslaw12.ReadSame'. -/
def readSameUptoCard : Claim7 := { stood := { row := readSameUptoRow, standIns := [], harness := (true, "40a3bb29c10741f48f8fef2c6063fc9133aa2a75eb8086ff0995ae52c6b8da6e"), looks := false }, kinds := [], alts := [], laidByText := true, laidKinds := [.data, .data, .data], laidTests := true, laidLooks := .later }
def ReadSameUptoCardSaid : Prop := Claim7.holds Tryd.pinned (.plain (OpenSpec.upto readSameSpec)) readSameUptoCard
end Rows
end Go.Proofs.YtnahjnbhmlomcaaDoor
