/-
  DERIVED. GIVEN WITH THE SEED: THE CARDS: each row of YtmicpfilklmbkaaDoorRows.lean that lists a variable, with what it lists TIED to the program's text (the seventh form; the later family's looks); each row that meets fmt, with fmt's text TOLD by the authors' own Lean function (tested against real Go, not proved from fmt's source: count such statements apart). THE CARD IS WHAT COUNTS. Prove the row's statement (the work); the ties are given (YtmicpfilklmbkaaDoorTie.lean); close each card by the builder's one call (the guide's Derived/Test/ToyasCard.lean, 'card_holds'). Laid BY PROGRAM, IN A SANDBOX (cutbox-door.mjs). By AI agents, Wed Nov 11 2026. No macro, syntax, notation, axiom, sorry.
-/
import Derived.Test.YtmicpfilklmbkaaDoorRows
import GoSem.ClaimSeven
namespace Go.Proofs.YtmicpfilklmbkaaDoor
namespace Rows

/-- THE TIED CARD OF 'sidingslaw04.HeadPacks'. -/
def headPacksCard : Claim7 := { stood := { row := headPacksRow, standIns := [], harness := (true, "3557a27a525e6a66db5440ed4fe1adf5f76a62f59727b3e457f0000b1f14bd1e"), looks := false }, kinds := [], alts := [], laidByText := true, laidKinds := [.data, .data], laidTests := true, laidLooks := .later }
def HeadPacksCardSaid : Prop := Claim7.holds Tryd.pinned (.plain (OpenSpec.ofChange headPacksSpec)) headPacksCard

/-- THE TIED CARD OF 'sidingslaw04.HeadTurns'. -/
def headTurnsCard : Claim7 := { stood := { row := headTurnsRow, standIns := [], harness := (true, "3557a27a525e6a66db5440ed4fe1adf5f76a62f59727b3e457f0000b1f14bd1e"), looks := false }, kinds := [], alts := [], laidByText := true, laidKinds := [.data, .data], laidTests := true, laidLooks := .later }
def HeadTurnsCardSaid : Prop := Claim7.holds Tryd.pinned (.plain (OpenSpec.ofChange headTurnsSpec)) headTurnsCard

/-- THE TIED CARD OF 'sidingslaw04.HeadBack'. -/
def headBackCard : Claim7 := { stood := { row := headBackRow, standIns := [], harness := (true, "3557a27a525e6a66db5440ed4fe1adf5f76a62f59727b3e457f0000b1f14bd1e"), looks := false }, kinds := [], alts := [], laidByText := true, laidKinds := [.data, .data], laidTests := true, laidLooks := .later }
def HeadBackCardSaid : Prop := Claim7.holds Tryd.pinned (.plain (OpenSpec.ofChange headBackSpec)) headBackCard

/-- THE TIED CARD OF 'sidingslaw04.HeadPops'. -/
def headPopsCard : Claim7 := { stood := { row := headPopsRow, standIns := [], harness := (true, "3557a27a525e6a66db5440ed4fe1adf5f76a62f59727b3e457f0000b1f14bd1e"), looks := false }, kinds := [], alts := [], laidByText := true, laidKinds := [.data, .data], laidTests := true, laidLooks := .later }
def HeadPopsCardSaid : Prop := Claim7.holds Tryd.pinned (.plain (OpenSpec.ofChange headPopsSpec)) headPopsCard

/-- THE TIED CARD OF 'sidingslaw04.HeadRow'. -/
def headRowCard : Claim7 := { stood := { row := headRowRow, standIns := [], harness := (true, "3557a27a525e6a66db5440ed4fe1adf5f76a62f59727b3e457f0000b1f14bd1e"), looks := false }, kinds := [], alts := [], laidByText := true, laidKinds := [.data, .data], laidTests := true, laidLooks := .later }
def HeadRowCardSaid : Prop := Claim7.holds Tryd.pinned (.plain (OpenSpec.ofChange headRowSpec)) headRowCard

/-- THE TIED CARD OF 'sidingslaw04.HeadOlder'. -/
def headOlderCard : Claim7 := { stood := { row := headOlderRow, standIns := [], harness := (true, "3557a27a525e6a66db5440ed4fe1adf5f76a62f59727b3e457f0000b1f14bd1e"), looks := false }, kinds := [], alts := [], laidByText := true, laidKinds := [.data, .data], laidTests := true, laidLooks := .later }
def HeadOlderCardSaid : Prop := Claim7.holds Tryd.pinned (.plain (OpenSpec.ofChange headOlderSpec)) headOlderCard

/-- THE SECOND FORM's CARD OF 'sidingslaw04.HeadPacks'. -/
def headPacksUptoCard : Claim7 := { stood := { row := headPacksUptoRow, standIns := [], harness := (true, "3557a27a525e6a66db5440ed4fe1adf5f76a62f59727b3e457f0000b1f14bd1e"), looks := false }, kinds := [], alts := [], laidByText := true, laidKinds := [.data, .data], laidTests := true, laidLooks := .later }
def HeadPacksUptoCardSaid : Prop := Claim7.holds Tryd.pinned (.plain (OpenSpec.upto headPacksSpec)) headPacksUptoCard

/-- THE SECOND FORM's CARD OF 'sidingslaw04.HeadTurns'. -/
def headTurnsUptoCard : Claim7 := { stood := { row := headTurnsUptoRow, standIns := [], harness := (true, "3557a27a525e6a66db5440ed4fe1adf5f76a62f59727b3e457f0000b1f14bd1e"), looks := false }, kinds := [], alts := [], laidByText := true, laidKinds := [.data, .data], laidTests := true, laidLooks := .later }
def HeadTurnsUptoCardSaid : Prop := Claim7.holds Tryd.pinned (.plain (OpenSpec.upto headTurnsSpec)) headTurnsUptoCard

/-- THE SECOND FORM's CARD OF 'sidingslaw04.HeadBack'. -/
def headBackUptoCard : Claim7 := { stood := { row := headBackUptoRow, standIns := [], harness := (true, "3557a27a525e6a66db5440ed4fe1adf5f76a62f59727b3e457f0000b1f14bd1e"), looks := false }, kinds := [], alts := [], laidByText := true, laidKinds := [.data, .data], laidTests := true, laidLooks := .later }
def HeadBackUptoCardSaid : Prop := Claim7.holds Tryd.pinned (.plain (OpenSpec.upto headBackSpec)) headBackUptoCard

/-- THE SECOND FORM's CARD OF 'sidingslaw04.HeadPops'. -/
def headPopsUptoCard : Claim7 := { stood := { row := headPopsUptoRow, standIns := [], harness := (true, "3557a27a525e6a66db5440ed4fe1adf5f76a62f59727b3e457f0000b1f14bd1e"), looks := false }, kinds := [], alts := [], laidByText := true, laidKinds := [.data, .data], laidTests := true, laidLooks := .later }
def HeadPopsUptoCardSaid : Prop := Claim7.holds Tryd.pinned (.plain (OpenSpec.upto headPopsSpec)) headPopsUptoCard

/-- THE SECOND FORM's CARD OF 'sidingslaw04.HeadRow'. -/
def headRowUptoCard : Claim7 := { stood := { row := headRowUptoRow, standIns := [], harness := (true, "3557a27a525e6a66db5440ed4fe1adf5f76a62f59727b3e457f0000b1f14bd1e"), looks := false }, kinds := [], alts := [], laidByText := true, laidKinds := [.data, .data], laidTests := true, laidLooks := .later }
def HeadRowUptoCardSaid : Prop := Claim7.holds Tryd.pinned (.plain (OpenSpec.upto headRowSpec)) headRowUptoCard

/-- THE SECOND FORM's CARD OF 'sidingslaw04.HeadOlder'. -/
def headOlderUptoCard : Claim7 := { stood := { row := headOlderUptoRow, standIns := [], harness := (true, "3557a27a525e6a66db5440ed4fe1adf5f76a62f59727b3e457f0000b1f14bd1e"), looks := false }, kinds := [], alts := [], laidByText := true, laidKinds := [.data, .data], laidTests := true, laidLooks := .later }
def HeadOlderUptoCardSaid : Prop := Claim7.holds Tryd.pinned (.plain (OpenSpec.upto headOlderSpec)) headOlderUptoCard
end Rows
end Go.Proofs.YtmicpfilklmbkaaDoor
