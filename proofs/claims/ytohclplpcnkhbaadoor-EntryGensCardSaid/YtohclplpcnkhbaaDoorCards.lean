/-
  DERIVED. GIVEN WITH THE SEED: THE CARDS: each row of YtohclplpcnkhbaaDoorRows.lean that lists a variable, with what it lists TIED to the program's text (the seventh form; the later family's looks); each row that meets fmt, with fmt's text TOLD by the authors' own Lean function (tested against real Go, not proved from fmt's source: count such statements apart). THE CARD IS WHAT COUNTS. Prove the row's statement (the work); the ties are given (YtohclplpcnkhbaaDoorTie.lean); close each card by the builder's one call (the guide's Derived/Test/ToyasCard.lean, 'card_holds'). Laid BY PROGRAM, IN A SANDBOX (cutbox-door.mjs). By AI agents, Wed Nov 11 2026. No macro, syntax, notation, axiom, sorry.
-/
import Derived.Test.YtohclplpcnkhbaaDoorRows
import GoSem.ClaimSeven
namespace Go.Proofs.YtohclplpcnkhbaaDoor
namespace Rows

/-- THE TIED CARD OF 'sidingslaw02.EntryPacks'. -/
def entryPacksCard : Claim7 := { stood := { row := entryPacksRow, standIns := [], harness := (true, "6ca00f5b6323eaf529720418e222dcce35ad220fdd299f1e5e4e99fbca303be7"), looks := false }, kinds := [], alts := [], laidByText := true, laidKinds := [.data], laidTests := true, laidLooks := .later }
def EntryPacksCardSaid : Prop := Claim7.holds Tryd.pinned (.plain (OpenSpec.ofChange entryPacksSpec)) entryPacksCard

/-- THE TIED CARD OF 'sidingslaw02.EntryBack'. -/
def entryBackCard : Claim7 := { stood := { row := entryBackRow, standIns := [], harness := (true, "6ca00f5b6323eaf529720418e222dcce35ad220fdd299f1e5e4e99fbca303be7"), looks := false }, kinds := [], alts := [], laidByText := true, laidKinds := [.data], laidTests := true, laidLooks := .later }
def EntryBackCardSaid : Prop := Claim7.holds Tryd.pinned (.plain (OpenSpec.ofChange entryBackSpec)) entryBackCard

/-- THE TIED CARD OF 'sidingslaw02.EntryPins'. -/
def entryPinsCard : Claim7 := { stood := { row := entryPinsRow, standIns := [], harness := (true, "6ca00f5b6323eaf529720418e222dcce35ad220fdd299f1e5e4e99fbca303be7"), looks := false }, kinds := [], alts := [], laidByText := true, laidKinds := [.data], laidTests := true, laidLooks := .later }
def EntryPinsCardSaid : Prop := Claim7.holds Tryd.pinned (.plain (OpenSpec.ofChange entryPinsSpec)) entryPinsCard

/-- THE TIED CARD OF 'sidingslaw02.EntryGens'. -/
def entryGensCard : Claim7 := { stood := { row := entryGensRow, standIns := [], harness := (true, "6ca00f5b6323eaf529720418e222dcce35ad220fdd299f1e5e4e99fbca303be7"), looks := false }, kinds := [], alts := [], laidByText := true, laidKinds := [.data], laidTests := true, laidLooks := .later }
def EntryGensCardSaid : Prop := Claim7.holds Tryd.pinned (.plain (OpenSpec.ofChange entryGensSpec)) entryGensCard

/-- THE TIED CARD OF 'sidingslaw02.EntryMoves'. -/
def entryMovesCard : Claim7 := { stood := { row := entryMovesRow, standIns := [], harness := (true, "6ca00f5b6323eaf529720418e222dcce35ad220fdd299f1e5e4e99fbca303be7"), looks := false }, kinds := [], alts := [], laidByText := true, laidKinds := [.data], laidTests := true, laidLooks := .later }
def EntryMovesCardSaid : Prop := Claim7.holds Tryd.pinned (.plain (OpenSpec.ofChange entryMovesSpec)) entryMovesCard

/-- THE TIED CARD OF 'sidingslaw02.EntryGuards'. -/
def entryGuardsCard : Claim7 := { stood := { row := entryGuardsRow, standIns := [], harness := (true, "6ca00f5b6323eaf529720418e222dcce35ad220fdd299f1e5e4e99fbca303be7"), looks := false }, kinds := [], alts := [], laidByText := true, laidKinds := [.data], laidTests := true, laidLooks := .later }
def EntryGuardsCardSaid : Prop := Claim7.holds Tryd.pinned (.plain (OpenSpec.ofChange entryGuardsSpec)) entryGuardsCard

/-- THE SECOND FORM's CARD OF 'sidingslaw02.EntryPacks'. -/
def entryPacksUptoCard : Claim7 := { stood := { row := entryPacksUptoRow, standIns := [], harness := (true, "6ca00f5b6323eaf529720418e222dcce35ad220fdd299f1e5e4e99fbca303be7"), looks := false }, kinds := [], alts := [], laidByText := true, laidKinds := [.data], laidTests := true, laidLooks := .later }
def EntryPacksUptoCardSaid : Prop := Claim7.holds Tryd.pinned (.plain (OpenSpec.upto entryPacksSpec)) entryPacksUptoCard

/-- THE SECOND FORM's CARD OF 'sidingslaw02.EntryBack'. -/
def entryBackUptoCard : Claim7 := { stood := { row := entryBackUptoRow, standIns := [], harness := (true, "6ca00f5b6323eaf529720418e222dcce35ad220fdd299f1e5e4e99fbca303be7"), looks := false }, kinds := [], alts := [], laidByText := true, laidKinds := [.data], laidTests := true, laidLooks := .later }
def EntryBackUptoCardSaid : Prop := Claim7.holds Tryd.pinned (.plain (OpenSpec.upto entryBackSpec)) entryBackUptoCard

/-- THE SECOND FORM's CARD OF 'sidingslaw02.EntryPins'. -/
def entryPinsUptoCard : Claim7 := { stood := { row := entryPinsUptoRow, standIns := [], harness := (true, "6ca00f5b6323eaf529720418e222dcce35ad220fdd299f1e5e4e99fbca303be7"), looks := false }, kinds := [], alts := [], laidByText := true, laidKinds := [.data], laidTests := true, laidLooks := .later }
def EntryPinsUptoCardSaid : Prop := Claim7.holds Tryd.pinned (.plain (OpenSpec.upto entryPinsSpec)) entryPinsUptoCard

/-- THE SECOND FORM's CARD OF 'sidingslaw02.EntryGens'. -/
def entryGensUptoCard : Claim7 := { stood := { row := entryGensUptoRow, standIns := [], harness := (true, "6ca00f5b6323eaf529720418e222dcce35ad220fdd299f1e5e4e99fbca303be7"), looks := false }, kinds := [], alts := [], laidByText := true, laidKinds := [.data], laidTests := true, laidLooks := .later }
def EntryGensUptoCardSaid : Prop := Claim7.holds Tryd.pinned (.plain (OpenSpec.upto entryGensSpec)) entryGensUptoCard

/-- THE SECOND FORM's CARD OF 'sidingslaw02.EntryMoves'. -/
def entryMovesUptoCard : Claim7 := { stood := { row := entryMovesUptoRow, standIns := [], harness := (true, "6ca00f5b6323eaf529720418e222dcce35ad220fdd299f1e5e4e99fbca303be7"), looks := false }, kinds := [], alts := [], laidByText := true, laidKinds := [.data], laidTests := true, laidLooks := .later }
def EntryMovesUptoCardSaid : Prop := Claim7.holds Tryd.pinned (.plain (OpenSpec.upto entryMovesSpec)) entryMovesUptoCard

/-- THE SECOND FORM's CARD OF 'sidingslaw02.EntryGuards'. -/
def entryGuardsUptoCard : Claim7 := { stood := { row := entryGuardsUptoRow, standIns := [], harness := (true, "6ca00f5b6323eaf529720418e222dcce35ad220fdd299f1e5e4e99fbca303be7"), looks := false }, kinds := [], alts := [], laidByText := true, laidKinds := [.data], laidTests := true, laidLooks := .later }
def EntryGuardsUptoCardSaid : Prop := Claim7.holds Tryd.pinned (.plain (OpenSpec.upto entryGuardsSpec)) entryGuardsUptoCard
end Rows
end Go.Proofs.YtohclplpcnkhbaaDoor
