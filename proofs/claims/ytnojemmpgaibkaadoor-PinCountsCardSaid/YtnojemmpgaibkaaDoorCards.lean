/-
  DERIVED. GIVEN WITH THE SEED: THE CARDS: each row of YtnojemmpgaibkaaDoorRows.lean that lists a variable, with what it lists TIED to the program's text (the seventh form; the later family's looks); each row that meets fmt, with fmt's text TOLD by the authors' own Lean function (tested against real Go, not proved from fmt's source: count such statements apart). THE CARD IS WHAT COUNTS. Prove the row's statement (the work); the ties are given (YtnojemmpgaibkaaDoorTie.lean); close each card by the builder's one call (the guide's Derived/Test/ToyasCard.lean, 'card_holds'). Laid BY PROGRAM, IN A SANDBOX (cutbox-door.mjs). By AI agents, Wed Nov 11 2026. No macro, syntax, notation, axiom, sorry.
-/
import Derived.Test.YtnojemmpgaibkaaDoorRows
import GoSem.ClaimSeven
namespace Go.Proofs.YtnojemmpgaibkaaDoor
namespace Rows

/-- THE TIED CARD OF 'sidingslaw13.WriteGuards'. -/
def writeGuardsCard : Claim7 := { stood := { row := writeGuardsRow, standIns := [], harness := (true, "d465364d3e365dcb5cd13495971a0114f7d7d30ade15da5c648e98c527d74122"), looks := false }, kinds := [], alts := [], laidByText := true, laidKinds := [.data, .data, .data], laidTests := true, laidLooks := .later }
def WriteGuardsCardSaid : Prop := Claim7.holds Tryd.pinned (.plain (OpenSpec.ofChange writeGuardsSpec)) writeGuardsCard

/-- THE TIED CARD OF 'sidingslaw13.WriteWaits'. -/
def writeWaitsCard : Claim7 := { stood := { row := writeWaitsRow, standIns := [], harness := (true, "d465364d3e365dcb5cd13495971a0114f7d7d30ade15da5c648e98c527d74122"), looks := false }, kinds := [], alts := [], laidByText := true, laidKinds := [.data, .data, .data], laidTests := true, laidLooks := .later }
def WriteWaitsCardSaid : Prop := Claim7.holds Tryd.pinned (.plain (OpenSpec.ofChange writeWaitsSpec)) writeWaitsCard

/-- THE TIED CARD OF 'sidingslaw13.WriteNil'. -/
def writeNilCard : Claim7 := { stood := { row := writeNilRow, standIns := [], harness := (true, "d465364d3e365dcb5cd13495971a0114f7d7d30ade15da5c648e98c527d74122"), looks := false }, kinds := [], alts := [], laidByText := true, laidKinds := [.data, .data, .data], laidTests := true, laidLooks := .later }
def WriteNilCardSaid : Prop := Claim7.holds Tryd.pinned (.plain (OpenSpec.ofChange writeNilSpec)) writeNilCard

/-- THE TIED CARD OF 'sidingslaw13.WriteTwice'. -/
def writeTwiceCard : Claim7 := { stood := { row := writeTwiceRow, standIns := [], harness := (true, "d465364d3e365dcb5cd13495971a0114f7d7d30ade15da5c648e98c527d74122"), looks := false }, kinds := [], alts := [], laidByText := true, laidKinds := [.data, .data, .data], laidTests := true, laidLooks := .later }
def WriteTwiceCardSaid : Prop := Claim7.holds Tryd.pinned (.plain (OpenSpec.ofChange writeTwiceSpec)) writeTwiceCard

/-- THE TIED CARD OF 'sidingslaw14.PinSteps'. -/
def pinStepsCard : Claim7 := { stood := { row := pinStepsRow, standIns := [], harness := (true, "d465364d3e365dcb5cd13495971a0114f7d7d30ade15da5c648e98c527d74122"), looks := false }, kinds := [], alts := [], laidByText := true, laidKinds := [.data, .data, .data], laidTests := true, laidLooks := .later }
def PinStepsCardSaid : Prop := Claim7.holds Tryd.pinned (.plain (OpenSpec.ofChange pinStepsSpec)) pinStepsCard

/-- THE TIED CARD OF 'sidingslaw14.PinAlone'. -/
def pinAloneCard : Claim7 := { stood := { row := pinAloneRow, standIns := [], harness := (true, "d465364d3e365dcb5cd13495971a0114f7d7d30ade15da5c648e98c527d74122"), looks := false }, kinds := [], alts := [], laidByText := true, laidKinds := [.data, .data, .data], laidTests := true, laidLooks := .later }
def PinAloneCardSaid : Prop := Claim7.holds Tryd.pinned (.plain (OpenSpec.ofChange pinAloneSpec)) pinAloneCard

/-- THE TIED CARD OF 'sidingslaw14.PinCounts'. -/
def pinCountsCard : Claim7 := { stood := { row := pinCountsRow, standIns := [], harness := (true, "d465364d3e365dcb5cd13495971a0114f7d7d30ade15da5c648e98c527d74122"), looks := false }, kinds := [], alts := [], laidByText := true, laidKinds := [.data, .data, .data], laidTests := true, laidLooks := .later }
def PinCountsCardSaid : Prop := Claim7.holds Tryd.pinned (.plain (OpenSpec.ofChange pinCountsSpec)) pinCountsCard

/-- THE TIED CARD OF 'sidingslaw14.PinWaits'. -/
def pinWaitsCard : Claim7 := { stood := { row := pinWaitsRow, standIns := [], harness := (true, "d465364d3e365dcb5cd13495971a0114f7d7d30ade15da5c648e98c527d74122"), looks := false }, kinds := [], alts := [], laidByText := true, laidKinds := [.data, .data, .data], laidTests := true, laidLooks := .later }
def PinWaitsCardSaid : Prop := Claim7.holds Tryd.pinned (.plain (OpenSpec.ofChange pinWaitsSpec)) pinWaitsCard

/-- THE TIED CARD OF 'sidingslaw14.PinNil'. -/
def pinNilCard : Claim7 := { stood := { row := pinNilRow, standIns := [], harness := (true, "d465364d3e365dcb5cd13495971a0114f7d7d30ade15da5c648e98c527d74122"), looks := false }, kinds := [], alts := [], laidByText := true, laidKinds := [.data, .data, .data], laidTests := true, laidLooks := .later }
def PinNilCardSaid : Prop := Claim7.holds Tryd.pinned (.plain (OpenSpec.ofChange pinNilSpec)) pinNilCard

/-- THE TIED CARD OF 'sidingslaw14.PinBack'. -/
def pinBackCard : Claim7 := { stood := { row := pinBackRow, standIns := [], harness := (true, "d465364d3e365dcb5cd13495971a0114f7d7d30ade15da5c648e98c527d74122"), looks := false }, kinds := [], alts := [], laidByText := true, laidKinds := [.data, .data, .data], laidTests := true, laidLooks := .later }
def PinBackCardSaid : Prop := Claim7.holds Tryd.pinned (.plain (OpenSpec.ofChange pinBackSpec)) pinBackCard

/-- THE SECOND FORM's CARD OF 'sidingslaw13.WriteGuards'. -/
def writeGuardsUptoCard : Claim7 := { stood := { row := writeGuardsUptoRow, standIns := [], harness := (true, "d465364d3e365dcb5cd13495971a0114f7d7d30ade15da5c648e98c527d74122"), looks := false }, kinds := [], alts := [], laidByText := true, laidKinds := [.data, .data, .data], laidTests := true, laidLooks := .later }
def WriteGuardsUptoCardSaid : Prop := Claim7.holds Tryd.pinned (.plain (OpenSpec.upto writeGuardsSpec)) writeGuardsUptoCard

/-- THE SECOND FORM's CARD OF 'sidingslaw13.WriteWaits'. -/
def writeWaitsUptoCard : Claim7 := { stood := { row := writeWaitsUptoRow, standIns := [], harness := (true, "d465364d3e365dcb5cd13495971a0114f7d7d30ade15da5c648e98c527d74122"), looks := false }, kinds := [], alts := [], laidByText := true, laidKinds := [.data, .data, .data], laidTests := true, laidLooks := .later }
def WriteWaitsUptoCardSaid : Prop := Claim7.holds Tryd.pinned (.plain (OpenSpec.upto writeWaitsSpec)) writeWaitsUptoCard

/-- THE SECOND FORM's CARD OF 'sidingslaw13.WriteNil'. -/
def writeNilUptoCard : Claim7 := { stood := { row := writeNilUptoRow, standIns := [], harness := (true, "d465364d3e365dcb5cd13495971a0114f7d7d30ade15da5c648e98c527d74122"), looks := false }, kinds := [], alts := [], laidByText := true, laidKinds := [.data, .data, .data], laidTests := true, laidLooks := .later }
def WriteNilUptoCardSaid : Prop := Claim7.holds Tryd.pinned (.plain (OpenSpec.upto writeNilSpec)) writeNilUptoCard

/-- THE SECOND FORM's CARD OF 'sidingslaw13.WriteTwice'. -/
def writeTwiceUptoCard : Claim7 := { stood := { row := writeTwiceUptoRow, standIns := [], harness := (true, "d465364d3e365dcb5cd13495971a0114f7d7d30ade15da5c648e98c527d74122"), looks := false }, kinds := [], alts := [], laidByText := true, laidKinds := [.data, .data, .data], laidTests := true, laidLooks := .later }
def WriteTwiceUptoCardSaid : Prop := Claim7.holds Tryd.pinned (.plain (OpenSpec.upto writeTwiceSpec)) writeTwiceUptoCard

/-- THE SECOND FORM's CARD OF 'sidingslaw14.PinSteps'. -/
def pinStepsUptoCard : Claim7 := { stood := { row := pinStepsUptoRow, standIns := [], harness := (true, "d465364d3e365dcb5cd13495971a0114f7d7d30ade15da5c648e98c527d74122"), looks := false }, kinds := [], alts := [], laidByText := true, laidKinds := [.data, .data, .data], laidTests := true, laidLooks := .later }
def PinStepsUptoCardSaid : Prop := Claim7.holds Tryd.pinned (.plain (OpenSpec.upto pinStepsSpec)) pinStepsUptoCard

/-- THE SECOND FORM's CARD OF 'sidingslaw14.PinAlone'. -/
def pinAloneUptoCard : Claim7 := { stood := { row := pinAloneUptoRow, standIns := [], harness := (true, "d465364d3e365dcb5cd13495971a0114f7d7d30ade15da5c648e98c527d74122"), looks := false }, kinds := [], alts := [], laidByText := true, laidKinds := [.data, .data, .data], laidTests := true, laidLooks := .later }
def PinAloneUptoCardSaid : Prop := Claim7.holds Tryd.pinned (.plain (OpenSpec.upto pinAloneSpec)) pinAloneUptoCard

/-- THE SECOND FORM's CARD OF 'sidingslaw14.PinCounts'. -/
def pinCountsUptoCard : Claim7 := { stood := { row := pinCountsUptoRow, standIns := [], harness := (true, "d465364d3e365dcb5cd13495971a0114f7d7d30ade15da5c648e98c527d74122"), looks := false }, kinds := [], alts := [], laidByText := true, laidKinds := [.data, .data, .data], laidTests := true, laidLooks := .later }
def PinCountsUptoCardSaid : Prop := Claim7.holds Tryd.pinned (.plain (OpenSpec.upto pinCountsSpec)) pinCountsUptoCard

/-- THE SECOND FORM's CARD OF 'sidingslaw14.PinWaits'. -/
def pinWaitsUptoCard : Claim7 := { stood := { row := pinWaitsUptoRow, standIns := [], harness := (true, "d465364d3e365dcb5cd13495971a0114f7d7d30ade15da5c648e98c527d74122"), looks := false }, kinds := [], alts := [], laidByText := true, laidKinds := [.data, .data, .data], laidTests := true, laidLooks := .later }
def PinWaitsUptoCardSaid : Prop := Claim7.holds Tryd.pinned (.plain (OpenSpec.upto pinWaitsSpec)) pinWaitsUptoCard

/-- THE SECOND FORM's CARD OF 'sidingslaw14.PinNil'. -/
def pinNilUptoCard : Claim7 := { stood := { row := pinNilUptoRow, standIns := [], harness := (true, "d465364d3e365dcb5cd13495971a0114f7d7d30ade15da5c648e98c527d74122"), looks := false }, kinds := [], alts := [], laidByText := true, laidKinds := [.data, .data, .data], laidTests := true, laidLooks := .later }
def PinNilUptoCardSaid : Prop := Claim7.holds Tryd.pinned (.plain (OpenSpec.upto pinNilSpec)) pinNilUptoCard

/-- THE SECOND FORM's CARD OF 'sidingslaw14.PinBack'. -/
def pinBackUptoCard : Claim7 := { stood := { row := pinBackUptoRow, standIns := [], harness := (true, "d465364d3e365dcb5cd13495971a0114f7d7d30ade15da5c648e98c527d74122"), looks := false }, kinds := [], alts := [], laidByText := true, laidKinds := [.data, .data, .data], laidTests := true, laidLooks := .later }
def PinBackUptoCardSaid : Prop := Claim7.holds Tryd.pinned (.plain (OpenSpec.upto pinBackSpec)) pinBackUptoCard
end Rows
end Go.Proofs.YtnojemmpgaibkaaDoor
