/-
  DERIVED. GIVEN WITH THE SEED: THE CARDS: each row of YtlidoicpfomfcaaDoorRows.lean that lists a variable, with what it lists TIED to the program's text (the seventh form; the later family's looks); each row that meets fmt, with fmt's text TOLD by the authors' own Lean function (tested against real Go, not proved from fmt's source: count such statements apart). THE CARD IS WHAT COUNTS. Prove the row's statement (the work); the ties are given (YtlidoicpfomfcaaDoorTie.lean); close each card by the builder's one call (the guide's Derived/Test/ToyasCard.lean, 'card_holds'). Laid BY PROGRAM, IN A SANDBOX (cutbox-door.mjs). By AI agents, Wed Nov 11 2026. No macro, syntax, notation, axiom, sorry.
-/
import Derived.Test.YtlidoicpfomfcaaDoorRows
import GoSem.ClaimSeven
namespace Go.Proofs.YtlidoicpfomfcaaDoor
namespace Rows

/-- THE TIED CARD OF 'sidingslaw10.StackSteps'. -/
def stackStepsCard : Claim7 := { stood := { row := stackStepsRow, standIns := [], harness := (true, "05fa2a468bbe4bf82a663489bc0e1bc5852ec925d4674004d4b5215a8805a20e"), looks := false }, kinds := [], alts := [], laidByText := true, laidKinds := [.data, .data], laidTests := true, laidLooks := .later }
def StackStepsCardSaid : Prop := Claim7.holds Tryd.pinned (.plain (OpenSpec.ofChange stackStepsSpec)) stackStepsCard

/-- THE TIED CARD OF 'sidingslaw10.StackApart'. -/
def stackApartCard : Claim7 := { stood := { row := stackApartRow, standIns := [], harness := (true, "05fa2a468bbe4bf82a663489bc0e1bc5852ec925d4674004d4b5215a8805a20e"), looks := false }, kinds := [], alts := [], laidByText := true, laidKinds := [.data, .data], laidTests := true, laidLooks := .later }
def StackApartCardSaid : Prop := Claim7.holds Tryd.pinned (.plain (OpenSpec.ofChange stackApartSpec)) stackApartCard

/-- THE TIED CARD OF 'sidingslaw10.StackAlone'. -/
def stackAloneCard : Claim7 := { stood := { row := stackAloneRow, standIns := [], harness := (true, "05fa2a468bbe4bf82a663489bc0e1bc5852ec925d4674004d4b5215a8805a20e"), looks := false }, kinds := [], alts := [], laidByText := true, laidKinds := [.data, .data], laidTests := true, laidLooks := .later }
def StackAloneCardSaid : Prop := Claim7.holds Tryd.pinned (.plain (OpenSpec.ofChange stackAloneSpec)) stackAloneCard

/-- THE TIED CARD OF 'sidingslaw10.StackNil'. -/
def stackNilCard : Claim7 := { stood := { row := stackNilRow, standIns := [], harness := (true, "05fa2a468bbe4bf82a663489bc0e1bc5852ec925d4674004d4b5215a8805a20e"), looks := false }, kinds := [], alts := [], laidByText := true, laidKinds := [.data, .data], laidTests := true, laidLooks := .later }
def StackNilCardSaid : Prop := Claim7.holds Tryd.pinned (.plain (OpenSpec.ofChange stackNilSpec)) stackNilCard

/-- THE TIED CARD OF 'sidingslaw10.StackLifo'. -/
def stackLifoCard : Claim7 := { stood := { row := stackLifoRow, standIns := [], harness := (true, "05fa2a468bbe4bf82a663489bc0e1bc5852ec925d4674004d4b5215a8805a20e"), looks := false }, kinds := [], alts := [], laidByText := true, laidKinds := [.data, .data], laidTests := true, laidLooks := .later }
def StackLifoCardSaid : Prop := Claim7.holds Tryd.pinned (.plain (OpenSpec.ofChange stackLifoSpec)) stackLifoCard

/-- THE SECOND FORM's CARD OF 'sidingslaw10.StackSteps'. -/
def stackStepsUptoCard : Claim7 := { stood := { row := stackStepsUptoRow, standIns := [], harness := (true, "05fa2a468bbe4bf82a663489bc0e1bc5852ec925d4674004d4b5215a8805a20e"), looks := false }, kinds := [], alts := [], laidByText := true, laidKinds := [.data, .data], laidTests := true, laidLooks := .later }
def StackStepsUptoCardSaid : Prop := Claim7.holds Tryd.pinned (.plain (OpenSpec.upto stackStepsSpec)) stackStepsUptoCard

/-- THE SECOND FORM's CARD OF 'sidingslaw10.StackApart'. -/
def stackApartUptoCard : Claim7 := { stood := { row := stackApartUptoRow, standIns := [], harness := (true, "05fa2a468bbe4bf82a663489bc0e1bc5852ec925d4674004d4b5215a8805a20e"), looks := false }, kinds := [], alts := [], laidByText := true, laidKinds := [.data, .data], laidTests := true, laidLooks := .later }
def StackApartUptoCardSaid : Prop := Claim7.holds Tryd.pinned (.plain (OpenSpec.upto stackApartSpec)) stackApartUptoCard

/-- THE SECOND FORM's CARD OF 'sidingslaw10.StackAlone'. -/
def stackAloneUptoCard : Claim7 := { stood := { row := stackAloneUptoRow, standIns := [], harness := (true, "05fa2a468bbe4bf82a663489bc0e1bc5852ec925d4674004d4b5215a8805a20e"), looks := false }, kinds := [], alts := [], laidByText := true, laidKinds := [.data, .data], laidTests := true, laidLooks := .later }
def StackAloneUptoCardSaid : Prop := Claim7.holds Tryd.pinned (.plain (OpenSpec.upto stackAloneSpec)) stackAloneUptoCard

/-- THE SECOND FORM's CARD OF 'sidingslaw10.StackNil'. -/
def stackNilUptoCard : Claim7 := { stood := { row := stackNilUptoRow, standIns := [], harness := (true, "05fa2a468bbe4bf82a663489bc0e1bc5852ec925d4674004d4b5215a8805a20e"), looks := false }, kinds := [], alts := [], laidByText := true, laidKinds := [.data, .data], laidTests := true, laidLooks := .later }
def StackNilUptoCardSaid : Prop := Claim7.holds Tryd.pinned (.plain (OpenSpec.upto stackNilSpec)) stackNilUptoCard

/-- THE SECOND FORM's CARD OF 'sidingslaw10.StackLifo'. -/
def stackLifoUptoCard : Claim7 := { stood := { row := stackLifoUptoRow, standIns := [], harness := (true, "05fa2a468bbe4bf82a663489bc0e1bc5852ec925d4674004d4b5215a8805a20e"), looks := false }, kinds := [], alts := [], laidByText := true, laidKinds := [.data, .data], laidTests := true, laidLooks := .later }
def StackLifoUptoCardSaid : Prop := Claim7.holds Tryd.pinned (.plain (OpenSpec.upto stackLifoSpec)) stackLifoUptoCard
end Rows
end Go.Proofs.YtlidoicpfomfcaaDoor
