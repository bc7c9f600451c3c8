/-
  No cell of these rows narrows 'for every input' (looked for: loops, veiled, ifaces, maps, wideKeys, modest, calm, conditions, laid).
  DERIVED. THE GIVEN ROWS OF THIS SEAT. 6 by the template 'for every input the law returns true; each argument reads behind the call as it read before'; 0 by the template 'total and deterministic' (their statements: YtmicpfilklmbkaaTotals.lean).
  GIVEN WITH THE SEED: the statements are not yours to turn. If you find one false, say at which input.
  Laid BY PROGRAM, IN A SANDBOX (cutbox-rows.mjs): the forced cells as the released guide's own fill.sh prints them over the translation fae82b7fd6d990b5… (all of the seat's roots in one cut). By AI agents, Wed Nov 11 2026. No macro, syntax, notation, axiom, sorry.
-/
import Derived.Test.YtmicpfilklmbkaaChecked
import GoSem.Claim
import GoSem.ClaimJoined
import GoSem.ClaimMapViews
import Derived.JoinedTies
import Derived.KernelRfl
namespace Go.Proofs.Ytmicpfilklmbkaa
/- THE CELL 'sum', in the pinned program and in every row, IS THE sha256 OF THE DUMP (.gsa) THAT YtmicpfilklmbkaaProg.lean LOADS. Nothing in Lean hashes anything: it is a label: what it is worth is what the hold of that sum in a sandbox is worth. -/
noncomputable def Try.pinned : Pinned := { name := "ytmicpfilklmbkaa", sum := "fae82b7fd6d990b5f04904aa27f38bca025c3ae7fc1da2683123e478b74adfe2", checked := Try.checked }
namespace Rows
def none {H : Type} : Left H := { results := [], args := [] }

/-- 'sidingslaw03.HandleTells': WHATEVER THE INPUT: true; the input reads as it did. -/
def handleTellsSpec : ChangeSpec := { name := "handleTells", fn := fun _ => fun
  | [d] => { results := [.lit (.bool true)], args := [d] }
  | _ => none }
def handleTellsRow : OpenClaim := { program := "ytmicpfilklmbkaa", sum := "fae82b7fd6d990b5f04904aa27f38bca025c3ae7fc1da2683123e478b74adfe2", func := "sidings/sidingslaw03.HandleTells", spec := "handleTells", apart := false }
def HandleTellsSaid : Prop := handleTellsRow.holds Try.pinned (OpenSpec.ofChange handleTellsSpec)

/-- ITS FALSE NEIGHBOUR: 'it returns false'. Refute it at one input. -/
def handleTellsWrong : ChangeSpec := { name := "handleTells", fn := fun _ => fun
  | [d] => { results := [.lit (.bool false)], args := [d] }
  | _ => none }
def HandleTellsWrongFalsely : Prop := handleTellsRow.holds Try.pinned (OpenSpec.ofChange handleTellsWrong)

/-- 'sidingslaw03.HandleBack': WHATEVER THE INPUT: true; the input reads as it did. -/
def handleBackSpec : ChangeSpec := { name := "handleBack", fn := fun _ => fun
  | [d1, d2, d3] => { results := [.lit (.bool true)], args := [d1, d2, d3] }
  | _ => none }
def handleBackRow : OpenClaim := { program := "ytmicpfilklmbkaa", sum := "fae82b7fd6d990b5f04904aa27f38bca025c3ae7fc1da2683123e478b74adfe2", func := "sidings/sidingslaw03.HandleBack", spec := "handleBack", apart := false }
def HandleBackSaid : Prop := handleBackRow.holds Try.pinned (OpenSpec.ofChange handleBackSpec)

/-- ITS FALSE NEIGHBOUR: 'it returns false'. Refute it at one input. -/
def handleBackWrong : ChangeSpec := { name := "handleBack", fn := fun _ => fun
  | [d1, d2, d3] => { results := [.lit (.bool false)], args := [d1, d2, d3] }
  | _ => none }
def HandleBackWrongFalsely : Prop := handleBackRow.holds Try.pinned (OpenSpec.ofChange handleBackWrong)

/-- 'sidingslaw03.HandleApart': WHATEVER THE INPUT: true; the input reads as it did. -/
def handleApartSpec : ChangeSpec := { name := "handleApart", fn := fun _ => fun
  | [d] => { results := [.lit (.bool true)], args := [d] }
  | _ => none }
def handleApartRow : OpenClaim := { program := "ytmicpfilklmbkaa", sum := "fae82b7fd6d990b5f04904aa27f38bca025c3ae7fc1da2683123e478b74adfe2", func := "sidings/sidingslaw03.HandleApart", spec := "handleApart", apart := false }
def HandleApartSaid : Prop := handleApartRow.holds Try.pinned (OpenSpec.ofChange handleApartSpec)

/-- ITS FALSE NEIGHBOUR: 'it returns false'. Refute it at one input. -/
def handleApartWrong : ChangeSpec := { name := "handleApart", fn := fun _ => fun
  | [d] => { results := [.lit (.bool false)], args := [d] }
  | _ => none }
def HandleApartWrongFalsely : Prop := handleApartRow.holds Try.pinned (OpenSpec.ofChange handleApartWrong)

/-- 'sidingslaw03.HandleRounds': WHATEVER THE INPUT: true; the input reads as it did. -/
def handleRoundsSpec : ChangeSpec := { name := "handleRounds", fn := fun _ => fun
  | [d] => { results := [.lit (.bool true)], args := [d] }
  | _ => none }
def handleRoundsRow : OpenClaim := { program := "ytmicpfilklmbkaa", sum := "fae82b7fd6d990b5f04904aa27f38bca025c3ae7fc1da2683123e478b74adfe2", func := "sidings/sidingslaw03.HandleRounds", spec := "handleRounds", apart := false }
def HandleRoundsSaid : Prop := handleRoundsRow.holds Try.pinned (OpenSpec.ofChange handleRoundsSpec)

/-- ITS FALSE NEIGHBOUR: 'it returns false'. Refute it at one input. -/
def handleRoundsWrong : ChangeSpec := { name := "handleRounds", fn := fun _ => fun
  | [d] => { results := [.lit (.bool false)], args := [d] }
  | _ => none }
def HandleRoundsWrongFalsely : Prop := handleRoundsRow.holds Try.pinned (OpenSpec.ofChange handleRoundsWrong)

/-- 'sidingslaw03.HandleSlots': WHATEVER THE INPUT: true; the input reads as it did. -/
def handleSlotsSpec : ChangeSpec := { name := "handleSlots", fn := fun _ => fun
  | [d1, d2, d3] => { results := [.lit (.bool true)], args := [d1, d2, d3] }
  | _ => none }
def handleSlotsRow : OpenClaim := { program := "ytmicpfilklmbkaa", sum := "fae82b7fd6d990b5f04904aa27f38bca025c3ae7fc1da2683123e478b74adfe2", func := "sidings/sidingslaw03.HandleSlots", spec := "handleSlots", apart := false }
def HandleSlotsSaid : Prop := handleSlotsRow.holds Try.pinned (OpenSpec.ofChange handleSlotsSpec)

/-- ITS FALSE NEIGHBOUR: 'it returns false'. Refute it at one input. -/
def handleSlotsWrong : ChangeSpec := { name := "handleSlots", fn := fun _ => fun
  | [d1, d2, d3] => { results := [.lit (.bool false)], args := [d1, d2, d3] }
  | _ => none }
def HandleSlotsWrongFalsely : Prop := handleSlotsRow.holds Try.pinned (OpenSpec.ofChange handleSlotsWrong)

/-- 'sidingslaw03.HandleOrder': WHATEVER THE INPUT: true; the input reads as it did. -/
def handleOrderSpec : ChangeSpec := { name := "handleOrder", fn := fun _ => fun
  | [d1, d2, d3] => { results := [.lit (.bool true)], args := [d1, d2, d3] }
  | _ => none }
def handleOrderRow : OpenClaim := { program := "ytmicpfilklmbkaa", sum := "fae82b7fd6d990b5f04904aa27f38bca025c3ae7fc1da2683123e478b74adfe2", func := "sidings/sidingslaw03.HandleOrder", spec := "handleOrder", apart := false }
def HandleOrderSaid : Prop := handleOrderRow.holds Try.pinned (OpenSpec.ofChange handleOrderSpec)

/-- ITS FALSE NEIGHBOUR: 'it returns false'. Refute it at one input. -/
def handleOrderWrong : ChangeSpec := { name := "handleOrder", fn := fun _ => fun
  | [d1, d2, d3] => { results := [.lit (.bool false)], args := [d1, d2, d3] }
  | _ => none }
def HandleOrderWrongFalsely : Prop := handleOrderRow.holds Try.pinned (OpenSpec.ofChange handleOrderWrong)

/- THE SECOND FORM. 'bulk': how many values and letters a reading holds, each counted each time it is reached (what is shared counts as often as it is met; a slice's spare places count too). A statement '..UptoSaid' is the law's where the arguments, and the package variables that the reading takes, are together of bulk at most 1048576: NARROWER than '..Said'. Prove '..Said' where nothing that the law and all that it calls make is longer than what came in: it says more and counts as full. Else prove '..UptoSaid'. A law counts once. -/
mutual
def uptoBulk {H : Type} : DataW H → Nat
  | .lit (.string bytes) => bytes.length + 1
  | .lit _ => 1
  | .nil => 1
  | .ptr d => uptoBulk d + 1
  | .slice elems spare => uptoBulkAll elems + uptoBulkAll spare + 1
  | .agg parts => uptoBulkAll parts + 1
  | .iface _ d => uptoBulk d + 1
  | .map entries => uptoBulkEntries entries + 1
  | .held _ => 1
def uptoBulkAll {H : Type} : List (DataW H) → Nat
  | [] => 0
  | d :: r => uptoBulk d + uptoBulkAll r
def uptoBulkEntries {H : Type} : List (Lit × DataW H) → Nat
  | [] => 0
  | x :: r => uptoBulkEntry x + uptoBulkEntries r
def uptoBulkEntry {H : Type} : Lit × DataW H → Nat
  | (.string bytes, d) => bytes.length + uptoBulk d + 1
  | (_, d) => uptoBulk d + 1
 end
def uptoSmall : (H : Type) → List (DataW H) → Bool := fun _ ds => decide (uptoBulkAll ds ≤ 1048576)
def OpenSpec.upto (s : _root_.Go.ChangeSpec) : _root_.Go.OpenSpec := { _root_.Go.OpenSpec.ofChange s with cond := some uptoSmall }

/-- 'sidingslaw03.HandleTells', WHERE WHAT IT READS IS OF BULK AT MOST 1048576: true; the input reads as it did. -/
def handleTellsUptoRow : OpenClaim := { program := "ytmicpfilklmbkaa", sum := "fae82b7fd6d990b5f04904aa27f38bca025c3ae7fc1da2683123e478b74adfe2", func := "sidings/sidingslaw03.HandleTells", spec := "handleTells", apart := false, narrowed := true }
def HandleTellsUptoSaid : Prop := handleTellsUptoRow.holds Try.pinned (OpenSpec.upto handleTellsSpec)

/-- 'sidingslaw03.HandleBack', WHERE WHAT IT READS IS OF BULK AT MOST 1048576: true; the input reads as it did. -/
def handleBackUptoRow : OpenClaim := { program := "ytmicpfilklmbkaa", sum := "fae82b7fd6d990b5f04904aa27f38bca025c3ae7fc1da2683123e478b74adfe2", func := "sidings/sidingslaw03.HandleBack", spec := "handleBack", apart := false, narrowed := true }
def HandleBackUptoSaid : Prop := handleBackUptoRow.holds Try.pinned (OpenSpec.upto handleBackSpec)

/-- 'sidingslaw03.HandleApart', WHERE WHAT IT READS IS OF BULK AT MOST 1048576: true; the input reads as it did. -/
def handleApartUptoRow : OpenClaim := { program := "ytmicpfilklmbkaa", sum := "fae82b7fd6d990b5f04904aa27f38bca025c3ae7fc1da2683123e478b74adfe2", func := "sidings/sidingslaw03.HandleApart", spec := "handleApart", apart := false, narrowed := true }
def HandleApartUptoSaid : Prop := handleApartUptoRow.holds Try.pinned (OpenSpec.upto handleApartSpec)

/-- 'sidingslaw03.HandleRounds', WHERE WHAT IT READS IS OF BULK AT MOST 1048576: true; the input reads as it did. -/
def handleRoundsUptoRow : OpenClaim := { program := "ytmicpfilklmbkaa", sum := "fae82b7fd6d990b5f04904aa27f38bca025c3ae7fc1da2683123e478b74adfe2", func := "sidings/sidingslaw03.HandleRounds", spec := "handleRounds", apart := false, narrowed := true }
def HandleRoundsUptoSaid : Prop := handleRoundsUptoRow.holds Try.pinned (OpenSpec.upto handleRoundsSpec)

/-- 'sidingslaw03.HandleSlots', WHERE WHAT IT READS IS OF BULK AT MOST 1048576: true; the input reads as it did. -/
def handleSlotsUptoRow : OpenClaim := { program := "ytmicpfilklmbkaa", sum := "fae82b7fd6d990b5f04904aa27f38bca025c3ae7fc1da2683123e478b74adfe2", func := "sidings/sidingslaw03.HandleSlots", spec := "handleSlots", apart := false, narrowed := true }
def HandleSlotsUptoSaid : Prop := handleSlotsUptoRow.holds Try.pinned (OpenSpec.upto handleSlotsSpec)

/-- 'sidingslaw03.HandleOrder', WHERE WHAT IT READS IS OF BULK AT MOST 1048576: true; the input reads as it did. -/
def handleOrderUptoRow : OpenClaim := { program := "ytmicpfilklmbkaa", sum := "fae82b7fd6d990b5f04904aa27f38bca025c3ae7fc1da2683123e478b74adfe2", func := "sidings/sidingslaw03.HandleOrder", spec := "handleOrder", apart := false, narrowed := true }
def HandleOrderUptoSaid : Prop := handleOrderUptoRow.holds Try.pinned (OpenSpec.upto handleOrderSpec)

end Rows
end Go.Proofs.Ytmicpfilklmbkaa
