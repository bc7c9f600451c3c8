/-
  NARROWER THAN 'FOR EVERY INPUT', by the rows' own cells (each row's printed sentence says how): WriteGuards: laid · WriteWaits: laid · WriteNil: laid · WriteTwice: laid · PinSteps: laid · PinAlone: laid · PinCounts: laid · PinWaits: laid · PinNil: laid · PinBack: laid.
  DERIVED. THE GIVEN ROWS OF THIS SEAT. 10 by the template 'for every input the law returns true; each argument reads behind the call as it read before'; 0 by the template 'total and deterministic' (their statements: YtnojemmpgaibkaaDoorTotals.lean).
  GIVEN WITH THE SEED: the statements are not yours to turn. If you find one false, say at which input.
  Laid BY PROGRAM, IN A SANDBOX (cutbox-rows.mjs): the forced cells as the released guide's own fill.sh prints them over the translation e2b1d22107c22ee9… (all of the seat's roots in one cut). By AI agents, Wed Nov 11 2026. No macro, syntax, notation, axiom, sorry.
-/
import Derived.Test.YtnojemmpgaibkaaDoorChecked
import GoSem.Claim
import GoSem.ClaimJoined
import GoSem.ClaimMapViews
import Derived.JoinedTies
import Derived.KernelRfl
namespace Go.Proofs.YtnojemmpgaibkaaDoor
/- THE CELL 'sum', in the pinned program and in every row, IS THE sha256 OF THE DUMP (.gsa) THAT YtnojemmpgaibkaaDoorProg.lean LOADS. Nothing in Lean hashes anything: it is a label: what it is worth is what the hold of that sum in a sandbox is worth. -/
noncomputable def Tryd.pinned : Pinned := { name := "ytnojemmpgaibkaadoor", sum := "e2b1d22107c22ee9cac220aa5563e898d0e446b7ca57d8c62e682c7777934419", checked := Tryd.checked }
namespace Rows
def none {H : Type} : Left H := { results := [], args := [] }

/- WHAT THE LISTED PACKAGE-LEVEL VARIABLES READ AS WHEN THE CALL BEGINS. Each datum BY PROGRAM (the guide's laid-datum.mjs) off the statement by which the dump's own 'gosem.cut.vars' lays the variable. In a bare row this is a premise. The card (YtnojemmpgaibkaaDoorCards.lean) ties it to the program's text. -/
def laid_sidings_entry_fields {H : Type} : DataW H := .agg [.agg [.lit (.int .i64 0), .lit (.int .i64 20)], .agg [.lit (.int .i64 20), .lit (.int .i64 20)], .agg [.lit (.int .i64 40), .lit (.int .i64 4)], .agg [.lit (.int .i64 44), .lit (.int .i64 4)], .agg [.lit (.int .i64 48), .lit (.int .i64 1)], .agg [.lit (.int .i64 49), .lit (.int .i64 1)]]
def laid_sidings_head_topField {H : Type} : DataW H := .agg [.lit (.int .i64 0), .lit (.int .i64 20)]
def laid_sidings_head_tagField {H : Type} : DataW H := .agg [.lit (.int .i64 20), .lit (.int .i64 32)]

/-- 'sidingslaw13.WriteGuards': WHATEVER THE INPUT: true; the input reads as it did. -/
def writeGuardsSpec : ChangeSpec := { name := "writeGuards", fn := fun _ => fun
  | [d] => { results := [.lit (.bool true)], args := [d] }
  | _ => none }
def writeGuardsRow : OpenClaim := { program := "ytnojemmpgaibkaadoor", sum := "e2b1d22107c22ee9cac220aa5563e898d0e446b7ca57d8c62e682c7777934419", func := "sidings/sidingslaw13.WriteGuards", spec := "writeGuards", unfollowed := true, recurses := true, named := ["sidings/head.topField", "sidings/head.tagField", "sidings/entry.fields"], apart := false, laid := [("sidings/entry.fields", laid_sidings_entry_fields), ("sidings/head.topField", laid_sidings_head_topField), ("sidings/head.tagField", laid_sidings_head_tagField)] }
def WriteGuardsSaid : Prop := writeGuardsRow.holds Tryd.pinned (OpenSpec.ofChange writeGuardsSpec)

/-- ITS FALSE NEIGHBOUR: 'it returns false'. Refute it at one input. -/
def writeGuardsWrong : ChangeSpec := { name := "writeGuards", fn := fun _ => fun
  | [d] => { results := [.lit (.bool false)], args := [d] }
  | _ => none }
def WriteGuardsWrongFalsely : Prop := writeGuardsRow.holds Tryd.pinned (OpenSpec.ofChange writeGuardsWrong)

/-- 'sidingslaw13.WriteWaits': WHATEVER THE INPUT: true; the input reads as it did. -/
def writeWaitsSpec : ChangeSpec := { name := "writeWaits", fn := fun _ => fun
  | [d1, d2, d3] => { results := [.lit (.bool true)], args := [d1, d2, d3] }
  | _ => none }
def writeWaitsRow : OpenClaim := { program := "ytnojemmpgaibkaadoor", sum := "e2b1d22107c22ee9cac220aa5563e898d0e446b7ca57d8c62e682c7777934419", func := "sidings/sidingslaw13.WriteWaits", spec := "writeWaits", unfollowed := true, recurses := true, named := ["sidings/head.topField", "sidings/head.tagField", "sidings/entry.fields"], apart := false, laid := [("sidings/entry.fields", laid_sidings_entry_fields), ("sidings/head.topField", laid_sidings_head_topField), ("sidings/head.tagField", laid_sidings_head_tagField)] }
def WriteWaitsSaid : Prop := writeWaitsRow.holds Tryd.pinned (OpenSpec.ofChange writeWaitsSpec)

/-- ITS FALSE NEIGHBOUR: 'it returns false'. Refute it at one input. -/
def writeWaitsWrong : ChangeSpec := { name := "writeWaits", fn := fun _ => fun
  | [d1, d2, d3] => { results := [.lit (.bool false)], args := [d1, d2, d3] }
  | _ => none }
def WriteWaitsWrongFalsely : Prop := writeWaitsRow.holds Tryd.pinned (OpenSpec.ofChange writeWaitsWrong)

/-- 'sidingslaw13.WriteNil': WHATEVER THE INPUT: true; the input reads as it did. -/
def writeNilSpec : ChangeSpec := { name := "writeNil", fn := fun _ => fun
  | [d1, d2] => { results := [.lit (.bool true)], args := [d1, d2] }
  | _ => none }
def writeNilRow : OpenClaim := { program := "ytnojemmpgaibkaadoor", sum := "e2b1d22107c22ee9cac220aa5563e898d0e446b7ca57d8c62e682c7777934419", func := "sidings/sidingslaw13.WriteNil", spec := "writeNil", unfollowed := true, recurses := true, named := ["sidings/head.topField", "sidings/head.tagField", "sidings/entry.fields"], apart := false, laid := [("sidings/entry.fields", laid_sidings_entry_fields), ("sidings/head.topField", laid_sidings_head_topField), ("sidings/head.tagField", laid_sidings_head_tagField)] }
def WriteNilSaid : Prop := writeNilRow.holds Tryd.pinned (OpenSpec.ofChange writeNilSpec)

/-- ITS FALSE NEIGHBOUR: 'it returns false'. Refute it at one input. -/
def writeNilWrong : ChangeSpec := { name := "writeNil", fn := fun _ => fun
  | [d1, d2] => { results := [.lit (.bool false)], args := [d1, d2] }
  | _ => none }
def WriteNilWrongFalsely : Prop := writeNilRow.holds Tryd.pinned (OpenSpec.ofChange writeNilWrong)

/-- 'sidingslaw13.WriteTwice': WHATEVER THE INPUT: true; the input reads as it did. -/
def writeTwiceSpec : ChangeSpec := { name := "writeTwice", fn := fun _ => fun
  | [d1, d2] => { results := [.lit (.bool true)], args := [d1, d2] }
  | _ => none }
def writeTwiceRow : OpenClaim := { program := "ytnojemmpgaibkaadoor", sum := "e2b1d22107c22ee9cac220aa5563e898d0e446b7ca57d8c62e682c7777934419", func := "sidings/sidingslaw13.WriteTwice", spec := "writeTwice", unfollowed := true, recurses := true, named := ["sidings/head.topField", "sidings/head.tagField", "sidings/entry.fields"], apart := false, laid := [("sidings/entry.fields", laid_sidings_entry_fields), ("sidings/head.topField", laid_sidings_head_topField), ("sidings/head.tagField", laid_sidings_head_tagField)] }
def WriteTwiceSaid : Prop := writeTwiceRow.holds Tryd.pinned (OpenSpec.ofChange writeTwiceSpec)

/-- ITS FALSE NEIGHBOUR: 'it returns false'. Refute it at one input. -/
def writeTwiceWrong : ChangeSpec := { name := "writeTwice", fn := fun _ => fun
  | [d1, d2] => { results := [.lit (.bool false)], args := [d1, d2] }
  | _ => none }
def WriteTwiceWrongFalsely : Prop := writeTwiceRow.holds Tryd.pinned (OpenSpec.ofChange writeTwiceWrong)

/-- 'sidingslaw14.PinSteps': WHATEVER THE INPUT: true; the input reads as it did. -/
def pinStepsSpec : ChangeSpec := { name := "pinSteps", fn := fun _ => fun
  | [d1, d2, d3] => { results := [.lit (.bool true)], args := [d1, d2, d3] }
  | _ => none }
def pinStepsRow : OpenClaim := { program := "ytnojemmpgaibkaadoor", sum := "e2b1d22107c22ee9cac220aa5563e898d0e446b7ca57d8c62e682c7777934419", func := "sidings/sidingslaw14.PinSteps", spec := "pinSteps", unfollowed := true, recurses := true, named := ["sidings/head.topField", "sidings/head.tagField", "sidings/entry.fields"], apart := false, laid := [("sidings/entry.fields", laid_sidings_entry_fields), ("sidings/head.topField", laid_sidings_head_topField), ("sidings/head.tagField", laid_sidings_head_tagField)] }
def PinStepsSaid : Prop := pinStepsRow.holds Tryd.pinned (OpenSpec.ofChange pinStepsSpec)

/-- ITS FALSE NEIGHBOUR: 'it returns false'. Refute it at one input. -/
def pinStepsWrong : ChangeSpec := { name := "pinSteps", fn := fun _ => fun
  | [d1, d2, d3] => { results := [.lit (.bool false)], args := [d1, d2, d3] }
  | _ => none }
def PinStepsWrongFalsely : Prop := pinStepsRow.holds Tryd.pinned (OpenSpec.ofChange pinStepsWrong)

/-- 'sidingslaw14.PinAlone': WHATEVER THE INPUT: true; the input reads as it did. -/
def pinAloneSpec : ChangeSpec := { name := "pinAlone", fn := fun _ => fun
  | [d1, d2, d3] => { results := [.lit (.bool true)], args := [d1, d2, d3] }
  | _ => none }
def pinAloneRow : OpenClaim := { program := "ytnojemmpgaibkaadoor", sum := "e2b1d22107c22ee9cac220aa5563e898d0e446b7ca57d8c62e682c7777934419", func := "sidings/sidingslaw14.PinAlone", spec := "pinAlone", unfollowed := true, recurses := true, named := ["sidings/head.topField", "sidings/head.tagField", "sidings/entry.fields"], apart := false, laid := [("sidings/entry.fields", laid_sidings_entry_fields), ("sidings/head.topField", laid_sidings_head_topField), ("sidings/head.tagField", laid_sidings_head_tagField)] }
def PinAloneSaid : Prop := pinAloneRow.holds Tryd.pinned (OpenSpec.ofChange pinAloneSpec)

/-- ITS FALSE NEIGHBOUR: 'it returns false'. Refute it at one input. -/
def pinAloneWrong : ChangeSpec := { name := "pinAlone", fn := fun _ => fun
  | [d1, d2, d3] => { results := [.lit (.bool false)], args := [d1, d2, d3] }
  | _ => none }
def PinAloneWrongFalsely : Prop := pinAloneRow.holds Tryd.pinned (OpenSpec.ofChange pinAloneWrong)

/-- 'sidingslaw14.PinCounts': WHATEVER THE INPUT: true; the input reads as it did. -/
def pinCountsSpec : ChangeSpec := { name := "pinCounts", fn := fun _ => fun
  | [d] => { results := [.lit (.bool true)], args := [d] }
  | _ => none }
def pinCountsRow : OpenClaim := { program := "ytnojemmpgaibkaadoor", sum := "e2b1d22107c22ee9cac220aa5563e898d0e446b7ca57d8c62e682c7777934419", func := "sidings/sidingslaw14.PinCounts", spec := "pinCounts", unfollowed := true, recurses := true, named := ["sidings/head.topField", "sidings/head.tagField", "sidings/entry.fields"], apart := false, laid := [("sidings/entry.fields", laid_sidings_entry_fields), ("sidings/head.topField", laid_sidings_head_topField), ("sidings/head.tagField", laid_sidings_head_tagField)] }
def PinCountsSaid : Prop := pinCountsRow.holds Tryd.pinned (OpenSpec.ofChange pinCountsSpec)

/-- ITS FALSE NEIGHBOUR: 'it returns false'. Refute it at one input. -/
def pinCountsWrong : ChangeSpec := { name := "pinCounts", fn := fun _ => fun
  | [d] => { results := [.lit (.bool false)], args := [d] }
  | _ => none }
def PinCountsWrongFalsely : Prop := pinCountsRow.holds Tryd.pinned (OpenSpec.ofChange pinCountsWrong)

/-- 'sidingslaw14.PinWaits': WHATEVER THE INPUT: true; the input reads as it did. -/
def pinWaitsSpec : ChangeSpec := { name := "pinWaits", fn := fun _ => fun
  | [d] => { results := [.lit (.bool true)], args := [d] }
  | _ => none }
def pinWaitsRow : OpenClaim := { program := "ytnojemmpgaibkaadoor", sum := "e2b1d22107c22ee9cac220aa5563e898d0e446b7ca57d8c62e682c7777934419", func := "sidings/sidingslaw14.PinWaits", spec := "pinWaits", unfollowed := true, recurses := true, named := ["sidings/head.topField", "sidings/head.tagField", "sidings/entry.fields"], apart := false, laid := [("sidings/entry.fields", laid_sidings_entry_fields), ("sidings/head.topField", laid_sidings_head_topField), ("sidings/head.tagField", laid_sidings_head_tagField)] }
def PinWaitsSaid : Prop := pinWaitsRow.holds Tryd.pinned (OpenSpec.ofChange pinWaitsSpec)

/-- ITS FALSE NEIGHBOUR: 'it returns false'. Refute it at one input. -/
def pinWaitsWrong : ChangeSpec := { name := "pinWaits", fn := fun _ => fun
  | [d] => { results := [.lit (.bool false)], args := [d] }
  | _ => none }
def PinWaitsWrongFalsely : Prop := pinWaitsRow.holds Tryd.pinned (OpenSpec.ofChange pinWaitsWrong)

/-- 'sidingslaw14.PinNil': WHATEVER THE INPUT: true; the input reads as it did. -/
def pinNilSpec : ChangeSpec := { name := "pinNil", fn := fun _ => fun
  | [d1, d2, d3] => { results := [.lit (.bool true)], args := [d1, d2, d3] }
  | _ => none }
def pinNilRow : OpenClaim := { program := "ytnojemmpgaibkaadoor", sum := "e2b1d22107c22ee9cac220aa5563e898d0e446b7ca57d8c62e682c7777934419", func := "sidings/sidingslaw14.PinNil", spec := "pinNil", unfollowed := true, recurses := true, named := ["sidings/head.topField", "sidings/head.tagField", "sidings/entry.fields"], apart := false, laid := [("sidings/entry.fields", laid_sidings_entry_fields), ("sidings/head.topField", laid_sidings_head_topField), ("sidings/head.tagField", laid_sidings_head_tagField)] }
def PinNilSaid : Prop := pinNilRow.holds Tryd.pinned (OpenSpec.ofChange pinNilSpec)

/-- ITS FALSE NEIGHBOUR: 'it returns false'. Refute it at one input. -/
def pinNilWrong : ChangeSpec := { name := "pinNil", fn := fun _ => fun
  | [d1, d2, d3] => { results := [.lit (.bool false)], args := [d1, d2, d3] }
  | _ => none }
def PinNilWrongFalsely : Prop := pinNilRow.holds Tryd.pinned (OpenSpec.ofChange pinNilWrong)

/-- 'sidingslaw14.PinBack': WHATEVER THE INPUT: true; the input reads as it did. -/
def pinBackSpec : ChangeSpec := { name := "pinBack", fn := fun _ => fun
  | [d1, d2] => { results := [.lit (.bool true)], args := [d1, d2] }
  | _ => none }
def pinBackRow : OpenClaim := { program := "ytnojemmpgaibkaadoor", sum := "e2b1d22107c22ee9cac220aa5563e898d0e446b7ca57d8c62e682c7777934419", func := "sidings/sidingslaw14.PinBack", spec := "pinBack", unfollowed := true, recurses := true, named := ["sidings/head.topField", "sidings/head.tagField", "sidings/entry.fields"], apart := false, laid := [("sidings/entry.fields", laid_sidings_entry_fields), ("sidings/head.topField", laid_sidings_head_topField), ("sidings/head.tagField", laid_sidings_head_tagField)] }
def PinBackSaid : Prop := pinBackRow.holds Tryd.pinned (OpenSpec.ofChange pinBackSpec)

/-- ITS FALSE NEIGHBOUR: 'it returns false'. Refute it at one input. -/
def pinBackWrong : ChangeSpec := { name := "pinBack", fn := fun _ => fun
  | [d1, d2] => { results := [.lit (.bool false)], args := [d1, d2] }
  | _ => none }
def PinBackWrongFalsely : Prop := pinBackRow.holds Tryd.pinned (OpenSpec.ofChange pinBackWrong)

/- THE SECOND FORM. 'bulk': how many values and letters a reading holds, each counted each time it is reached (what is shared counts as often as it is met; a slice's spare places count too). A statement '..UptoSaid' is the law's where the arguments, and the package variables that the reading takes, are together of bulk at most 1048576: NARROWER than '..Said'. Prove '..Said' where nothing that the law and all that it calls make is longer than what came in: it says more and counts as full. Else prove '..UptoSaid'. A law counts once. -/
mutual
def uptoBulk {H : Type} : DataW H → Nat
  | .lit (.string bytes) => bytes.length + 1
  | .lit _ => 1
  | .nil => 1
  | .ptr d => uptoBulk d + 1
  | .slice elems spare => uptoBulkAll elems + uptoBulkAll spare + 1
  | .agg parts => uptoBulkAll parts + 1
  | .iface _ d => uptoBulk d + 1
  | .map entries => uptoBulkEntries entries + 1
  | .held _ => 1
def uptoBulkAll {H : Type} : List (DataW H) → Nat
  | [] => 0
  | d :: r => uptoBulk d + uptoBulkAll r
def uptoBulkEntries {H : Type} : List (Lit × DataW H) → Nat
  | [] => 0
  | x :: r => uptoBulkEntry x + uptoBulkEntries r
def uptoBulkEntry {H : Type} : Lit × DataW H → Nat
  | (.string bytes, d) => bytes.length + uptoBulk d + 1
  | (_, d) => uptoBulk d + 1
 end
def uptoSmall : (H : Type) → List (DataW H) → Bool := fun _ ds => decide (uptoBulkAll ds ≤ 1048576)
def OpenSpec.upto (s : _root_.Go.ChangeSpec) : _root_.Go.OpenSpec := { _root_.Go.OpenSpec.ofChange s with cond := some uptoSmall }

/-- 'sidingslaw13.WriteGuards', WHERE WHAT IT READS IS OF BULK AT MOST 1048576: true; the input reads as it did. -/
def writeGuardsUptoRow : OpenClaim := { program := "ytnojemmpgaibkaadoor", sum := "e2b1d22107c22ee9cac220aa5563e898d0e446b7ca57d8c62e682c7777934419", func := "sidings/sidingslaw13.WriteGuards", spec := "writeGuards", unfollowed := true, recurses := true, named := ["sidings/head.topField", "sidings/head.tagField", "sidings/entry.fields"], apart := false, laid := [("sidings/entry.fields", laid_sidings_entry_fields), ("sidings/head.topField", laid_sidings_head_topField), ("sidings/head.tagField", laid_sidings_head_tagField)], narrowed := true }
def WriteGuardsUptoSaid : Prop := writeGuardsUptoRow.holds Tryd.pinned (OpenSpec.upto writeGuardsSpec)

/-- 'sidingslaw13.WriteWaits', WHERE WHAT IT READS IS OF BULK AT MOST 1048576: true; the input reads as it did. -/
def writeWaitsUptoRow : OpenClaim := { program := "ytnojemmpgaibkaadoor", sum := "e2b1d22107c22ee9cac220aa5563e898d0e446b7ca57d8c62e682c7777934419", func := "sidings/sidingslaw13.WriteWaits", spec := "writeWaits", unfollowed := true, recurses := true, named := ["sidings/head.topField", "sidings/head.tagField", "sidings/entry.fields"], apart := false, laid := [("sidings/entry.fields", laid_sidings_entry_fields), ("sidings/head.topField", laid_sidings_head_topField), ("sidings/head.tagField", laid_sidings_head_tagField)], narrowed := true }
def WriteWaitsUptoSaid : Prop := writeWaitsUptoRow.holds Tryd.pinned (OpenSpec.upto writeWaitsSpec)

/-- 'sidingslaw13.WriteNil', WHERE WHAT IT READS IS OF BULK AT MOST 1048576: true; the input reads as it did. -/
def writeNilUptoRow : OpenClaim := { program := "ytnojemmpgaibkaadoor", sum := "e2b1d22107c22ee9cac220aa5563e898d0e446b7ca57d8c62e682c7777934419", func := "sidings/sidingslaw13.WriteNil", spec := "writeNil", unfollowed := true, recurses := true, named := ["sidings/head.topField", "sidings/head.tagField", "sidings/entry.fields"], apart := false, laid := [("sidings/entry.fields", laid_sidings_entry_fields), ("sidings/head.topField", laid_sidings_head_topField), ("sidings/head.tagField", laid_sidings_head_tagField)], narrowed := true }
def WriteNilUptoSaid : Prop := writeNilUptoRow.holds Tryd.pinned (OpenSpec.upto writeNilSpec)

/-- 'sidingslaw13.WriteTwice', WHERE WHAT IT READS IS OF BULK AT MOST 1048576: true; the input reads as it did. -/
def writeTwiceUptoRow : OpenClaim := { program := "ytnojemmpgaibkaadoor", sum := "e2b1d22107c22ee9cac220aa5563e898d0e446b7ca57d8c62e682c7777934419", func := "sidings/sidingslaw13.WriteTwice", spec := "writeTwice", unfollowed := true, recurses := true, named := ["sidings/head.topField", "sidings/head.tagField", "sidings/entry.fields"], apart := false, laid := [("sidings/entry.fields", laid_sidings_entry_fields), ("sidings/head.topField", laid_sidings_head_topField), ("sidings/head.tagField", laid_sidings_head_tagField)], narrowed := true }
def WriteTwiceUptoSaid : Prop := writeTwiceUptoRow.holds Tryd.pinned (OpenSpec.upto writeTwiceSpec)

/-- 'sidingslaw14.PinSteps', WHERE WHAT IT READS IS OF BULK AT MOST 1048576: true; the input reads as it did. -/
def pinStepsUptoRow : OpenClaim := { program := "ytnojemmpgaibkaadoor", sum := "e2b1d22107c22ee9cac220aa5563e898d0e446b7ca57d8c62e682c7777934419", func := "sidings/sidingslaw14.PinSteps", spec := "pinSteps", unfollowed := true, recurses := true, named := ["sidings/head.topField", "sidings/head.tagField", "sidings/entry.fields"], apart := false, laid := [("sidings/entry.fields", laid_sidings_entry_fields), ("sidings/head.topField", laid_sidings_head_topField), ("sidings/head.tagField", laid_sidings_head_tagField)], narrowed := true }
def PinStepsUptoSaid : Prop := pinStepsUptoRow.holds Tryd.pinned (OpenSpec.upto pinStepsSpec)

/-- 'sidingslaw14.PinAlone', WHERE WHAT IT READS IS OF BULK AT MOST 1048576: true; the input reads as it did. -/
def pinAloneUptoRow : OpenClaim := { program := "ytnojemmpgaibkaadoor", sum := "e2b1d22107c22ee9cac220aa5563e898d0e446b7ca57d8c62e682c7777934419", func := "sidings/sidingslaw14.PinAlone", spec := "pinAlone", unfollowed := true, recurses := true, named := ["sidings/head.topField", "sidings/head.tagField", "sidings/entry.fields"], apart := false, laid := [("sidings/entry.fields", laid_sidings_entry_fields), ("sidings/head.topField", laid_sidings_head_topField), ("sidings/head.tagField", laid_sidings_head_tagField)], narrowed := true }
def PinAloneUptoSaid : Prop := pinAloneUptoRow.holds Tryd.pinned (OpenSpec.upto pinAloneSpec)

/-- 'sidingslaw14.PinCounts', WHERE WHAT IT READS IS OF BULK AT MOST 1048576: true; the input reads as it did. -/
def pinCountsUptoRow : OpenClaim := { program := "ytnojemmpgaibkaadoor", sum := "e2b1d22107c22ee9cac220aa5563e898d0e446b7ca57d8c62e682c7777934419", func := "sidings/sidingslaw14.PinCounts", spec := "pinCounts", unfollowed := true, recurses := true, named := ["sidings/head.topField", "sidings/head.tagField", "sidings/entry.fields"], apart := false, laid := [("sidings/entry.fields", laid_sidings_entry_fields), ("sidings/head.topField", laid_sidings_head_topField), ("sidings/head.tagField", laid_sidings_head_tagField)], narrowed := true }
def PinCountsUptoSaid : Prop := pinCountsUptoRow.holds Tryd.pinned (OpenSpec.upto pinCountsSpec)

/-- 'sidingslaw14.PinWaits', WHERE WHAT IT READS IS OF BULK AT MOST 1048576: true; the input reads as it did. -/
def pinWaitsUptoRow : OpenClaim := { program := "ytnojemmpgaibkaadoor", sum := "e2b1d22107c22ee9cac220aa5563e898d0e446b7ca57d8c62e682c7777934419", func := "sidings/sidingslaw14.PinWaits", spec := "pinWaits", unfollowed := true, recurses := true, named := ["sidings/head.topField", "sidings/head.tagField", "sidings/entry.fields"], apart := false, laid := [("sidings/entry.fields", laid_sidings_entry_fields), ("sidings/head.topField", laid_sidings_head_topField), ("sidings/head.tagField", laid_sidings_head_tagField)], narrowed := true }
def PinWaitsUptoSaid : Prop := pinWaitsUptoRow.holds Tryd.pinned (OpenSpec.upto pinWaitsSpec)

/-- 'sidingslaw14.PinNil', WHERE WHAT IT READS IS OF BULK AT MOST 1048576: true; the input reads as it did. -/
def pinNilUptoRow : OpenClaim := { program := "ytnojemmpgaibkaadoor", sum := "e2b1d22107c22ee9cac220aa5563e898d0e446b7ca57d8c62e682c7777934419", func := "sidings/sidingslaw14.PinNil", spec := "pinNil", unfollowed := true, recurses := true, named := ["sidings/head.topField", "sidings/head.tagField", "sidings/entry.fields"], apart := false, laid := [("sidings/entry.fields", laid_sidings_entry_fields), ("sidings/head.topField", laid_sidings_head_topField), ("sidings/head.tagField", laid_sidings_head_tagField)], narrowed := true }
def PinNilUptoSaid : Prop := pinNilUptoRow.holds Tryd.pinned (OpenSpec.upto pinNilSpec)

/-- 'sidingslaw14.PinBack', WHERE WHAT IT READS IS OF BULK AT MOST 1048576: true; the input reads as it did. -/
def pinBackUptoRow : OpenClaim := { program := "ytnojemmpgaibkaadoor", sum := "e2b1d22107c22ee9cac220aa5563e898d0e446b7ca57d8c62e682c7777934419", func := "sidings/sidingslaw14.PinBack", spec := "pinBack", unfollowed := true, recurses := true, named := ["sidings/head.topField", "sidings/head.tagField", "sidings/entry.fields"], apart := false, laid := [("sidings/entry.fields", laid_sidings_entry_fields), ("sidings/head.topField", laid_sidings_head_topField), ("sidings/head.tagField", laid_sidings_head_tagField)], narrowed := true }
def PinBackUptoSaid : Prop := pinBackUptoRow.holds Tryd.pinned (OpenSpec.upto pinBackSpec)

end Rows
end Go.Proofs.YtnojemmpgaibkaaDoor
