/-
  NARROWER THAN 'FOR EVERY INPUT', by the rows' own cells (each row's printed sentence says how): HeadPacks: laid · HeadTurns: laid · HeadBack: laid · HeadPops: laid · HeadRow: laid · HeadOlder: laid.
  DERIVED. THE GIVEN ROWS OF THIS SEAT. 6 by the template 'for every input the law returns true; each argument reads behind the call as it read before'; 0 by the template 'total and deterministic' (their statements: YtmicpfilklmbkaaDoorTotals.lean).
  GIVEN WITH THE SEED: the statements are not yours to turn. If you find one false, say at which input.
  Laid BY PROGRAM, IN A SANDBOX (cutbox-rows.mjs): the forced cells as the released guide's own fill.sh prints them over the translation 500b6a550e1f1ae2… (all of the seat's roots in one cut). By AI agents, Wed Nov 11 2026. No macro, syntax, notation, axiom, sorry.
-/
import Derived.Test.YtmicpfilklmbkaaDoorChecked
import GoSem.Claim
import GoSem.ClaimJoined
import GoSem.ClaimMapViews
import Derived.JoinedTies
import Derived.KernelRfl
namespace Go.Proofs.YtmicpfilklmbkaaDoor
/- THE CELL 'sum', in the pinned program and in every row, IS THE sha256 OF THE DUMP (.gsa) THAT YtmicpfilklmbkaaDoorProg.lean LOADS. Nothing in Lean hashes anything: it is a label: what it is worth is what the hold of that sum in a sandbox is worth. -/
noncomputable def Tryd.pinned : Pinned := { name := "ytmicpfilklmbkaadoor", sum := "500b6a550e1f1ae2acc6dac6e93a7728bbdc904096e01c9bc4f87c6bf97091c9", checked := Tryd.checked }
namespace Rows
def none {H : Type} : Left H := { results := [], args := [] }

/- WHAT THE LISTED PACKAGE-LEVEL VARIABLES READ AS WHEN THE CALL BEGINS. Each datum BY PROGRAM (the guide's laid-datum.mjs) off the statement by which the dump's own 'gosem.cut.vars' lays the variable. In a bare row this is a premise. The card (YtmicpfilklmbkaaDoorCards.lean) ties it to the program's text. -/
def laid_sidings_head_topField {H : Type} : DataW H := .agg [.lit (.int .i64 0), .lit (.int .i64 20)]
def laid_sidings_head_tagField {H : Type} : DataW H := .agg [.lit (.int .i64 20), .lit (.int .i64 32)]

/-- 'sidingslaw04.HeadPacks': WHATEVER THE INPUT: true; the input reads as it did. -/
def headPacksSpec : ChangeSpec := { name := "headPacks", fn := fun _ => fun
  | [d1, d2, d3] => { results := [.lit (.bool true)], args := [d1, d2, d3] }
  | _ => none }
def headPacksRow : OpenClaim := { program := "ytmicpfilklmbkaadoor", sum := "500b6a550e1f1ae2acc6dac6e93a7728bbdc904096e01c9bc4f87c6bf97091c9", func := "sidings/sidingslaw04.HeadPacks", spec := "headPacks", unfollowed := true, recurses := true, named := ["sidings/head.topField", "sidings/head.tagField"], apart := false, laid := [("sidings/head.topField", laid_sidings_head_topField), ("sidings/head.tagField", laid_sidings_head_tagField)] }
def HeadPacksSaid : Prop := headPacksRow.holds Tryd.pinned (OpenSpec.ofChange headPacksSpec)

/-- ITS FALSE NEIGHBOUR: 'it returns false'. Refute it at one input. -/
def headPacksWrong : ChangeSpec := { name := "headPacks", fn := fun _ => fun
  | [d1, d2, d3] => { results := [.lit (.bool false)], args := [d1, d2, d3] }
  | _ => none }
def HeadPacksWrongFalsely : Prop := headPacksRow.holds Tryd.pinned (OpenSpec.ofChange headPacksWrong)

/-- 'sidingslaw04.HeadTurns': WHATEVER THE INPUT: true; the input reads as it did. -/
def headTurnsSpec : ChangeSpec := { name := "headTurns", fn := fun _ => fun
  | [d1, d2] => { results := [.lit (.bool true)], args := [d1, d2] }
  | _ => none }
def headTurnsRow : OpenClaim := { program := "ytmicpfilklmbkaadoor", sum := "500b6a550e1f1ae2acc6dac6e93a7728bbdc904096e01c9bc4f87c6bf97091c9", func := "sidings/sidingslaw04.HeadTurns", spec := "headTurns", unfollowed := true, recurses := true, named := ["sidings/head.topField", "sidings/head.tagField"], apart := false, laid := [("sidings/head.topField", laid_sidings_head_topField), ("sidings/head.tagField", laid_sidings_head_tagField)] }
def HeadTurnsSaid : Prop := headTurnsRow.holds Tryd.pinned (OpenSpec.ofChange headTurnsSpec)

/-- ITS FALSE NEIGHBOUR: 'it returns false'. Refute it at one input. -/
def headTurnsWrong : ChangeSpec := { name := "headTurns", fn := fun _ => fun
  | [d1, d2] => { results := [.lit (.bool false)], args := [d1, d2] }
  | _ => none }
def HeadTurnsWrongFalsely : Prop := headTurnsRow.holds Tryd.pinned (OpenSpec.ofChange headTurnsWrong)

/-- 'sidingslaw04.HeadBack': WHATEVER THE INPUT: true; the input reads as it did. -/
def headBackSpec : ChangeSpec := { name := "headBack", fn := fun _ => fun
  | [d1, d2, d3] => { results := [.lit (.bool true)], args := [d1, d2, d3] }
  | _ => none }
def headBackRow : OpenClaim := { program := "ytmicpfilklmbkaadoor", sum := "500b6a550e1f1ae2acc6dac6e93a7728bbdc904096e01c9bc4f87c6bf97091c9", func := "sidings/sidingslaw04.HeadBack", spec := "headBack", unfollowed := true, recurses := true, named := ["sidings/head.topField", "sidings/head.tagField"], apart := false, laid := [("sidings/head.topField", laid_sidings_head_topField), ("sidings/head.tagField", laid_sidings_head_tagField)] }
def HeadBackSaid : Prop := headBackRow.holds Tryd.pinned (OpenSpec.ofChange headBackSpec)

/-- ITS FALSE NEIGHBOUR: 'it returns false'. Refute it at one input. -/
def headBackWrong : ChangeSpec := { name := "headBack", fn := fun _ => fun
  | [d1, d2, d3] => { results := [.lit (.bool false)], args := [d1, d2, d3] }
  | _ => none }
def HeadBackWrongFalsely : Prop := headBackRow.holds Tryd.pinned (OpenSpec.ofChange headBackWrong)

/-- 'sidingslaw04.HeadPops': WHATEVER THE INPUT: true; the input reads as it did. -/
def headPopsSpec : ChangeSpec := { name := "headPops", fn := fun _ => fun
  | [d1, d2] => { results := [.lit (.bool true)], args := [d1, d2] }
  | _ => none }
def headPopsRow : OpenClaim := { program := "ytmicpfilklmbkaadoor", sum := "500b6a550e1f1ae2acc6dac6e93a7728bbdc904096e01c9bc4f87c6bf97091c9", func := "sidings/sidingslaw04.HeadPops", spec := "headPops", unfollowed := true, recurses := true, named := ["sidings/head.topField", "sidings/head.tagField"], apart := false, laid := [("sidings/head.topField", laid_sidings_head_topField), ("sidings/head.tagField", laid_sidings_head_tagField)] }
def HeadPopsSaid : Prop := headPopsRow.holds Tryd.pinned (OpenSpec.ofChange headPopsSpec)

/-- ITS FALSE NEIGHBOUR: 'it returns false'. Refute it at one input. -/
def headPopsWrong : ChangeSpec := { name := "headPops", fn := fun _ => fun
  | [d1, d2] => { results := [.lit (.bool false)], args := [d1, d2] }
  | _ => none }
def HeadPopsWrongFalsely : Prop := headPopsRow.holds Tryd.pinned (OpenSpec.ofChange headPopsWrong)

/-- 'sidingslaw04.HeadRow': WHATEVER THE INPUT: true; the input reads as it did. -/
def headRowSpec : ChangeSpec := { name := "headRow", fn := fun _ => fun
  | [d] => { results := [.lit (.bool true)], args := [d] }
  | _ => none }
def headRowRow : OpenClaim := { program := "ytmicpfilklmbkaadoor", sum := "500b6a550e1f1ae2acc6dac6e93a7728bbdc904096e01c9bc4f87c6bf97091c9", func := "sidings/sidingslaw04.HeadRow", spec := "headRow", unfollowed := true, recurses := true, named := ["sidings/head.topField", "sidings/head.tagField"], apart := false, laid := [("sidings/head.topField", laid_sidings_head_topField), ("sidings/head.tagField", laid_sidings_head_tagField)] }
def HeadRowSaid : Prop := headRowRow.holds Tryd.pinned (OpenSpec.ofChange headRowSpec)

/-- ITS FALSE NEIGHBOUR: 'it returns false'. Refute it at one input. -/
def headRowWrong : ChangeSpec := { name := "headRow", fn := fun _ => fun
  | [d] => { results := [.lit (.bool false)], args := [d] }
  | _ => none }
def HeadRowWrongFalsely : Prop := headRowRow.holds Tryd.pinned (OpenSpec.ofChange headRowWrong)

/-- 'sidingslaw04.HeadOlder': WHATEVER THE INPUT: true; the input reads as it did. -/
def headOlderSpec : ChangeSpec := { name := "headOlder", fn := fun _ => fun
  | [d1, d2, d3] => { results := [.lit (.bool true)], args := [d1, d2, d3] }
  | _ => none }
def headOlderRow : OpenClaim := { program := "ytmicpfilklmbkaadoor", sum := "500b6a550e1f1ae2acc6dac6e93a7728bbdc904096e01c9bc4f87c6bf97091c9", func := "sidings/sidingslaw04.HeadOlder", spec := "headOlder", unfollowed := true, recurses := true, named := ["sidings/head.topField", "sidings/head.tagField"], apart := false, laid := [("sidings/head.topField", laid_sidings_head_topField), ("sidings/head.tagField", laid_sidings_head_tagField)] }
def HeadOlderSaid : Prop := headOlderRow.holds Tryd.pinned (OpenSpec.ofChange headOlderSpec)

/-- ITS FALSE NEIGHBOUR: 'it returns false'. Refute it at one input. -/
def headOlderWrong : ChangeSpec := { name := "headOlder", fn := fun _ => fun
  | [d1, d2, d3] => { results := [.lit (.bool false)], args := [d1, d2, d3] }
  | _ => none }
def HeadOlderWrongFalsely : Prop := headOlderRow.holds Tryd.pinned (OpenSpec.ofChange headOlderWrong)

/- THE SECOND FORM. 'bulk': how many values and letters a reading holds, each counted each time it is reached (what is shared counts as often as it is met; a slice's spare places count too). A statement '..UptoSaid' is the law's where the arguments, and the package variables that the reading takes, are together of bulk at most 1048576: NARROWER than '..Said'. Prove '..Said' where nothing that the law and all that it calls make is longer than what came in: it says more and counts as full. Else prove '..UptoSaid'. A law counts once. -/
mutual
def uptoBulk {H : Type} : DataW H → Nat
  | .lit (.string bytes) => bytes.length + 1
  | .lit _ => 1
  | .nil => 1
  | .ptr d => uptoBulk d + 1
  | .slice elems spare => uptoBulkAll elems + uptoBulkAll spare + 1
  | .agg parts => uptoBulkAll parts + 1
  | .iface _ d => uptoBulk d + 1
  | .map entries => uptoBulkEntries entries + 1
  | .held _ => 1
def uptoBulkAll {H : Type} : List (DataW H) → Nat
  | [] => 0
  | d :: r => uptoBulk d + uptoBulkAll r
def uptoBulkEntries {H : Type} : List (Lit × DataW H) → Nat
  | [] => 0
  | x :: r => uptoBulkEntry x + uptoBulkEntries r
def uptoBulkEntry {H : Type} : Lit × DataW H → Nat
  | (.string bytes, d) => bytes.length + uptoBulk d + 1
  | (_, d) => uptoBulk d + 1
 end
def uptoSmall : (H : Type) → List (DataW H) → Bool := fun _ ds => decide (uptoBulkAll ds ≤ 1048576)
def OpenSpec.upto (s : _root_.Go.ChangeSpec) : _root_.Go.OpenSpec := { _root_.Go.OpenSpec.ofChange s with cond := some uptoSmall }

/-- 'sidingslaw04.HeadPacks', WHERE WHAT IT READS IS OF BULK AT MOST 1048576: true; the input reads as it did. -/
def headPacksUptoRow : OpenClaim := { program := "ytmicpfilklmbkaadoor", sum := "500b6a550e1f1ae2acc6dac6e93a7728bbdc904096e01c9bc4f87c6bf97091c9", func := "sidings/sidingslaw04.HeadPacks", spec := "headPacks", unfollowed := true, recurses := true, named := ["sidings/head.topField", "sidings/head.tagField"], apart := false, laid := [("sidings/head.topField", laid_sidings_head_topField), ("sidings/head.tagField", laid_sidings_head_tagField)], narrowed := true }
def HeadPacksUptoSaid : Prop := headPacksUptoRow.holds Tryd.pinned (OpenSpec.upto headPacksSpec)

/-- 'sidingslaw04.HeadTurns', WHERE WHAT IT READS IS OF BULK AT MOST 1048576: true; the input reads as it did. -/
def headTurnsUptoRow : OpenClaim := { program := "ytmicpfilklmbkaadoor", sum := "500b6a550e1f1ae2acc6dac6e93a7728bbdc904096e01c9bc4f87c6bf97091c9", func := "sidings/sidingslaw04.HeadTurns", spec := "headTurns", unfollowed := true, recurses := true, named := ["sidings/head.topField", "sidings/head.tagField"], apart := false, laid := [("sidings/head.topField", laid_sidings_head_topField), ("sidings/head.tagField", laid_sidings_head_tagField)], narrowed := true }
def HeadTurnsUptoSaid : Prop := headTurnsUptoRow.holds Tryd.pinned (OpenSpec.upto headTurnsSpec)

/-- 'sidingslaw04.HeadBack', WHERE WHAT IT READS IS OF BULK AT MOST 1048576: true; the input reads as it did. -/
def headBackUptoRow : OpenClaim := { program := "ytmicpfilklmbkaadoor", sum := "500b6a550e1f1ae2acc6dac6e93a7728bbdc904096e01c9bc4f87c6bf97091c9", func := "sidings/sidingslaw04.HeadBack", spec := "headBack", unfollowed := true, recurses := true, named := ["sidings/head.topField", "sidings/head.tagField"], apart := false, laid := [("sidings/head.topField", laid_sidings_head_topField), ("sidings/head.tagField", laid_sidings_head_tagField)], narrowed := true }
def HeadBackUptoSaid : Prop := headBackUptoRow.holds Tryd.pinned (OpenSpec.upto headBackSpec)

/-- 'sidingslaw04.HeadPops', WHERE WHAT IT READS IS OF BULK AT MOST 1048576: true; the input reads as it did. -/
def headPopsUptoRow : OpenClaim := { program := "ytmicpfilklmbkaadoor", sum := "500b6a550e1f1ae2acc6dac6e93a7728bbdc904096e01c9bc4f87c6bf97091c9", func := "sidings/sidingslaw04.HeadPops", spec := "headPops", unfollowed := true, recurses := true, named := ["sidings/head.topField", "sidings/head.tagField"], apart := false, laid := [("sidings/head.topField", laid_sidings_head_topField), ("sidings/head.tagField", laid_sidings_head_tagField)], narrowed := true }
def HeadPopsUptoSaid : Prop := headPopsUptoRow.holds Tryd.pinned (OpenSpec.upto headPopsSpec)

/-- 'sidingslaw04.HeadRow', WHERE WHAT IT READS IS OF BULK AT MOST 1048576: true; the input reads as it did. -/
def headRowUptoRow : OpenClaim := { program := "ytmicpfilklmbkaadoor", sum := "500b6a550e1f1ae2acc6dac6e93a7728bbdc904096e01c9bc4f87c6bf97091c9", func := "sidings/sidingslaw04.HeadRow", spec := "headRow", unfollowed := true, recurses := true, named := ["sidings/head.topField", "sidings/head.tagField"], apart := false, laid := [("sidings/head.topField", laid_sidings_head_topField), ("sidings/head.tagField", laid_sidings_head_tagField)], narrowed := true }
def HeadRowUptoSaid : Prop := headRowUptoRow.holds Tryd.pinned (OpenSpec.upto headRowSpec)

/-- 'sidingslaw04.HeadOlder', WHERE WHAT IT READS IS OF BULK AT MOST 1048576: true; the input reads as it did. -/
def headOlderUptoRow : OpenClaim := { program := "ytmicpfilklmbkaadoor", sum := "500b6a550e1f1ae2acc6dac6e93a7728bbdc904096e01c9bc4f87c6bf97091c9", func := "sidings/sidingslaw04.HeadOlder", spec := "headOlder", unfollowed := true, recurses := true, named := ["sidings/head.topField", "sidings/head.tagField"], apart := false, laid := [("sidings/head.topField", laid_sidings_head_topField), ("sidings/head.tagField", laid_sidings_head_tagField)], narrowed := true }
def HeadOlderUptoSaid : Prop := headOlderUptoRow.holds Tryd.pinned (OpenSpec.upto headOlderSpec)

end Rows
end Go.Proofs.YtmicpfilklmbkaaDoor
