/-
  NARROWER THAN 'FOR EVERY INPUT', by the rows' own cells (each row's printed sentence says how): ReadMoved: laid · ReadWaits: laid · ReadNil: laid · ReadSame: laid.
  DERIVED. THE GIVEN ROWS OF THIS SEAT. 4 by the template 'for every input the law returns true; each argument reads behind the call as it read before'; 0 by the template 'total and deterministic' (their statements: YtnahjnbhmlomcaaDoorTotals.lean).
  GIVEN WITH THE SEED: the statements are not yours to turn. If you find one false, say at which input.
  Laid BY PROGRAM, IN A SANDBOX (cutbox-rows.mjs): the forced cells as the released guide's own fill.sh prints them over the translation 4914ab8e366a0a79… (all of the seat's roots in one cut). By AI agents, Wed Nov 11 2026. No macro, syntax, notation, axiom, sorry.
-/
import Derived.Test.YtnahjnbhmlomcaaDoorChecked
import GoSem.Claim
import GoSem.ClaimJoined
import GoSem.ClaimMapViews
import Derived.JoinedTies
import Derived.KernelRfl
namespace Go.Proofs.YtnahjnbhmlomcaaDoor
/- THE CELL 'sum', in the pinned program and in every row, IS THE sha256 OF THE DUMP (.gsa) THAT YtnahjnbhmlomcaaDoorProg.lean LOADS. Nothing in Lean hashes anything: it is a label: what it is worth is what the hold of that sum in a sandbox is worth. -/
noncomputable def Tryd.pinned : Pinned := { name := "ytnahjnbhmlomcaadoor", sum := "4914ab8e366a0a79405731e5e965da84dd4a903a1297081d35f6c08c6fccc8d2", checked := Tryd.checked }
namespace Rows
def none {H : Type} : Left H := { results := [], args := [] }

/- WHAT THE LISTED PACKAGE-LEVEL VARIABLES READ AS WHEN THE CALL BEGINS. Each datum BY PROGRAM (the guide's laid-datum.mjs) off the statement by which the dump's own 'gosem.cut.vars' lays the variable. In a bare row this is a premise. The card (YtnahjnbhmlomcaaDoorCards.lean) ties it to the program's text. -/
def laid_sidings_entry_fields {H : Type} : DataW H := .agg [.agg [.lit (.int .i64 0), .lit (.int .i64 20)], .agg [.lit (.int .i64 20), .lit (.int .i64 20)], .agg [.lit (.int .i64 40), .lit (.int .i64 4)], .agg [.lit (.int .i64 44), .lit (.int .i64 4)], .agg [.lit (.int .i64 48), .lit (.int .i64 1)], .agg [.lit (.int .i64 49), .lit (.int .i64 1)]]
def laid_sidings_head_topField {H : Type} : DataW H := .agg [.lit (.int .i64 0), .lit (.int .i64 20)]
def laid_sidings_head_tagField {H : Type} : DataW H := .agg [.lit (.int .i64 20), .lit (.int .i64 32)]

/-- 'sidingslaw12.ReadMoved': WHATEVER THE INPUT: true; the input reads as it did. -/
def readMovedSpec : ChangeSpec := { name := "readMoved", fn := fun _ => fun
  | [d] => { results := [.lit (.bool true)], args := [d] }
  | _ => none }
def readMovedRow : OpenClaim := { program := "ytnahjnbhmlomcaadoor", sum := "4914ab8e366a0a79405731e5e965da84dd4a903a1297081d35f6c08c6fccc8d2", func := "sidings/sidingslaw12.ReadMoved", spec := "readMoved", unfollowed := true, recurses := true, named := ["sidings/head.topField", "sidings/head.tagField", "sidings/entry.fields"], apart := false, laid := [("sidings/entry.fields", laid_sidings_entry_fields), ("sidings/head.topField", laid_sidings_head_topField), ("sidings/head.tagField", laid_sidings_head_tagField)] }
def ReadMovedSaid : Prop := readMovedRow.holds Tryd.pinned (OpenSpec.ofChange readMovedSpec)

/-- ITS FALSE NEIGHBOUR: 'it returns false'. Refute it at one input. -/
def readMovedWrong : ChangeSpec := { name := "readMoved", fn := fun _ => fun
  | [d] => { results := [.lit (.bool false)], args := [d] }
  | _ => none }
def ReadMovedWrongFalsely : Prop := readMovedRow.holds Tryd.pinned (OpenSpec.ofChange readMovedWrong)

/-- 'sidingslaw12.ReadWaits': WHATEVER THE INPUT: true; the input reads as it did. -/
def readWaitsSpec : ChangeSpec := { name := "readWaits", fn := fun _ => fun
  | [d1, d2] => { results := [.lit (.bool true)], args := [d1, d2] }
  | _ => none }
def readWaitsRow : OpenClaim := { program := "ytnahjnbhmlomcaadoor", sum := "4914ab8e366a0a79405731e5e965da84dd4a903a1297081d35f6c08c6fccc8d2", func := "sidings/sidingslaw12.ReadWaits", spec := "readWaits", unfollowed := true, recurses := true, named := ["sidings/head.topField", "sidings/head.tagField", "sidings/entry.fields"], apart := false, laid := [("sidings/entry.fields", laid_sidings_entry_fields), ("sidings/head.topField", laid_sidings_head_topField), ("sidings/head.tagField", laid_sidings_head_tagField)] }
def ReadWaitsSaid : Prop := readWaitsRow.holds Tryd.pinned (OpenSpec.ofChange readWaitsSpec)

/-- ITS FALSE NEIGHBOUR: 'it returns false'. Refute it at one input. -/
def readWaitsWrong : ChangeSpec := { name := "readWaits", fn := fun _ => fun
  | [d1, d2] => { results := [.lit (.bool false)], args := [d1, d2] }
  | _ => none }
def ReadWaitsWrongFalsely : Prop := readWaitsRow.holds Tryd.pinned (OpenSpec.ofChange readWaitsWrong)

/-- 'sidingslaw12.ReadNil': WHATEVER THE INPUT: true; the input reads as it did. -/
def readNilSpec : ChangeSpec := { name := "readNil", fn := fun _ => fun
  | [d1, d2, d3] => { results := [.lit (.bool true)], args := [d1, d2, d3] }
  | _ => none }
def readNilRow : OpenClaim := { program := "ytnahjnbhmlomcaadoor", sum := "4914ab8e366a0a79405731e5e965da84dd4a903a1297081d35f6c08c6fccc8d2", func := "sidings/sidingslaw12.ReadNil", spec := "readNil", unfollowed := true, recurses := true, named := ["sidings/head.topField", "sidings/head.tagField", "sidings/entry.fields"], apart := false, laid := [("sidings/entry.fields", laid_sidings_entry_fields), ("sidings/head.topField", laid_sidings_head_topField), ("sidings/head.tagField", laid_sidings_head_tagField)] }
def ReadNilSaid : Prop := readNilRow.holds Tryd.pinned (OpenSpec.ofChange readNilSpec)

/-- ITS FALSE NEIGHBOUR: 'it returns false'. Refute it at one input. -/
def readNilWrong : ChangeSpec := { name := "readNil", fn := fun _ => fun
  | [d1, d2, d3] => { results := [.lit (.bool false)], args := [d1, d2, d3] }
  | _ => none }
def ReadNilWrongFalsely : Prop := readNilRow.holds Tryd.pinned (OpenSpec.ofChange readNilWrong)

/-- 'sidingslaw12.ReadSame': WHATEVER THE INPUT: true; the input reads as it did. -/
def readSameSpec : ChangeSpec := { name := "readSame", fn := fun _ => fun
  | [d1, d2, d3] => { results := [.lit (.bool true)], args := [d1, d2, d3] }
  | _ => none }
def readSameRow : OpenClaim := { program := "ytnahjnbhmlomcaadoor", sum := "4914ab8e366a0a79405731e5e965da84dd4a903a1297081d35f6c08c6fccc8d2", func := "sidings/sidingslaw12.ReadSame", spec := "readSame", unfollowed := true, recurses := true, named := ["sidings/head.topField", "sidings/head.tagField", "sidings/entry.fields"], apart := false, laid := [("sidings/entry.fields", laid_sidings_entry_fields), ("sidings/head.topField", laid_sidings_head_topField), ("sidings/head.tagField", laid_sidings_head_tagField)] }
def ReadSameSaid : Prop := readSameRow.holds Tryd.pinned (OpenSpec.ofChange readSameSpec)

/-- ITS FALSE NEIGHBOUR: 'it returns false'. Refute it at one input. -/
def readSameWrong : ChangeSpec := { name := "readSame", fn := fun _ => fun
  | [d1, d2, d3] => { results := [.lit (.bool false)], args := [d1, d2, d3] }
  | _ => none }
def ReadSameWrongFalsely : Prop := readSameRow.holds Tryd.pinned (OpenSpec.ofChange readSameWrong)

/- THE SECOND FORM. 'bulk': how many values and letters a reading holds, each counted each time it is reached (what is shared counts as often as it is met; a slice's spare places count too). A statement '..UptoSaid' is the law's where the arguments, and the package variables that the reading takes, are together of bulk at most 1048576: NARROWER than '..Said'. Prove '..Said' where nothing that the law and all that it calls make is longer than what came in: it says more and counts as full. Else prove '..UptoSaid'. A law counts once. -/
mutual
def uptoBulk {H : Type} : DataW H → Nat
  | .lit (.string bytes) => bytes.length + 1
  | .lit _ => 1
  | .nil => 1
  | .ptr d => uptoBulk d + 1
  | .slice elems spare => uptoBulkAll elems + uptoBulkAll spare + 1
  | .agg parts => uptoBulkAll parts + 1
  | .iface _ d => uptoBulk d + 1
  | .map entries => uptoBulkEntries entries + 1
  | .held _ => 1
def uptoBulkAll {H : Type} : List (DataW H) → Nat
  | [] => 0
  | d :: r => uptoBulk d + uptoBulkAll r
def uptoBulkEntries {H : Type} : List (Lit × DataW H) → Nat
  | [] => 0
  | x :: r => uptoBulkEntry x + uptoBulkEntries r
def uptoBulkEntry {H : Type} : Lit × DataW H → Nat
  | (.string bytes, d) => bytes.length + uptoBulk d + 1
  | (_, d) => uptoBulk d + 1
 end
def uptoSmall : (H : Type) → List (DataW H) → Bool := fun _ ds => decide (uptoBulkAll ds ≤ 1048576)
def OpenSpec.upto (s : _root_.Go.ChangeSpec) : _root_.Go.OpenSpec := { _root_.Go.OpenSpec.ofChange s with cond := some uptoSmall }

/-- 'sidingslaw12.ReadMoved', WHERE WHAT IT READS IS OF BULK AT MOST 1048576: true; the input reads as it did. -/
def readMovedUptoRow : OpenClaim := { program := "ytnahjnbhmlomcaadoor", sum := "4914ab8e366a0a79405731e5e965da84dd4a903a1297081d35f6c08c6fccc8d2", func := "sidings/sidingslaw12.ReadMoved", spec := "readMoved", unfollowed := true, recurses := true, named := ["sidings/head.topField", "sidings/head.tagField", "sidings/entry.fields"], apart := false, laid := [("sidings/entry.fields", laid_sidings_entry_fields), ("sidings/head.topField", laid_sidings_head_topField), ("sidings/head.tagField", laid_sidings_head_tagField)], narrowed := true }
def ReadMovedUptoSaid : Prop := readMovedUptoRow.holds Tryd.pinned (OpenSpec.upto readMovedSpec)

/-- 'sidingslaw12.ReadWaits', WHERE WHAT IT READS IS OF BULK AT MOST 1048576: true; the input reads as it did. -/
def readWaitsUptoRow : OpenClaim := { program := "ytnahjnbhmlomcaadoor", sum := "4914ab8e366a0a79405731e5e965da84dd4a903a1297081d35f6c08c6fccc8d2", func := "sidings/sidingslaw12.ReadWaits", spec := "readWaits", unfollowed := true, recurses := true, named := ["sidings/head.topField", "sidings/head.tagField", "sidings/entry.fields"], apart := false, laid := [("sidings/entry.fields", laid_sidings_entry_fields), ("sidings/head.topField", laid_sidings_head_topField), ("sidings/head.tagField", laid_sidings_head_tagField)], narrowed := true }
def ReadWaitsUptoSaid : Prop := readWaitsUptoRow.holds Tryd.pinned (OpenSpec.upto readWaitsSpec)

/-- 'sidingslaw12.ReadNil', WHERE WHAT IT READS IS OF BULK AT MOST 1048576: true; the input reads as it did. -/
def readNilUptoRow : OpenClaim := { program := "ytnahjnbhmlomcaadoor", sum := "4914ab8e366a0a79405731e5e965da84dd4a903a1297081d35f6c08c6fccc8d2", func := "sidings/sidingslaw12.ReadNil", spec := "readNil", unfollowed := true, recurses := true, named := ["sidings/head.topField", "sidings/head.tagField", "sidings/entry.fields"], apart := false, laid := [("sidings/entry.fields", laid_sidings_entry_fields), ("sidings/head.topField", laid_sidings_head_topField), ("sidings/head.tagField", laid_sidings_head_tagField)], narrowed := true }
def ReadNilUptoSaid : Prop := readNilUptoRow.holds Tryd.pinned (OpenSpec.upto readNilSpec)

/-- 'sidingslaw12.ReadSame', WHERE WHAT IT READS IS OF BULK AT MOST 1048576: true; the input reads as it did. -/
def readSameUptoRow : OpenClaim := { program := "ytnahjnbhmlomcaadoor", sum := "4914ab8e366a0a79405731e5e965da84dd4a903a1297081d35f6c08c6fccc8d2", func := "sidings/sidingslaw12.ReadSame", spec := "readSame", unfollowed := true, recurses := true, named := ["sidings/head.topField", "sidings/head.tagField", "sidings/entry.fields"], apart := false, laid := [("sidings/entry.fields", laid_sidings_entry_fields), ("sidings/head.topField", laid_sidings_head_topField), ("sidings/head.tagField", laid_sidings_head_tagField)], narrowed := true }
def ReadSameUptoSaid : Prop := readSameUptoRow.holds Tryd.pinned (OpenSpec.upto readSameSpec)

end Rows
end Go.Proofs.YtnahjnbhmlomcaaDoor
