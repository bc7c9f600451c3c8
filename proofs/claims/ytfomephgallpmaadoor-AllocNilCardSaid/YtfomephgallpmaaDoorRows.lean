/-
  NARROWER THAN 'FOR EVERY INPUT', by the rows' own cells (each row's printed sentence says how): AllocAlone: laid · AllocApart: laid · AllocNil: laid · AllocFull: laid.
  DERIVED. THE GIVEN ROWS OF THIS SEAT. 4 by the template 'for every input the law returns true; each argument reads behind the call as it read before'; 0 by the template 'total and deterministic' (their statements: YtfomephgallpmaaDoorTotals.lean).
  GIVEN WITH THE SEED: the statements are not yours to turn. If you find one false, say at which input.
  Laid BY PROGRAM, IN A SANDBOX (cutbox-rows.mjs): the forced cells as the released guide's own fill.sh prints them over the translation 18a22b68be6a31f3… (all of the seat's roots in one cut). By AI agents, Wed Nov 11 2026. No macro, syntax, notation, axiom, sorry.
-/
import Derived.Test.YtfomephgallpmaaDoorChecked
import GoSem.Claim
import GoSem.ClaimJoined
import GoSem.ClaimMapViews
import Derived.JoinedTies
import Derived.KernelRfl
namespace Go.Proofs.YtfomephgallpmaaDoor
/- THE CELL 'sum', in the pinned program and in every row, IS THE sha256 OF THE DUMP (.gsa) THAT YtfomephgallpmaaDoorProg.lean LOADS. Nothing in Lean hashes anything: it is a label: what it is worth is what the hold of that sum in a sandbox is worth. -/
noncomputable def Tryd.pinned : Pinned := { name := "ytfomephgallpmaadoor", sum := "18a22b68be6a31f3035d2d7d4adc36762e9fce219b999bb19a7998bc48b86de0", checked := Tryd.checked }
namespace Rows
def none {H : Type} : Left H := { results := [], args := [] }

/- WHAT THE LISTED PACKAGE-LEVEL VARIABLES READ AS WHEN THE CALL BEGINS. Each datum BY PROGRAM (the guide's laid-datum.mjs) off the statement by which the dump's own 'gosem.cut.vars' lays the variable. In a bare row this is a premise. The card (YtfomephgallpmaaDoorCards.lean) ties it to the program's text. -/
def laid_sidings_entry_fields {H : Type} : DataW H := .agg [.agg [.lit (.int .i64 0), .lit (.int .i64 20)], .agg [.lit (.int .i64 20), .lit (.int .i64 20)], .agg [.lit (.int .i64 40), .lit (.int .i64 4)], .agg [.lit (.int .i64 44), .lit (.int .i64 4)], .agg [.lit (.int .i64 48), .lit (.int .i64 1)], .agg [.lit (.int .i64 49), .lit (.int .i64 1)]]
def laid_sidings_head_topField {H : Type} : DataW H := .agg [.lit (.int .i64 0), .lit (.int .i64 20)]
def laid_sidings_head_tagField {H : Type} : DataW H := .agg [.lit (.int .i64 20), .lit (.int .i64 32)]

/-- 'sidingslaw11.AllocAlone': WHATEVER THE INPUT: true; the input reads as it did. -/
def allocAloneSpec : ChangeSpec := { name := "allocAlone", fn := fun _ => fun
  | [d1, d2, d3] => { results := [.lit (.bool true)], args := [d1, d2, d3] }
  | _ => none }
def allocAloneRow : OpenClaim := { program := "ytfomephgallpmaadoor", sum := "18a22b68be6a31f3035d2d7d4adc36762e9fce219b999bb19a7998bc48b86de0", func := "sidings/sidingslaw11.AllocAlone", spec := "allocAlone", unfollowed := true, recurses := true, named := ["sidings/head.topField", "sidings/head.tagField", "sidings/entry.fields"], apart := false, laid := [("sidings/entry.fields", laid_sidings_entry_fields), ("sidings/head.topField", laid_sidings_head_topField), ("sidings/head.tagField", laid_sidings_head_tagField)] }
def AllocAloneSaid : Prop := allocAloneRow.holds Tryd.pinned (OpenSpec.ofChange allocAloneSpec)

/-- ITS FALSE NEIGHBOUR: 'it returns false'. Refute it at one input. -/
def allocAloneWrong : ChangeSpec := { name := "allocAlone", fn := fun _ => fun
  | [d1, d2, d3] => { results := [.lit (.bool false)], args := [d1, d2, d3] }
  | _ => none }
def AllocAloneWrongFalsely : Prop := allocAloneRow.holds Tryd.pinned (OpenSpec.ofChange allocAloneWrong)

/-- 'sidingslaw11.AllocApart': WHATEVER THE INPUT: true; the input reads as it did. -/
def allocApartSpec : ChangeSpec := { name := "allocApart", fn := fun _ => fun
  | [d1, d2] => { results := [.lit (.bool true)], args := [d1, d2] }
  | _ => none }
def allocApartRow : OpenClaim := { program := "ytfomephgallpmaadoor", sum := "18a22b68be6a31f3035d2d7d4adc36762e9fce219b999bb19a7998bc48b86de0", func := "sidings/sidingslaw11.AllocApart", spec := "allocApart", unfollowed := true, recurses := true, named := ["sidings/head.topField", "sidings/head.tagField", "sidings/entry.fields"], apart := false, laid := [("sidings/entry.fields", laid_sidings_entry_fields), ("sidings/head.topField", laid_sidings_head_topField), ("sidings/head.tagField", laid_sidings_head_tagField)] }
def AllocApartSaid : Prop := allocApartRow.holds Tryd.pinned (OpenSpec.ofChange allocApartSpec)

/-- ITS FALSE NEIGHBOUR: 'it returns false'. Refute it at one input. -/
def allocApartWrong : ChangeSpec := { name := "allocApart", fn := fun _ => fun
  | [d1, d2] => { results := [.lit (.bool false)], args := [d1, d2] }
  | _ => none }
def AllocApartWrongFalsely : Prop := allocApartRow.holds Tryd.pinned (OpenSpec.ofChange allocApartWrong)

/-- 'sidingslaw11.AllocNil': WHATEVER THE INPUT: true; the input reads as it did. -/
def allocNilSpec : ChangeSpec := { name := "allocNil", fn := fun _ => fun
  | [d1, d2] => { results := [.lit (.bool true)], args := [d1, d2] }
  | _ => none }
def allocNilRow : OpenClaim := { program := "ytfomephgallpmaadoor", sum := "18a22b68be6a31f3035d2d7d4adc36762e9fce219b999bb19a7998bc48b86de0", func := "sidings/sidingslaw11.AllocNil", spec := "allocNil", unfollowed := true, recurses := true, named := ["sidings/head.topField", "sidings/head.tagField", "sidings/entry.fields"], apart := false, laid := [("sidings/entry.fields", laid_sidings_entry_fields), ("sidings/head.topField", laid_sidings_head_topField), ("sidings/head.tagField", laid_sidings_head_tagField)] }
def AllocNilSaid : Prop := allocNilRow.holds Tryd.pinned (OpenSpec.ofChange allocNilSpec)

/-- ITS FALSE NEIGHBOUR: 'it returns false'. Refute it at one input. -/
def allocNilWrong : ChangeSpec := { name := "allocNil", fn := fun _ => fun
  | [d1, d2] => { results := [.lit (.bool false)], args := [d1, d2] }
  | _ => none }
def AllocNilWrongFalsely : Prop := allocNilRow.holds Tryd.pinned (OpenSpec.ofChange allocNilWrong)

/-- 'sidingslaw11.AllocFull': WHATEVER THE INPUT: true; the input reads as it did. -/
def allocFullSpec : ChangeSpec := { name := "allocFull", fn := fun _ => fun
  | [d1, d2] => { results := [.lit (.bool true)], args := [d1, d2] }
  | _ => none }
def allocFullRow : OpenClaim := { program := "ytfomephgallpmaadoor", sum := "18a22b68be6a31f3035d2d7d4adc36762e9fce219b999bb19a7998bc48b86de0", func := "sidings/sidingslaw11.AllocFull", spec := "allocFull", unfollowed := true, recurses := true, named := ["sidings/head.topField", "sidings/head.tagField", "sidings/entry.fields"], apart := false, laid := [("sidings/entry.fields", laid_sidings_entry_fields), ("sidings/head.topField", laid_sidings_head_topField), ("sidings/head.tagField", laid_sidings_head_tagField)] }
def AllocFullSaid : Prop := allocFullRow.holds Tryd.pinned (OpenSpec.ofChange allocFullSpec)

/-- ITS FALSE NEIGHBOUR: 'it returns false'. Refute it at one input. -/
def allocFullWrong : ChangeSpec := { name := "allocFull", fn := fun _ => fun
  | [d1, d2] => { results := [.lit (.bool false)], args := [d1, d2] }
  | _ => none }
def AllocFullWrongFalsely : Prop := allocFullRow.holds Tryd.pinned (OpenSpec.ofChange allocFullWrong)

/- THE SECOND FORM. 'bulk': how many values and letters a reading holds, each counted each time it is reached (what is shared counts as often as it is met; a slice's spare places count too). A statement '..UptoSaid' is the law's where the arguments, and the package variables that the reading takes, are together of bulk at most 1048576: NARROWER than '..Said'. Prove '..Said' where nothing that the law and all that it calls make is longer than what came in: it says more and counts as full. Else prove '..UptoSaid'. A law counts once. -/
mutual
def uptoBulk {H : Type} : DataW H → Nat
  | .lit (.string bytes) => bytes.length + 1
  | .lit _ => 1
  | .nil => 1
  | .ptr d => uptoBulk d + 1
  | .slice elems spare => uptoBulkAll elems + uptoBulkAll spare + 1
  | .agg parts => uptoBulkAll parts + 1
  | .iface _ d => uptoBulk d + 1
  | .map entries => uptoBulkEntries entries + 1
  | .held _ => 1
def uptoBulkAll {H : Type} : List (DataW H) → Nat
  | [] => 0
  | d :: r => uptoBulk d + uptoBulkAll r
def uptoBulkEntries {H : Type} : List (Lit × DataW H) → Nat
  | [] => 0
  | x :: r => uptoBulkEntry x + uptoBulkEntries r
def uptoBulkEntry {H : Type} : Lit × DataW H → Nat
  | (.string bytes, d) => bytes.length + uptoBulk d + 1
  | (_, d) => uptoBulk d + 1
 end
def uptoSmall : (H : Type) → List (DataW H) → Bool := fun _ ds => decide (uptoBulkAll ds ≤ 1048576)
def OpenSpec.upto (s : _root_.Go.ChangeSpec) : _root_.Go.OpenSpec := { _root_.Go.OpenSpec.ofChange s with cond := some uptoSmall }

/-- 'sidingslaw11.AllocAlone', WHERE WHAT IT READS IS OF BULK AT MOST 1048576: true; the input reads as it did. -/
def allocAloneUptoRow : OpenClaim := { program := "ytfomephgallpmaadoor", sum := "18a22b68be6a31f3035d2d7d4adc36762e9fce219b999bb19a7998bc48b86de0", func := "sidings/sidingslaw11.AllocAlone", spec := "allocAlone", unfollowed := true, recurses := true, named := ["sidings/head.topField", "sidings/head.tagField", "sidings/entry.fields"], apart := false, laid := [("sidings/entry.fields", laid_sidings_entry_fields), ("sidings/head.topField", laid_sidings_head_topField), ("sidings/head.tagField", laid_sidings_head_tagField)], narrowed := true }
def AllocAloneUptoSaid : Prop := allocAloneUptoRow.holds Tryd.pinned (OpenSpec.upto allocAloneSpec)

/-- 'sidingslaw11.AllocApart', WHERE WHAT IT READS IS OF BULK AT MOST 1048576: true; the input reads as it did. -/
def allocApartUptoRow : OpenClaim := { program := "ytfomephgallpmaadoor", sum := "18a22b68be6a31f3035d2d7d4adc36762e9fce219b999bb19a7998bc48b86de0", func := "sidings/sidingslaw11.AllocApart", spec := "allocApart", unfollowed := true, recurses := true, named := ["sidings/head.topField", "sidings/head.tagField", "sidings/entry.fields"], apart := false, laid := [("sidings/entry.fields", laid_sidings_entry_fields), ("sidings/head.topField", laid_sidings_head_topField), ("sidings/head.tagField", laid_sidings_head_tagField)], narrowed := true }
def AllocApartUptoSaid : Prop := allocApartUptoRow.holds Tryd.pinned (OpenSpec.upto allocApartSpec)

/-- 'sidingslaw11.AllocNil', WHERE WHAT IT READS IS OF BULK AT MOST 1048576: true; the input reads as it did. -/
def allocNilUptoRow : OpenClaim := { program := "ytfomephgallpmaadoor", sum := "18a22b68be6a31f3035d2d7d4adc36762e9fce219b999bb19a7998bc48b86de0", func := "sidings/sidingslaw11.AllocNil", spec := "allocNil", unfollowed := true, recurses := true, named := ["sidings/head.topField", "sidings/head.tagField", "sidings/entry.fields"], apart := false, laid := [("sidings/entry.fields", laid_sidings_entry_fields), ("sidings/head.topField", laid_sidings_head_topField), ("sidings/head.tagField", laid_sidings_head_tagField)], narrowed := true }
def AllocNilUptoSaid : Prop := allocNilUptoRow.holds Tryd.pinned (OpenSpec.upto allocNilSpec)

/-- 'sidingslaw11.AllocFull', WHERE WHAT IT READS IS OF BULK AT MOST 1048576: true; the input reads as it did. -/
def allocFullUptoRow : OpenClaim := { program := "ytfomephgallpmaadoor", sum := "18a22b68be6a31f3035d2d7d4adc36762e9fce219b999bb19a7998bc48b86de0", func := "sidings/sidingslaw11.AllocFull", spec := "allocFull", unfollowed := true, recurses := true, named := ["sidings/head.topField", "sidings/head.tagField", "sidings/entry.fields"], apart := false, laid := [("sidings/entry.fields", laid_sidings_entry_fields), ("sidings/head.topField", laid_sidings_head_topField), ("sidings/head.tagField", laid_sidings_head_tagField)], narrowed := true }
def AllocFullUptoSaid : Prop := allocFullUptoRow.holds Tryd.pinned (OpenSpec.upto allocFullSpec)

end Rows
end Go.Proofs.YtfomephgallpmaaDoor
