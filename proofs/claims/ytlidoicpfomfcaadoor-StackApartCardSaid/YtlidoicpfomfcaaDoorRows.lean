/-
  NARROWER THAN 'FOR EVERY INPUT', by the rows' own cells (each row's printed sentence says how): StackSteps: laid · StackApart: laid · StackAlone: laid · StackNil: laid · StackLifo: laid.
  DERIVED. THE GIVEN ROWS OF THIS SEAT. 5 by the template 'for every input the law returns true; each argument reads behind the call as it read before'; 0 by the template 'total and deterministic' (their statements: YtlidoicpfomfcaaDoorTotals.lean).
  GIVEN WITH THE SEED: the statements are not yours to turn. If you find one false, say at which input.
  Laid BY PROGRAM, IN A SANDBOX (cutbox-rows.mjs): the forced cells as the released guide's own fill.sh prints them over the translation 96e540a5835173bc… (all of the seat's roots in one cut). By AI agents, Wed Nov 11 2026. No macro, syntax, notation, axiom, sorry.
-/
import Derived.Test.YtlidoicpfomfcaaDoorChecked
import GoSem.Claim
import GoSem.ClaimJoined
import GoSem.ClaimMapViews
import Derived.JoinedTies
import Derived.KernelRfl
namespace Go.Proofs.YtlidoicpfomfcaaDoor
/- THE CELL 'sum', in the pinned program and in every row, IS THE sha256 OF THE DUMP (.gsa) THAT YtlidoicpfomfcaaDoorProg.lean LOADS. Nothing in Lean hashes anything: it is a label: what it is worth is what the hold of that sum in a sandbox is worth. -/
noncomputable def Tryd.pinned : Pinned := { name := "ytlidoicpfomfcaadoor", sum := "96e540a5835173bcdd0ecb2992a1f4b22558f93a2057db4a5f8848a2c59bab82", checked := Tryd.checked }
namespace Rows
def none {H : Type} : Left H := { results := [], args := [] }

/- WHAT THE LISTED PACKAGE-LEVEL VARIABLES READ AS WHEN THE CALL BEGINS. Each datum BY PROGRAM (the guide's laid-datum.mjs) off the statement by which the dump's own 'gosem.cut.vars' lays the variable. In a bare row this is a premise. The card (YtlidoicpfomfcaaDoorCards.lean) ties it to the program's text. -/
def laid_sidings_head_topField {H : Type} : DataW H := .agg [.lit (.int .i64 0), .lit (.int .i64 20)]
def laid_sidings_head_tagField {H : Type} : DataW H := .agg [.lit (.int .i64 20), .lit (.int .i64 32)]

/-- 'sidingslaw10.StackSteps': WHATEVER THE INPUT: true; the input reads as it did. -/
def stackStepsSpec : ChangeSpec := { name := "stackSteps", fn := fun _ => fun
  | [d] => { results := [.lit (.bool true)], args := [d] }
  | _ => none }
def stackStepsRow : OpenClaim := { program := "ytlidoicpfomfcaadoor", sum := "96e540a5835173bcdd0ecb2992a1f4b22558f93a2057db4a5f8848a2c59bab82", func := "sidings/sidingslaw10.StackSteps", spec := "stackSteps", unfollowed := true, recurses := true, named := ["sidings/head.topField", "sidings/head.tagField"], apart := false, laid := [("sidings/head.topField", laid_sidings_head_topField), ("sidings/head.tagField", laid_sidings_head_tagField)] }
def StackStepsSaid : Prop := stackStepsRow.holds Tryd.pinned (OpenSpec.ofChange stackStepsSpec)

/-- ITS FALSE NEIGHBOUR: 'it returns false'. Refute it at one input. -/
def stackStepsWrong : ChangeSpec := { name := "stackSteps", fn := fun _ => fun
  | [d] => { results := [.lit (.bool false)], args := [d] }
  | _ => none }
def StackStepsWrongFalsely : Prop := stackStepsRow.holds Tryd.pinned (OpenSpec.ofChange stackStepsWrong)

/-- 'sidingslaw10.StackApart': WHATEVER THE INPUT: true; the input reads as it did. -/
def stackApartSpec : ChangeSpec := { name := "stackApart", fn := fun _ => fun
  | [d1, d2] => { results := [.lit (.bool true)], args := [d1, d2] }
  | _ => none }
def stackApartRow : OpenClaim := { program := "ytlidoicpfomfcaadoor", sum := "96e540a5835173bcdd0ecb2992a1f4b22558f93a2057db4a5f8848a2c59bab82", func := "sidings/sidingslaw10.StackApart", spec := "stackApart", unfollowed := true, recurses := true, named := ["sidings/head.topField", "sidings/head.tagField"], apart := false, laid := [("sidings/head.topField", laid_sidings_head_topField), ("sidings/head.tagField", laid_sidings_head_tagField)] }
def StackApartSaid : Prop := stackApartRow.holds Tryd.pinned (OpenSpec.ofChange stackApartSpec)

/-- ITS FALSE NEIGHBOUR: 'it returns false'. Refute it at one input. -/
def stackApartWrong : ChangeSpec := { name := "stackApart", fn := fun _ => fun
  | [d1, d2] => { results := [.lit (.bool false)], args := [d1, d2] }
  | _ => none }
def StackApartWrongFalsely : Prop := stackApartRow.holds Tryd.pinned (OpenSpec.ofChange stackApartWrong)

/-- 'sidingslaw10.StackAlone': WHATEVER THE INPUT: true; the input reads as it did. -/
def stackAloneSpec : ChangeSpec := { name := "stackAlone", fn := fun _ => fun
  | [d] => { results := [.lit (.bool true)], args := [d] }
  | _ => none }
def stackAloneRow : OpenClaim := { program := "ytlidoicpfomfcaadoor", sum := "96e540a5835173bcdd0ecb2992a1f4b22558f93a2057db4a5f8848a2c59bab82", func := "sidings/sidingslaw10.StackAlone", spec := "stackAlone", unfollowed := true, recurses := true, named := ["sidings/head.topField", "sidings/head.tagField"], apart := false, laid := [("sidings/head.topField", laid_sidings_head_topField), ("sidings/head.tagField", laid_sidings_head_tagField)] }
def StackAloneSaid : Prop := stackAloneRow.holds Tryd.pinned (OpenSpec.ofChange stackAloneSpec)

/-- ITS FALSE NEIGHBOUR: 'it returns false'. Refute it at one input. -/
def stackAloneWrong : ChangeSpec := { name := "stackAlone", fn := fun _ => fun
  | [d] => { results := [.lit (.bool false)], args := [d] }
  | _ => none }
def StackAloneWrongFalsely : Prop := stackAloneRow.holds Tryd.pinned (OpenSpec.ofChange stackAloneWrong)

/-- 'sidingslaw10.StackNil': WHATEVER THE INPUT: true; the input reads as it did. -/
def stackNilSpec : ChangeSpec := { name := "stackNil", fn := fun _ => fun
  | [d1, d2] => { results := [.lit (.bool true)], args := [d1, d2] }
  | _ => none }
def stackNilRow : OpenClaim := { program := "ytlidoicpfomfcaadoor", sum := "96e540a5835173bcdd0ecb2992a1f4b22558f93a2057db4a5f8848a2c59bab82", func := "sidings/sidingslaw10.StackNil", spec := "stackNil", unfollowed := true, recurses := true, named := ["sidings/head.topField", "sidings/head.tagField"], apart := false, laid := [("sidings/head.topField", laid_sidings_head_topField), ("sidings/head.tagField", laid_sidings_head_tagField)] }
def StackNilSaid : Prop := stackNilRow.holds Tryd.pinned (OpenSpec.ofChange stackNilSpec)

/-- ITS FALSE NEIGHBOUR: 'it returns false'. Refute it at one input. -/
def stackNilWrong : ChangeSpec := { name := "stackNil", fn := fun _ => fun
  | [d1, d2] => { results := [.lit (.bool false)], args := [d1, d2] }
  | _ => none }
def StackNilWrongFalsely : Prop := stackNilRow.holds Tryd.pinned (OpenSpec.ofChange stackNilWrong)

/-- 'sidingslaw10.StackLifo': WHATEVER THE INPUT: true; the input reads as it did. -/
def stackLifoSpec : ChangeSpec := { name := "stackLifo", fn := fun _ => fun
  | [d1, d2] => { results := [.lit (.bool true)], args := [d1, d2] }
  | _ => none }
def stackLifoRow : OpenClaim := { program := "ytlidoicpfomfcaadoor", sum := "96e540a5835173bcdd0ecb2992a1f4b22558f93a2057db4a5f8848a2c59bab82", func := "sidings/sidingslaw10.StackLifo", spec := "stackLifo", unfollowed := true, recurses := true, named := ["sidings/head.topField", "sidings/head.tagField"], apart := false, laid := [("sidings/head.topField", laid_sidings_head_topField), ("sidings/head.tagField", laid_sidings_head_tagField)] }
def StackLifoSaid : Prop := stackLifoRow.holds Tryd.pinned (OpenSpec.ofChange stackLifoSpec)

/-- ITS FALSE NEIGHBOUR: 'it returns false'. Refute it at one input. -/
def stackLifoWrong : ChangeSpec := { name := "stackLifo", fn := fun _ => fun
  | [d1, d2] => { results := [.lit (.bool false)], args := [d1, d2] }
  | _ => none }
def StackLifoWrongFalsely : Prop := stackLifoRow.holds Tryd.pinned (OpenSpec.ofChange stackLifoWrong)

/- THE SECOND FORM. 'bulk': how many values and letters a reading holds, each counted each time it is reached (what is shared counts as often as it is met; a slice's spare places count too). A statement '..UptoSaid' is the law's where the arguments, and the package variables that the reading takes, are together of bulk at most 1048576: NARROWER than '..Said'. Prove '..Said' where nothing that the law and all that it calls make is longer than what came in: it says more and counts as full. Else prove '..UptoSaid'. A law counts once. -/
mutual
def uptoBulk {H : Type} : DataW H → Nat
  | .lit (.string bytes) => bytes.length + 1
  | .lit _ => 1
  | .nil => 1
  | .ptr d => uptoBulk d + 1
  | .slice elems spare => uptoBulkAll elems + uptoBulkAll spare + 1
  | .agg parts => uptoBulkAll parts + 1
  | .iface _ d => uptoBulk d + 1
  | .map entries => uptoBulkEntries entries + 1
  | .held _ => 1
def uptoBulkAll {H : Type} : List (DataW H) → Nat
  | [] => 0
  | d :: r => uptoBulk d + uptoBulkAll r
def uptoBulkEntries {H : Type} : List (Lit × DataW H) → Nat
  | [] => 0
  | x :: r => uptoBulkEntry x + uptoBulkEntries r
def uptoBulkEntry {H : Type} : Lit × DataW H → Nat
  | (.string bytes, d) => bytes.length + uptoBulk d + 1
  | (_, d) => uptoBulk d + 1
 end
def uptoSmall : (H : Type) → List (DataW H) → Bool := fun _ ds => decide (uptoBulkAll ds ≤ 1048576)
def OpenSpec.upto (s : _root_.Go.ChangeSpec) : _root_.Go.OpenSpec := { _root_.Go.OpenSpec.ofChange s with cond := some uptoSmall }

/-- 'sidingslaw10.StackSteps', WHERE WHAT IT READS IS OF BULK AT MOST 1048576: true; the input reads as it did. -/
def stackStepsUptoRow : OpenClaim := { program := "ytlidoicpfomfcaadoor", sum := "96e540a5835173bcdd0ecb2992a1f4b22558f93a2057db4a5f8848a2c59bab82", func := "sidings/sidingslaw10.StackSteps", spec := "stackSteps", unfollowed := true, recurses := true, named := ["sidings/head.topField", "sidings/head.tagField"], apart := false, laid := [("sidings/head.topField", laid_sidings_head_topField), ("sidings/head.tagField", laid_sidings_head_tagField)], narrowed := true }
def StackStepsUptoSaid : Prop := stackStepsUptoRow.holds Tryd.pinned (OpenSpec.upto stackStepsSpec)

/-- 'sidingslaw10.StackApart', WHERE WHAT IT READS IS OF BULK AT MOST 1048576: true; the input reads as it did. -/
def stackApartUptoRow : OpenClaim := { program := "ytlidoicpfomfcaadoor", sum := "96e540a5835173bcdd0ecb2992a1f4b22558f93a2057db4a5f8848a2c59bab82", func := "sidings/sidingslaw10.StackApart", spec := "stackApart", unfollowed := true, recurses := true, named := ["sidings/head.topField", "sidings/head.tagField"], apart := false, laid := [("sidings/head.topField", laid_sidings_head_topField), ("sidings/head.tagField", laid_sidings_head_tagField)], narrowed := true }
def StackApartUptoSaid : Prop := stackApartUptoRow.holds Tryd.pinned (OpenSpec.upto stackApartSpec)

/-- 'sidingslaw10.StackAlone', WHERE WHAT IT READS IS OF BULK AT MOST 1048576: true; the input reads as it did. -/
def stackAloneUptoRow : OpenClaim := { program := "ytlidoicpfomfcaadoor", sum := "96e540a5835173bcdd0ecb2992a1f4b22558f93a2057db4a5f8848a2c59bab82", func := "sidings/sidingslaw10.StackAlone", spec := "stackAlone", unfollowed := true, recurses := true, named := ["sidings/head.topField", "sidings/head.tagField"], apart := false, laid := [("sidings/head.topField", laid_sidings_head_topField), ("sidings/head.tagField", laid_sidings_head_tagField)], narrowed := true }
def StackAloneUptoSaid : Prop := stackAloneUptoRow.holds Tryd.pinned (OpenSpec.upto stackAloneSpec)

/-- 'sidingslaw10.StackNil', WHERE WHAT IT READS IS OF BULK AT MOST 1048576: true; the input reads as it did. -/
def stackNilUptoRow : OpenClaim := { program := "ytlidoicpfomfcaadoor", sum := "96e540a5835173bcdd0ecb2992a1f4b22558f93a2057db4a5f8848a2c59bab82", func := "sidings/sidingslaw10.StackNil", spec := "stackNil", unfollowed := true, recurses := true, named := ["sidings/head.topField", "sidings/head.tagField"], apart := false, laid := [("sidings/head.topField", laid_sidings_head_topField), ("sidings/head.tagField", laid_sidings_head_tagField)], narrowed := true }
def StackNilUptoSaid : Prop := stackNilUptoRow.holds Tryd.pinned (OpenSpec.upto stackNilSpec)

/-- 'sidingslaw10.StackLifo', WHERE WHAT IT READS IS OF BULK AT MOST 1048576: true; the input reads as it did. -/
def stackLifoUptoRow : OpenClaim := { program := "ytlidoicpfomfcaadoor", sum := "96e540a5835173bcdd0ecb2992a1f4b22558f93a2057db4a5f8848a2c59bab82", func := "sidings/sidingslaw10.StackLifo", spec := "stackLifo", unfollowed := true, recurses := true, named := ["sidings/head.topField", "sidings/head.tagField"], apart := false, laid := [("sidings/head.topField", laid_sidings_head_topField), ("sidings/head.tagField", laid_sidings_head_tagField)], narrowed := true }
def StackLifoUptoSaid : Prop := stackLifoUptoRow.holds Tryd.pinned (OpenSpec.upto stackLifoSpec)

end Rows
end Go.Proofs.YtlidoicpfomfcaaDoor
