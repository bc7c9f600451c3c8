/-
  NARROWER THAN 'FOR EVERY INPUT', by the rows' own cells (each row's printed sentence says how): LayoutTells: laid · LayoutStarts: laid · LayoutApart: laid · LayoutFree: laid · LayoutMore: laid · LayoutAgain: laid.
  DERIVED. THE GIVEN ROWS OF THIS SEAT. 6 by the template 'for every input the law returns true; each argument reads behind the call as it read before'; 0 by the template 'total and deterministic' (their statements: YtjcndjfiogbdiaaDoorTotals.lean).
  GIVEN WITH THE SEED: the statements are not yours to turn. If you find one false, say at which input.
  Laid BY PROGRAM, IN A SANDBOX (cutbox-rows.mjs): the forced cells as the released guide's own fill.sh prints them over the translation 55894179afd20434… (all of the seat's roots in one cut). By AI agents, Wed Nov 11 2026. No macro, syntax, notation, axiom, sorry.
-/
import Derived.Test.YtjcndjfiogbdiaaDoorChecked
import GoSem.Claim
import GoSem.ClaimJoined
import GoSem.ClaimMapViews
import Derived.JoinedTies
import Derived.KernelRfl
namespace Go.Proofs.YtjcndjfiogbdiaaDoor
/- THE CELL 'sum', in the pinned program and in every row, IS THE sha256 OF THE DUMP (.gsa) THAT YtjcndjfiogbdiaaDoorProg.lean LOADS. Nothing in Lean hashes anything: it is a label: what it is worth is what the hold of that sum in a sandbox is worth. -/
noncomputable def Tryd.pinned : Pinned := { name := "ytjcndjfiogbdiaadoor", sum := "55894179afd20434e8bc7a250ec3a9174c9ff63711ec405b83157842c6fadd93", checked := Tryd.checked }
namespace Rows
def none {H : Type} : Left H := { results := [], args := [] }

/- WHAT THE LISTED PACKAGE-LEVEL VARIABLES READ AS WHEN THE CALL BEGINS. Each datum BY PROGRAM (the guide's laid-datum.mjs) off the statement by which the dump's own 'gosem.cut.vars' lays the variable. In a bare row this is a premise. The card (YtjcndjfiogbdiaaDoorCards.lean) ties it to the program's text. -/
def laid_sidings_head_topField {H : Type} : DataW H := .agg [.lit (.int .i64 0), .lit (.int .i64 20)]
def laid_sidings_head_tagField {H : Type} : DataW H := .agg [.lit (.int .i64 20), .lit (.int .i64 32)]

/-- 'sidingslaw06.LayoutTells': WHATEVER THE INPUT: true; the input reads as it did. -/
def layoutTellsSpec : ChangeSpec := { name := "layoutTells", fn := fun _ => fun
  | [d1, d2] => { results := [.lit (.bool true)], args := [d1, d2] }
  | _ => none }
def layoutTellsRow : OpenClaim := { program := "ytjcndjfiogbdiaadoor", sum := "55894179afd20434e8bc7a250ec3a9174c9ff63711ec405b83157842c6fadd93", func := "sidings/sidingslaw06.LayoutTells", spec := "layoutTells", unfollowed := true, recurses := true, named := ["sidings/head.topField", "sidings/head.tagField"], apart := false, laid := [("sidings/head.topField", laid_sidings_head_topField), ("sidings/head.tagField", laid_sidings_head_tagField)] }
def LayoutTellsSaid : Prop := layoutTellsRow.holds Tryd.pinned (OpenSpec.ofChange layoutTellsSpec)

/-- ITS FALSE NEIGHBOUR: 'it returns false'. Refute it at one input. -/
def layoutTellsWrong : ChangeSpec := { name := "layoutTells", fn := fun _ => fun
  | [d1, d2] => { results := [.lit (.bool false)], args := [d1, d2] }
  | _ => none }
def LayoutTellsWrongFalsely : Prop := layoutTellsRow.holds Tryd.pinned (OpenSpec.ofChange layoutTellsWrong)

/-- 'sidingslaw06.LayoutStarts': WHATEVER THE INPUT: true; the input reads as it did. -/
def layoutStartsSpec : ChangeSpec := { name := "layoutStarts", fn := fun _ => fun
  | [d] => { results := [.lit (.bool true)], args := [d] }
  | _ => none }
def layoutStartsRow : OpenClaim := { program := "ytjcndjfiogbdiaadoor", sum := "55894179afd20434e8bc7a250ec3a9174c9ff63711ec405b83157842c6fadd93", func := "sidings/sidingslaw06.LayoutStarts", spec := "layoutStarts", unfollowed := true, recurses := true, named := ["sidings/head.topField", "sidings/head.tagField"], apart := false, laid := [("sidings/head.topField", laid_sidings_head_topField), ("sidings/head.tagField", laid_sidings_head_tagField)] }
def LayoutStartsSaid : Prop := layoutStartsRow.holds Tryd.pinned (OpenSpec.ofChange layoutStartsSpec)

/-- ITS FALSE NEIGHBOUR: 'it returns false'. Refute it at one input. -/
def layoutStartsWrong : ChangeSpec := { name := "layoutStarts", fn := fun _ => fun
  | [d] => { results := [.lit (.bool false)], args := [d] }
  | _ => none }
def LayoutStartsWrongFalsely : Prop := layoutStartsRow.holds Tryd.pinned (OpenSpec.ofChange layoutStartsWrong)

/-- 'sidingslaw06.LayoutApart': WHATEVER THE INPUT: true; the input reads as it did. -/
def layoutApartSpec : ChangeSpec := { name := "layoutApart", fn := fun _ => fun
  | [d] => { results := [.lit (.bool true)], args := [d] }
  | _ => none }
def layoutApartRow : OpenClaim := { program := "ytjcndjfiogbdiaadoor", sum := "55894179afd20434e8bc7a250ec3a9174c9ff63711ec405b83157842c6fadd93", func := "sidings/sidingslaw06.LayoutApart", spec := "layoutApart", unfollowed := true, recurses := true, named := ["sidings/head.topField", "sidings/head.tagField"], apart := false, laid := [("sidings/head.topField", laid_sidings_head_topField), ("sidings/head.tagField", laid_sidings_head_tagField)] }
def LayoutApartSaid : Prop := layoutApartRow.holds Tryd.pinned (OpenSpec.ofChange layoutApartSpec)

/-- ITS FALSE NEIGHBOUR: 'it returns false'. Refute it at one input. -/
def layoutApartWrong : ChangeSpec := { name := "layoutApart", fn := fun _ => fun
  | [d] => { results := [.lit (.bool false)], args := [d] }
  | _ => none }
def LayoutApartWrongFalsely : Prop := layoutApartRow.holds Tryd.pinned (OpenSpec.ofChange layoutApartWrong)

/-- 'sidingslaw06.LayoutFree': WHATEVER THE INPUT: true; the input reads as it did. -/
def layoutFreeSpec : ChangeSpec := { name := "layoutFree", fn := fun _ => fun
  | [d] => { results := [.lit (.bool true)], args := [d] }
  | _ => none }
def layoutFreeRow : OpenClaim := { program := "ytjcndjfiogbdiaadoor", sum := "55894179afd20434e8bc7a250ec3a9174c9ff63711ec405b83157842c6fadd93", func := "sidings/sidingslaw06.LayoutFree", spec := "layoutFree", unfollowed := true, recurses := true, named := ["sidings/head.topField", "sidings/head.tagField"], apart := false, laid := [("sidings/head.topField", laid_sidings_head_topField), ("sidings/head.tagField", laid_sidings_head_tagField)] }
def LayoutFreeSaid : Prop := layoutFreeRow.holds Tryd.pinned (OpenSpec.ofChange layoutFreeSpec)

/-- ITS FALSE NEIGHBOUR: 'it returns false'. Refute it at one input. -/
def layoutFreeWrong : ChangeSpec := { name := "layoutFree", fn := fun _ => fun
  | [d] => { results := [.lit (.bool false)], args := [d] }
  | _ => none }
def LayoutFreeWrongFalsely : Prop := layoutFreeRow.holds Tryd.pinned (OpenSpec.ofChange layoutFreeWrong)

/-- 'sidingslaw06.LayoutMore': WHATEVER THE INPUT: true; the input reads as it did. -/
def layoutMoreSpec : ChangeSpec := { name := "layoutMore", fn := fun _ => fun
  | [d1, d2] => { results := [.lit (.bool true)], args := [d1, d2] }
  | _ => none }
def layoutMoreRow : OpenClaim := { program := "ytjcndjfiogbdiaadoor", sum := "55894179afd20434e8bc7a250ec3a9174c9ff63711ec405b83157842c6fadd93", func := "sidings/sidingslaw06.LayoutMore", spec := "layoutMore", unfollowed := true, recurses := true, named := ["sidings/head.topField", "sidings/head.tagField"], apart := false, laid := [("sidings/head.topField", laid_sidings_head_topField), ("sidings/head.tagField", laid_sidings_head_tagField)] }
def LayoutMoreSaid : Prop := layoutMoreRow.holds Tryd.pinned (OpenSpec.ofChange layoutMoreSpec)

/-- ITS FALSE NEIGHBOUR: 'it returns false'. Refute it at one input. -/
def layoutMoreWrong : ChangeSpec := { name := "layoutMore", fn := fun _ => fun
  | [d1, d2] => { results := [.lit (.bool false)], args := [d1, d2] }
  | _ => none }
def LayoutMoreWrongFalsely : Prop := layoutMoreRow.holds Tryd.pinned (OpenSpec.ofChange layoutMoreWrong)

/-- 'sidingslaw06.LayoutAgain': WHATEVER THE INPUT: true; the input reads as it did. -/
def layoutAgainSpec : ChangeSpec := { name := "layoutAgain", fn := fun _ => fun
  | [d1, d2, d3] => { results := [.lit (.bool true)], args := [d1, d2, d3] }
  | _ => none }
def layoutAgainRow : OpenClaim := { program := "ytjcndjfiogbdiaadoor", sum := "55894179afd20434e8bc7a250ec3a9174c9ff63711ec405b83157842c6fadd93", func := "sidings/sidingslaw06.LayoutAgain", spec := "layoutAgain", unfollowed := true, recurses := true, named := ["sidings/head.topField", "sidings/head.tagField"], apart := false, laid := [("sidings/head.topField", laid_sidings_head_topField), ("sidings/head.tagField", laid_sidings_head_tagField)] }
def LayoutAgainSaid : Prop := layoutAgainRow.holds Tryd.pinned (OpenSpec.ofChange layoutAgainSpec)

/-- ITS FALSE NEIGHBOUR: 'it returns false'. Refute it at one input. -/
def layoutAgainWrong : ChangeSpec := { name := "layoutAgain", fn := fun _ => fun
  | [d1, d2, d3] => { results := [.lit (.bool false)], args := [d1, d2, d3] }
  | _ => none }
def LayoutAgainWrongFalsely : Prop := layoutAgainRow.holds Tryd.pinned (OpenSpec.ofChange layoutAgainWrong)

/- THE SECOND FORM. 'bulk': how many values and letters a reading holds, each counted each time it is reached (what is shared counts as often as it is met; a slice's spare places count too). A statement '..UptoSaid' is the law's where the arguments, and the package variables that the reading takes, are together of bulk at most 1048576: NARROWER than '..Said'. Prove '..Said' where nothing that the law and all that it calls make is longer than what came in: it says more and counts as full. Else prove '..UptoSaid'. A law counts once. -/
mutual
def uptoBulk {H : Type} : DataW H → Nat
  | .lit (.string bytes) => bytes.length + 1
  | .lit _ => 1
  | .nil => 1
  | .ptr d => uptoBulk d + 1
  | .slice elems spare => uptoBulkAll elems + uptoBulkAll spare + 1
  | .agg parts => uptoBulkAll parts + 1
  | .iface _ d => uptoBulk d + 1
  | .map entries => uptoBulkEntries entries + 1
  | .held _ => 1
def uptoBulkAll {H : Type} : List (DataW H) → Nat
  | [] => 0
  | d :: r => uptoBulk d + uptoBulkAll r
def uptoBulkEntries {H : Type} : List (Lit × DataW H) → Nat
  | [] => 0
  | x :: r => uptoBulkEntry x + uptoBulkEntries r
def uptoBulkEntry {H : Type} : Lit × DataW H → Nat
  | (.string bytes, d) => bytes.length + uptoBulk d + 1
  | (_, d) => uptoBulk d + 1
 end
def uptoSmall : (H : Type) → List (DataW H) → Bool := fun _ ds => decide (uptoBulkAll ds ≤ 1048576)
def OpenSpec.upto (s : _root_.Go.ChangeSpec) : _root_.Go.OpenSpec := { _root_.Go.OpenSpec.ofChange s with cond := some uptoSmall }

/-- 'sidingslaw06.LayoutTells', WHERE WHAT IT READS IS OF BULK AT MOST 1048576: true; the input reads as it did. -/
def layoutTellsUptoRow : OpenClaim := { program := "ytjcndjfiogbdiaadoor", sum := "55894179afd20434e8bc7a250ec3a9174c9ff63711ec405b83157842c6fadd93", func := "sidings/sidingslaw06.LayoutTells", spec := "layoutTells", unfollowed := true, recurses := true, named := ["sidings/head.topField", "sidings/head.tagField"], apart := false, laid := [("sidings/head.topField", laid_sidings_head_topField), ("sidings/head.tagField", laid_sidings_head_tagField)], narrowed := true }
def LayoutTellsUptoSaid : Prop := layoutTellsUptoRow.holds Tryd.pinned (OpenSpec.upto layoutTellsSpec)

/-- 'sidingslaw06.LayoutStarts', WHERE WHAT IT READS IS OF BULK AT MOST 1048576: true; the input reads as it did. -/
def layoutStartsUptoRow : OpenClaim := { program := "ytjcndjfiogbdiaadoor", sum := "55894179afd20434e8bc7a250ec3a9174c9ff63711ec405b83157842c6fadd93", func := "sidings/sidingslaw06.LayoutStarts", spec := "layoutStarts", unfollowed := true, recurses := true, named := ["sidings/head.topField", "sidings/head.tagField"], apart := false, laid := [("sidings/head.topField", laid_sidings_head_topField), ("sidings/head.tagField", laid_sidings_head_tagField)], narrowed := true }
def LayoutStartsUptoSaid : Prop := layoutStartsUptoRow.holds Tryd.pinned (OpenSpec.upto layoutStartsSpec)

/-- 'sidingslaw06.LayoutApart', WHERE WHAT IT READS IS OF BULK AT MOST 1048576: true; the input reads as it did. -/
def layoutApartUptoRow : OpenClaim := { program := "ytjcndjfiogbdiaadoor", sum := "55894179afd20434e8bc7a250ec3a9174c9ff63711ec405b83157842c6fadd93", func := "sidings/sidingslaw06.LayoutApart", spec := "layoutApart", unfollowed := true, recurses := true, named := ["sidings/head.topField", "sidings/head.tagField"], apart := false, laid := [("sidings/head.topField", laid_sidings_head_topField), ("sidings/head.tagField", laid_sidings_head_tagField)], narrowed := true }
def LayoutApartUptoSaid : Prop := layoutApartUptoRow.holds Tryd.pinned (OpenSpec.upto layoutApartSpec)

/-- 'sidingslaw06.LayoutFree', WHERE WHAT IT READS IS OF BULK AT MOST 1048576: true; the input reads as it did. -/
def layoutFreeUptoRow : OpenClaim := { program := "ytjcndjfiogbdiaadoor", sum := "55894179afd20434e8bc7a250ec3a9174c9ff63711ec405b83157842c6fadd93", func := "sidings/sidingslaw06.LayoutFree", spec := "layoutFree", unfollowed := true, recurses := true, named := ["sidings/head.topField", "sidings/head.tagField"], apart := false, laid := [("sidings/head.topField", laid_sidings_head_topField), ("sidings/head.tagField", laid_sidings_head_tagField)], narrowed := true }
def LayoutFreeUptoSaid : Prop := layoutFreeUptoRow.holds Tryd.pinned (OpenSpec.upto layoutFreeSpec)

/-- 'sidingslaw06.LayoutMore', WHERE WHAT IT READS IS OF BULK AT MOST 1048576: true; the input reads as it did. -/
def layoutMoreUptoRow : OpenClaim := { program := "ytjcndjfiogbdiaadoor", sum := "55894179afd20434e8bc7a250ec3a9174c9ff63711ec405b83157842c6fadd93", func := "sidings/sidingslaw06.LayoutMore", spec := "layoutMore", unfollowed := true, recurses := true, named := ["sidings/head.topField", "sidings/head.tagField"], apart := false, laid := [("sidings/head.topField", laid_sidings_head_topField), ("sidings/head.tagField", laid_sidings_head_tagField)], narrowed := true }
def LayoutMoreUptoSaid : Prop := layoutMoreUptoRow.holds Tryd.pinned (OpenSpec.upto layoutMoreSpec)

/-- 'sidingslaw06.LayoutAgain', WHERE WHAT IT READS IS OF BULK AT MOST 1048576: true; the input reads as it did. -/
def layoutAgainUptoRow : OpenClaim := { program := "ytjcndjfiogbdiaadoor", sum := "55894179afd20434e8bc7a250ec3a9174c9ff63711ec405b83157842c6fadd93", func := "sidings/sidingslaw06.LayoutAgain", spec := "layoutAgain", unfollowed := true, recurses := true, named := ["sidings/head.topField", "sidings/head.tagField"], apart := false, laid := [("sidings/head.topField", laid_sidings_head_topField), ("sidings/head.tagField", laid_sidings_head_tagField)], narrowed := true }
def LayoutAgainUptoSaid : Prop := layoutAgainUptoRow.holds Tryd.pinned (OpenSpec.upto layoutAgainSpec)

end Rows
end Go.Proofs.YtjcndjfiogbdiaaDoor
