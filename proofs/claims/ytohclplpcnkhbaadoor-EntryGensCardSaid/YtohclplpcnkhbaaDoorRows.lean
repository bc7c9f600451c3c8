/-
  NARROWER THAN 'FOR EVERY INPUT', by the rows' own cells (each row's printed sentence says how): EntryPacks: laid · EntryBack: laid · EntryPins: laid · EntryGens: laid · EntryMoves: laid · EntryGuards: laid.
  DERIVED. THE GIVEN ROWS OF THIS SEAT. 6 by the template 'for every input the law returns true; each argument reads behind the call as it read before'; 0 by the template 'total and deterministic' (their statements: YtohclplpcnkhbaaDoorTotals.lean).
  GIVEN WITH THE SEED: the statements are not yours to turn. If you find one false, say at which input.
  Laid BY PROGRAM, IN A SANDBOX (cutbox-rows.mjs): the forced cells as the released guide's own fill.sh prints them over the translation cb9c6c6484dd606f… (all of the seat's roots in one cut). By AI agents, Wed Nov 11 2026. No macro, syntax, notation, axiom, sorry.
-/
import Derived.Test.YtohclplpcnkhbaaDoorChecked
import GoSem.Claim
import GoSem.ClaimJoined
import GoSem.ClaimMapViews
import Derived.JoinedTies
import Derived.KernelRfl
namespace Go.Proofs.YtohclplpcnkhbaaDoor
/- THE CELL 'sum', in the pinned program and in every row, IS THE sha256 OF THE DUMP (.gsa) THAT YtohclplpcnkhbaaDoorProg.lean LOADS. Nothing in Lean hashes anything: it is a label: what it is worth is what the hold of that sum in a sandbox is worth. -/
noncomputable def Tryd.pinned : Pinned := { name := "ytohclplpcnkhbaadoor", sum := "cb9c6c6484dd606f5dd8f4f3ba1ed355165bec46ace67a985ac9b657bb396908", checked := Tryd.checked }
namespace Rows
def none {H : Type} : Left H := { results := [], args := [] }

/- WHAT THE LISTED PACKAGE-LEVEL VARIABLES READ AS WHEN THE CALL BEGINS. Each datum BY PROGRAM (the guide's laid-datum.mjs) off the statement by which the dump's own 'gosem.cut.vars' lays the variable. In a bare row this is a premise. The card (YtohclplpcnkhbaaDoorCards.lean) ties it to the program's text. -/
def laid_sidings_entry_fields {H : Type} : DataW H := .agg [.agg [.lit (.int .i64 0), .lit (.int .i64 20)], .agg [.lit (.int .i64 20), .lit (.int .i64 20)], .agg [.lit (.int .i64 40), .lit (.int .i64 4)], .agg [.lit (.int .i64 44), .lit (.int .i64 4)], .agg [.lit (.int .i64 48), .lit (.int .i64 1)], .agg [.lit (.int .i64 49), .lit (.int .i64 1)]]

/-- 'sidingslaw02.EntryPacks': WHATEVER THE INPUT: true; the input reads as it did. -/
def entryPacksSpec : ChangeSpec := { name := "entryPacks", fn := fun _ => fun
  | [d1, d2] => { results := [.lit (.bool true)], args := [d1, d2] }
  | _ => none }
def entryPacksRow : OpenClaim := { program := "ytohclplpcnkhbaadoor", sum := "cb9c6c6484dd606f5dd8f4f3ba1ed355165bec46ace67a985ac9b657bb396908", func := "sidings/sidingslaw02.EntryPacks", spec := "entryPacks", unfollowed := true, recurses := true, named := ["sidings/entry.fields"], apart := false, laid := [("sidings/entry.fields", laid_sidings_entry_fields)] }
def EntryPacksSaid : Prop := entryPacksRow.holds Tryd.pinned (OpenSpec.ofChange entryPacksSpec)

/-- ITS FALSE NEIGHBOUR: 'it returns false'. Refute it at one input. -/
def entryPacksWrong : ChangeSpec := { name := "entryPacks", fn := fun _ => fun
  | [d1, d2] => { results := [.lit (.bool false)], args := [d1, d2] }
  | _ => none }
def EntryPacksWrongFalsely : Prop := entryPacksRow.holds Tryd.pinned (OpenSpec.ofChange entryPacksWrong)

/-- 'sidingslaw02.EntryBack': WHATEVER THE INPUT: true; the input reads as it did. -/
def entryBackSpec : ChangeSpec := { name := "entryBack", fn := fun _ => fun
  | [d1, d2] => { results := [.lit (.bool true)], args := [d1, d2] }
  | _ => none }
def entryBackRow : OpenClaim := { program := "ytohclplpcnkhbaadoor", sum := "cb9c6c6484dd606f5dd8f4f3ba1ed355165bec46ace67a985ac9b657bb396908", func := "sidings/sidingslaw02.EntryBack", spec := "entryBack", unfollowed := true, recurses := true, named := ["sidings/entry.fields"], apart := false, laid := [("sidings/entry.fields", laid_sidings_entry_fields)] }
def EntryBackSaid : Prop := entryBackRow.holds Tryd.pinned (OpenSpec.ofChange entryBackSpec)

/-- ITS FALSE NEIGHBOUR: 'it returns false'. Refute it at one input. -/
def entryBackWrong : ChangeSpec := { name := "entryBack", fn := fun _ => fun
  | [d1, d2] => { results := [.lit (.bool false)], args := [d1, d2] }
  | _ => none }
def EntryBackWrongFalsely : Prop := entryBackRow.holds Tryd.pinned (OpenSpec.ofChange entryBackWrong)

/-- 'sidingslaw02.EntryPins': WHATEVER THE INPUT: true; the input reads as it did. -/
def entryPinsSpec : ChangeSpec := { name := "entryPins", fn := fun _ => fun
  | [d] => { results := [.lit (.bool true)], args := [d] }
  | _ => none }
def entryPinsRow : OpenClaim := { program := "ytohclplpcnkhbaadoor", sum := "cb9c6c6484dd606f5dd8f4f3ba1ed355165bec46ace67a985ac9b657bb396908", func := "sidings/sidingslaw02.EntryPins", spec := "entryPins", unfollowed := true, recurses := true, named := ["sidings/entry.fields"], apart := false, laid := [("sidings/entry.fields", laid_sidings_entry_fields)] }
def EntryPinsSaid : Prop := entryPinsRow.holds Tryd.pinned (OpenSpec.ofChange entryPinsSpec)

/-- ITS FALSE NEIGHBOUR: 'it returns false'. Refute it at one input. -/
def entryPinsWrong : ChangeSpec := { name := "entryPins", fn := fun _ => fun
  | [d] => { results := [.lit (.bool false)], args := [d] }
  | _ => none }
def EntryPinsWrongFalsely : Prop := entryPinsRow.holds Tryd.pinned (OpenSpec.ofChange entryPinsWrong)

/-- 'sidingslaw02.EntryGens': WHATEVER THE INPUT: true; the input reads as it did. -/
def entryGensSpec : ChangeSpec := { name := "entryGens", fn := fun _ => fun
  | [d1, d2] => { results := [.lit (.bool true)], args := [d1, d2] }
  | _ => none }
def entryGensRow : OpenClaim := { program := "ytohclplpcnkhbaadoor", sum := "cb9c6c6484dd606f5dd8f4f3ba1ed355165bec46ace67a985ac9b657bb396908", func := "sidings/sidingslaw02.EntryGens", spec := "entryGens", unfollowed := true, recurses := true, named := ["sidings/entry.fields"], apart := false, laid := [("sidings/entry.fields", laid_sidings_entry_fields)] }
def EntryGensSaid : Prop := entryGensRow.holds Tryd.pinned (OpenSpec.ofChange entryGensSpec)

/-- ITS FALSE NEIGHBOUR: 'it returns false'. Refute it at one input. -/
def entryGensWrong : ChangeSpec := { name := "entryGens", fn := fun _ => fun
  | [d1, d2] => { results := [.lit (.bool false)], args := [d1, d2] }
  | _ => none }
def EntryGensWrongFalsely : Prop := entryGensRow.holds Tryd.pinned (OpenSpec.ofChange entryGensWrong)

/-- 'sidingslaw02.EntryMoves': WHATEVER THE INPUT: true; the input reads as it did. -/
def entryMovesSpec : ChangeSpec := { name := "entryMoves", fn := fun _ => fun
  | [d1, d2] => { results := [.lit (.bool true)], args := [d1, d2] }
  | _ => none }
def entryMovesRow : OpenClaim := { program := "ytohclplpcnkhbaadoor", sum := "cb9c6c6484dd606f5dd8f4f3ba1ed355165bec46ace67a985ac9b657bb396908", func := "sidings/sidingslaw02.EntryMoves", spec := "entryMoves", unfollowed := true, recurses := true, named := ["sidings/entry.fields"], apart := false, laid := [("sidings/entry.fields", laid_sidings_entry_fields)] }
def EntryMovesSaid : Prop := entryMovesRow.holds Tryd.pinned (OpenSpec.ofChange entryMovesSpec)

/-- ITS FALSE NEIGHBOUR: 'it returns false'. Refute it at one input. -/
def entryMovesWrong : ChangeSpec := { name := "entryMoves", fn := fun _ => fun
  | [d1, d2] => { results := [.lit (.bool false)], args := [d1, d2] }
  | _ => none }
def EntryMovesWrongFalsely : Prop := entryMovesRow.holds Tryd.pinned (OpenSpec.ofChange entryMovesWrong)

/-- 'sidingslaw02.EntryGuards': WHATEVER THE INPUT: true; the input reads as it did. -/
def entryGuardsSpec : ChangeSpec := { name := "entryGuards", fn := fun _ => fun
  | [d1, d2] => { results := [.lit (.bool true)], args := [d1, d2] }
  | _ => none }
def entryGuardsRow : OpenClaim := { program := "ytohclplpcnkhbaadoor", sum := "cb9c6c6484dd606f5dd8f4f3ba1ed355165bec46ace67a985ac9b657bb396908", func := "sidings/sidingslaw02.EntryGuards", spec := "entryGuards", unfollowed := true, recurses := true, named := ["sidings/entry.fields"], apart := false, laid := [("sidings/entry.fields", laid_sidings_entry_fields)] }
def EntryGuardsSaid : Prop := entryGuardsRow.holds Tryd.pinned (OpenSpec.ofChange entryGuardsSpec)

/-- ITS FALSE NEIGHBOUR: 'it returns false'. Refute it at one input. -/
def entryGuardsWrong : ChangeSpec := { name := "entryGuards", fn := fun _ => fun
  | [d1, d2] => { results := [.lit (.bool false)], args := [d1, d2] }
  | _ => none }
def EntryGuardsWrongFalsely : Prop := entryGuardsRow.holds Tryd.pinned (OpenSpec.ofChange entryGuardsWrong)

/- THE SECOND FORM. 'bulk': how many values and letters a reading holds, each counted each time it is reached (what is shared counts as often as it is met; a slice's spare places count too). A statement '..UptoSaid' is the law's where the arguments, and the package variables that the reading takes, are together of bulk at most 1048576: NARROWER than '..Said'. Prove '..Said' where nothing that the law and all that it calls make is longer than what came in: it says more and counts as full. Else prove '..UptoSaid'. A law counts once. -/
mutual
def uptoBulk {H : Type} : DataW H → Nat
  | .lit (.string bytes) => bytes.length + 1
  | .lit _ => 1
  | .nil => 1
  | .ptr d => uptoBulk d + 1
  | .slice elems spare => uptoBulkAll elems + uptoBulkAll spare + 1
  | .agg parts => uptoBulkAll parts + 1
  | .iface _ d => uptoBulk d + 1
  | .map entries => uptoBulkEntries entries + 1
  | .held _ => 1
def uptoBulkAll {H : Type} : List (DataW H) → Nat
  | [] => 0
  | d :: r => uptoBulk d + uptoBulkAll r
def uptoBulkEntries {H : Type} : List (Lit × DataW H) → Nat
  | [] => 0
  | x :: r => uptoBulkEntry x + uptoBulkEntries r
def uptoBulkEntry {H : Type} : Lit × DataW H → Nat
  | (.string bytes, d) => bytes.length + uptoBulk d + 1
  | (_, d) => uptoBulk d + 1
 end
def uptoSmall : (H : Type) → List (DataW H) → Bool := fun _ ds => decide (uptoBulkAll ds ≤ 1048576)
def OpenSpec.upto (s : _root_.Go.ChangeSpec) : _root_.Go.OpenSpec := { _root_.Go.OpenSpec.ofChange s with cond := some uptoSmall }

/-- 'sidingslaw02.EntryPacks', WHERE WHAT IT READS IS OF BULK AT MOST 1048576: true; the input reads as it did. -/
def entryPacksUptoRow : OpenClaim := { program := "ytohclplpcnkhbaadoor", sum := "cb9c6c6484dd606f5dd8f4f3ba1ed355165bec46ace67a985ac9b657bb396908", func := "sidings/sidingslaw02.EntryPacks", spec := "entryPacks", unfollowed := true, recurses := true, named := ["sidings/entry.fields"], apart := false, laid := [("sidings/entry.fields", laid_sidings_entry_fields)], narrowed := true }
def EntryPacksUptoSaid : Prop := entryPacksUptoRow.holds Tryd.pinned (OpenSpec.upto entryPacksSpec)

/-- 'sidingslaw02.EntryBack', WHERE WHAT IT READS IS OF BULK AT MOST 1048576: true; the input reads as it did. -/
def entryBackUptoRow : OpenClaim := { program := "ytohclplpcnkhbaadoor", sum := "cb9c6c6484dd606f5dd8f4f3ba1ed355165bec46ace67a985ac9b657bb396908", func := "sidings/sidingslaw02.EntryBack", spec := "entryBack", unfollowed := true, recurses := true, named := ["sidings/entry.fields"], apart := false, laid := [("sidings/entry.fields", laid_sidings_entry_fields)], narrowed := true }
def EntryBackUptoSaid : Prop := entryBackUptoRow.holds Tryd.pinned (OpenSpec.upto entryBackSpec)

/-- 'sidingslaw02.EntryPins', WHERE WHAT IT READS IS OF BULK AT MOST 1048576: true; the input reads as it did. -/
def entryPinsUptoRow : OpenClaim := { program := "ytohclplpcnkhbaadoor", sum := "cb9c6c6484dd606f5dd8f4f3ba1ed355165bec46ace67a985ac9b657bb396908", func := "sidings/sidingslaw02.EntryPins", spec := "entryPins", unfollowed := true, recurses := true, named := ["sidings/entry.fields"], apart := false, laid := [("sidings/entry.fields", laid_sidings_entry_fields)], narrowed := true }
def EntryPinsUptoSaid : Prop := entryPinsUptoRow.holds Tryd.pinned (OpenSpec.upto entryPinsSpec)

/-- 'sidingslaw02.EntryGens', WHERE WHAT IT READS IS OF BULK AT MOST 1048576: true; the input reads as it did. -/
def entryGensUptoRow : OpenClaim := { program := "ytohclplpcnkhbaadoor", sum := "cb9c6c6484dd606f5dd8f4f3ba1ed355165bec46ace67a985ac9b657bb396908", func := "sidings/sidingslaw02.EntryGens", spec := "entryGens", unfollowed := true, recurses := true, named := ["sidings/entry.fields"], apart := false, laid := [("sidings/entry.fields", laid_sidings_entry_fields)], narrowed := true }
def EntryGensUptoSaid : Prop := entryGensUptoRow.holds Tryd.pinned (OpenSpec.upto entryGensSpec)

/-- 'sidingslaw02.EntryMoves', WHERE WHAT IT READS IS OF BULK AT MOST 1048576: true; the input reads as it did. -/
def entryMovesUptoRow : OpenClaim := { program := "ytohclplpcnkhbaadoor", sum := "cb9c6c6484dd606f5dd8f4f3ba1ed355165bec46ace67a985ac9b657bb396908", func := "sidings/sidingslaw02.EntryMoves", spec := "entryMoves", unfollowed := true, recurses := true, named := ["sidings/entry.fields"], apart := false, laid := [("sidings/entry.fields", laid_sidings_entry_fields)], narrowed := true }
def EntryMovesUptoSaid : Prop := entryMovesUptoRow.holds Tryd.pinned (OpenSpec.upto entryMovesSpec)

/-- 'sidingslaw02.EntryGuards', WHERE WHAT IT READS IS OF BULK AT MOST 1048576: true; the input reads as it did. -/
def entryGuardsUptoRow : OpenClaim := { program := "ytohclplpcnkhbaadoor", sum := "cb9c6c6484dd606f5dd8f4f3ba1ed355165bec46ace67a985ac9b657bb396908", func := "sidings/sidingslaw02.EntryGuards", spec := "entryGuards", unfollowed := true, recurses := true, named := ["sidings/entry.fields"], apart := false, laid := [("sidings/entry.fields", laid_sidings_entry_fields)], narrowed := true }
def EntryGuardsUptoSaid : Prop := entryGuardsUptoRow.holds Tryd.pinned (OpenSpec.upto entryGuardsSpec)

end Rows
end Go.Proofs.YtohclplpcnkhbaaDoor
