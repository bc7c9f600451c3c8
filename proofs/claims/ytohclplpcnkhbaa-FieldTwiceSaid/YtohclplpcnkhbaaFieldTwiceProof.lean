/-
  The statement FieldTwice of layer 1, for every input.
  Conditions: none.
-/
import Derived.Test.YtohclplpcnkhbaaFieldLawsC
import Derived.Test.YtohclplpcnkhbaaLaw
import Derived.Test.YtohclplpcnkhbaaRows
namespace Go.Proofs.Ytohclplpcnkhbaa.fieldTwiceAt
open Go.ChangeShapes Go.WideShapes Go.ChangeAt Go.RowKit

theorem own : ownKnob Try.prog.godebug = none := by kernel_rfl
theorem laidOut : laidOutB Try.prog = true := by kernel_rfl
theorem readable : (Try.f6.params.toList.all fun t => Try.prog.readableRec t && decide (t < Try.prog.types.size)) = true := by kernel_rfl

theorem walk (W : World) (base : Nat) (args : Array Value) (hlen : args.toList.length = Try.f6.params.toList.length)
    (hval0 : ∀ (j : Nat) t v, Try.f6.params[j]? = some t → args[j]? = some v → Value.okWide Try.prog W .any base t v) : Calls Try.prog 6 args W (Ret W (.bool true)) := by
  have hval : ∀ (j : Nat) t v, (#[36] : Array TypeId)[j]? = some t → args[j]? = some v → Value.okWide Try.prog W .any base t v := by
    rw [← Try.params6]
    exact hval0
  rw [Try.params6] at hlen
  clear hval0
  obtain ⟨v0, rfl⟩ := args_one hlen
  obtain ⟨cs, rfl, hl, hc⟩ := okcells (ts := [3, 3, 3, 3, 3, 3, 3]) Try.underlying36 (by kernel_rfl) (by kernel_rfl) (hval 0 36 v0 rfl rfl)
  match cs, hl with
  | [c0, c1, c2, c3, c4, c5, c6], _ =>
  obtain ⟨x, rfl, _⟩ := okcell_int Try.underlying3 (hc 0 3 c0 rfl rfl)
  obtain ⟨a, rfl, _⟩ := okcell_int Try.underlying3 (hc 1 3 c1 rfl rfl)
  obtain ⟨b, rfl, _⟩ := okcell_int Try.underlying3 (hc 2 3 c2 rfl rfl)
  obtain ⟨a', rfl, _⟩ := okcell_int Try.underlying3 (hc 3 3 c3 rfl rfl)
  obtain ⟨b', rfl, _⟩ := okcell_int Try.underlying3 (hc 4 3 c4 rfl rfl)
  obtain ⟨n, rfl, _⟩ := okcell_int Try.underlying3 (hc 5 3 c5 rfl rfl)
  obtain ⟨m, rfl, _⟩ := okcell_int Try.underlying3 (hc 6 3 c6 rfl rfl)
  exact FieldTwice_walk x a b a' b' n m W

set_option maxRecDepth 100000 in
theorem lifted (os : Os) (started : os.Started) (H : Type) (enc : TypeId × Value → H) :
    ReturnsInHanded {} Try.checked os 6 .any (Rows.fieldTwiceSpec.pre6 enc Try.prog Try.f6 Rows.fieldTwiceRow.domain false) (Rows.fieldTwiceSpec.post enc Try.prog Try.f6 false true false false) :=
  law_lifted (C := Try.checked) own started (by kernel_rfl) Try.func6
    (ChangeSpec.witness6 (enc := enc) (C := Try.checked) false ⟨#[], #[.agg #[.int .i64 0, .int .i64 0, .int .i64 0, .int .i64 0, .int .i64 0, .int .i64 0, .int .i64 0]], []⟩ 8 (by kernel_rfl) (by kernel_rfl) (by kernel_rfl) (by kernel_rfl))
    laidOut rfl readable (by kernel_rfl) Try.underlying4 (fun ds h => by match ds, h with | [d], _ => rfl) walk

theorem over : Rows.fieldTwiceRow.holds Try.pinned (OpenSpec.ofChange Rows.fieldTwiceSpec) :=
  OpenClaim.holds_of_wide 6 Try.f6 rfl rfl rfl rfl rfl rfl rfl ⟨rfl, rfl, rfl, rfl, rfl⟩ rfl rfl rfl rfl rfl (by kernel_rfl) Try.func6 (by kernel_rfl)
    (of_decide_eq_true (by kernel_rfl)) (by unfold Func.isWrapper; first | (rw [if_pos (by decide +kernel)]; kernel_rfl) | (rw [if_neg (by decide +kernel)]; exact ⟨rfl, rfl⟩))
    (fun os started H enc _ => lifted os started H enc)
end Go.Proofs.Ytohclplpcnkhbaa.fieldTwiceAt

namespace Go.Proofs.Ytohclplpcnkhbaa
theorem fieldTwice_holds : Rows.FieldTwiceSaid := fieldTwiceAt.over
end Go.Proofs.Ytohclplpcnkhbaa
