/-
  The statement FieldTop of layer 1, for every input.
  Conditions: none.
-/
import Derived.Test.YtohclplpcnkhbaaFieldLawsB
import Derived.Test.YtohclplpcnkhbaaLaw
import Derived.Test.YtohclplpcnkhbaaRows
namespace Go.Proofs.Ytohclplpcnkhbaa.fieldTopAt
open Go.ChangeShapes Go.WideShapes Go.ChangeAt Go.RowKit

theorem own : ownKnob Try.prog.godebug = none := by kernel_rfl
theorem laidOut : laidOutB Try.prog = true := by kernel_rfl
theorem readable : (Try.f7.params.toList.all fun t => Try.prog.readableRec t && decide (t < Try.prog.types.size)) = true := by kernel_rfl

theorem walk (W : World) (base : Nat) (args : Array Value) (hlen : args.toList.length = Try.f7.params.toList.length)
    (hval0 : ∀ (j : Nat) t v, Try.f7.params[j]? = some t → args[j]? = some v → Value.okWide Try.prog W .any base t v) : Calls Try.prog 7 args W (Ret W (.bool true)) := by
  have hval : ∀ (j : Nat) t v, (#[3, 23, 3] : Array TypeId)[j]? = some t → args[j]? = some v → Value.okWide Try.prog W .any base t v := by
    rw [← Try.params7]
    exact hval0
  rw [Try.params7] at hlen
  clear hval0
  obtain ⟨v0, v1, v2, rfl⟩ := args_three hlen
  obtain ⟨x, rfl⟩ := okWide_int Try.underlying3 (hval 0 3 v0 rfl rfl)
  obtain ⟨cs, rfl, hl, hc⟩ := okcells (ts := [3, 3]) Try.underlying23 (by kernel_rfl) (by kernel_rfl) (hval 1 23 v1 rfl rfl)
  match cs, hl with
  | [c0, c1], _ =>
  obtain ⟨a, rfl, wa⟩ := okcell_int Try.underlying3 (hc 0 3 c0 rfl rfl)
  obtain ⟨b, rfl, wb⟩ := okcell_int Try.underlying3 (hc 1 3 c1 rfl rfl)
  obtain ⟨n, rfl⟩ := okWide_int Try.underlying3 (hval 2 3 v2 rfl rfl)
  exact FieldTop_walk a b x n W

set_option maxRecDepth 100000 in
theorem lifted (os : Os) (started : os.Started) (H : Type) (enc : TypeId × Value → H) :
    ReturnsInHanded {} Try.checked os 7 .any (Rows.fieldTopSpec.pre6 enc Try.prog Try.f7 Rows.fieldTopRow.domain false) (Rows.fieldTopSpec.post enc Try.prog Try.f7 false true false false) :=
  law_lifted (C := Try.checked) own started (by kernel_rfl) Try.func7
    (ChangeSpec.witness6 (enc := enc) (C := Try.checked) false ⟨#[], #[.int .i64 0, .agg #[.int .i64 0, .int .i64 0], .int .i64 0], []⟩ 8 (by kernel_rfl) (by kernel_rfl) (by kernel_rfl) (by kernel_rfl))
    laidOut rfl readable (by kernel_rfl) Try.underlying4 (fun ds h => by match ds, h with | [d1, d2, d3], _ => rfl) walk

theorem over : Rows.fieldTopRow.holds Try.pinned (OpenSpec.ofChange Rows.fieldTopSpec) :=
  OpenClaim.holds_of_wide 7 Try.f7 rfl rfl rfl rfl rfl rfl rfl ⟨rfl, rfl, rfl, rfl, rfl⟩ rfl rfl rfl rfl rfl (by kernel_rfl) Try.func7 (by kernel_rfl)
    (of_decide_eq_true (by kernel_rfl)) (by unfold Func.isWrapper; first | (rw [if_pos (by decide +kernel)]; kernel_rfl) | (rw [if_neg (by decide +kernel)]; exact ⟨rfl, rfl⟩))
    (fun os started H enc _ => lifted os started H enc)
end Go.Proofs.Ytohclplpcnkhbaa.fieldTopAt

namespace Go.Proofs.Ytohclplpcnkhbaa
theorem fieldTop_holds : Rows.FieldTopSaid := fieldTopAt.over
end Go.Proofs.Ytohclplpcnkhbaa
