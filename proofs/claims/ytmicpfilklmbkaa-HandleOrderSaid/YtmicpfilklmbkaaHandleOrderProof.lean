/-
  The statement HandleOrder of layer 3, for every input.
  Conditions: none.
-/
import Derived.Test.YtmicpfilklmbkaaHandleLaws
import Derived.Test.YtmicpfilklmbkaaLaw
import Derived.Test.YtmicpfilklmbkaaRows
namespace Go.Proofs.Ytmicpfilklmbkaa.handleOrderAt
open Go.ChangeShapes Go.WideShapes Go.ChangeAt Go.RowKit

theorem own : ownKnob Try.prog.godebug = none := by kernel_rfl
theorem laidOut : laidOutB Try.prog = true := by kernel_rfl
theorem readable : (Try.f8.params.toList.all fun t => Try.prog.readableRec t && decide (t < Try.prog.types.size)) = true := by kernel_rfl

theorem walk (W : World) (base : Nat) (args : Array Value) (hlen : args.toList.length = Try.f8.params.toList.length)
    (hval0 : ∀ (j : Nat) t v, Try.f8.params[j]? = some t → args[j]? = some v → Value.okWide Try.prog W .any base t v) : Calls Try.prog 8 args W (Ret W (.bool true)) := by
  have hval : ∀ (j : Nat) t v, (#[3, 3, 3] : Array TypeId)[j]? = some t → args[j]? = some v → Value.okWide Try.prog W .any base t v := by
    rw [← Try.params8]
    exact hval0
  rw [Try.params8] at hlen
  clear hval0
  obtain ⟨v0, v1, v2, rfl⟩ := args_three hlen
  obtain ⟨s, rfl⟩ := okWide_int Try.underlying3 (hval 0 3 v0 rfl rfl)
  obtain ⟨g, rfl⟩ := okWide_int Try.underlying3 (hval 1 3 v1 rfl rfl)
  obtain ⟨t, rfl⟩ := okWide_int Try.underlying3 (hval 2 3 v2 rfl rfl)
  exact HandleOrder_walk s g t W

set_option maxRecDepth 100000 in
theorem lifted (os : Os) (started : os.Started) (H : Type) (enc : TypeId × Value → H) :
    ReturnsInHanded {} Try.checked os 8 .any (Rows.handleOrderSpec.pre6 enc Try.prog Try.f8 Rows.handleOrderRow.domain false) (Rows.handleOrderSpec.post enc Try.prog Try.f8 false true false false) :=
  law_lifted (C := Try.checked) own started (by kernel_rfl) Try.func8
    (ChangeSpec.witness6 (enc := enc) (C := Try.checked) false ⟨#[], #[.int .i64 0, .int .i64 0, .int .i64 0], []⟩ 8 (by kernel_rfl) (by kernel_rfl) (by kernel_rfl) (by kernel_rfl))
    laidOut rfl readable (by kernel_rfl) Try.underlying4 (fun ds h => by match ds, h with | [d1, d2, d3], _ => rfl) walk

theorem over : Rows.handleOrderRow.holds Try.pinned (OpenSpec.ofChange Rows.handleOrderSpec) :=
  OpenClaim.holds_of_wide 8 Try.f8 rfl rfl rfl rfl rfl rfl rfl ⟨rfl, rfl, rfl, rfl, rfl⟩ rfl rfl rfl rfl rfl (by kernel_rfl) Try.func8 (by kernel_rfl)
    (of_decide_eq_true (by kernel_rfl)) (by unfold Func.isWrapper; first | (rw [if_pos (by decide +kernel)]; kernel_rfl) | (rw [if_neg (by decide +kernel)]; exact ⟨rfl, rfl⟩))
    (fun os started H enc _ => lifted os started H enc)
end Go.Proofs.Ytmicpfilklmbkaa.handleOrderAt

namespace Go.Proofs.Ytmicpfilklmbkaa
theorem handleOrder_holds : Rows.HandleOrderSaid := handleOrderAt.over
end Go.Proofs.Ytmicpfilklmbkaa
