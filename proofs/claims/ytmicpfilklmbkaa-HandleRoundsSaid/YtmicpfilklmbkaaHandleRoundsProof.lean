/-
  The statement HandleRounds of layer 3, for every input.
  Conditions: none.
-/
import Derived.Test.YtmicpfilklmbkaaHandleLaws
import Derived.Test.YtmicpfilklmbkaaLaw
import Derived.Test.YtmicpfilklmbkaaRows
namespace Go.Proofs.Ytmicpfilklmbkaa.handleRoundsAt
open Go.ChangeShapes Go.WideShapes Go.ChangeAt Go.RowKit

theorem own : ownKnob Try.prog.godebug = none := by kernel_rfl
theorem laidOut : laidOutB Try.prog = true := by kernel_rfl
theorem readable : (Try.f6.params.toList.all fun t => Try.prog.readableRec t && decide (t < Try.prog.types.size)) = true := by kernel_rfl

theorem walk (W : World) (base : Nat) (args : Array Value) (hlen : args.toList.length = Try.f6.params.toList.length)
    (hval0 : ∀ (j : Nat) t v, Try.f6.params[j]? = some t → args[j]? = some v → Value.okWide Try.prog W .any base t v) : Calls Try.prog 6 args W (Ret W (.bool true)) := by
  have hval : ∀ (j : Nat) t v, (#[3] : Array TypeId)[j]? = some t → args[j]? = some v → Value.okWide Try.prog W .any base t v := by
    rw [← Try.params6]
    exact hval0
  rw [Try.params6] at hlen
  clear hval0
  obtain ⟨v0, rfl⟩ := args_one hlen
  obtain ⟨n, rfl⟩ := okWide_int Try.underlying3 (hval 0 3 v0 rfl rfl)
  exact HandleRounds_walk n W

set_option maxRecDepth 100000 in
theorem lifted (os : Os) (started : os.Started) (H : Type) (enc : TypeId × Value → H) :
    ReturnsInHanded {} Try.checked os 6 .any (Rows.handleRoundsSpec.pre6 enc Try.prog Try.f6 Rows.handleRoundsRow.domain false) (Rows.handleRoundsSpec.post enc Try.prog Try.f6 false true false false) :=
  law_lifted (C := Try.checked) own started (by kernel_rfl) Try.func6
    (ChangeSpec.witness6 (enc := enc) (C := Try.checked) false ⟨#[], #[.int .i64 0], []⟩ 8 (by kernel_rfl) (by kernel_rfl) (by kernel_rfl) (by kernel_rfl))
    laidOut rfl readable (by kernel_rfl) Try.underlying4 (fun ds h => by match ds, h with | [d1], _ => rfl) walk

theorem over : Rows.handleRoundsRow.holds Try.pinned (OpenSpec.ofChange Rows.handleRoundsSpec) :=
  OpenClaim.holds_of_wide 6 Try.f6 rfl rfl rfl rfl rfl rfl rfl ⟨rfl, rfl, rfl, rfl, rfl⟩ rfl rfl rfl rfl rfl (by kernel_rfl) Try.func6 (by kernel_rfl)
    (of_decide_eq_true (by kernel_rfl)) (by unfold Func.isWrapper; first | (rw [if_pos (by decide +kernel)]; kernel_rfl) | (rw [if_neg (by decide +kernel)]; exact ⟨rfl, rfl⟩))
    (fun os started H enc _ => lifted os started H enc)
end Go.Proofs.Ytmicpfilklmbkaa.handleRoundsAt

namespace Go.Proofs.Ytmicpfilklmbkaa
theorem handleRounds_holds : Rows.HandleRoundsSaid := handleRoundsAt.over
end Go.Proofs.Ytmicpfilklmbkaa
