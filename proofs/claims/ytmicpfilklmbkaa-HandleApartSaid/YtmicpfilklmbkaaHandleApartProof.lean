/-
  The statement HandleApart of layer 3, for every input.
  Conditions: none.
-/
import Derived.Test.YtmicpfilklmbkaaHandleLaws
import Derived.Test.YtmicpfilklmbkaaLaw
import Derived.Test.YtmicpfilklmbkaaRows
namespace Go.Proofs.Ytmicpfilklmbkaa.handleApartAt
open Go.ChangeShapes Go.WideShapes Go.ChangeAt Go.RowKit

theorem own : ownKnob Try.prog.godebug = none := by kernel_rfl
theorem laidOut : laidOutB Try.prog = true := by kernel_rfl
theorem readable : (Try.f5.params.toList.all fun t => Try.prog.readableRec t && decide (t < Try.prog.types.size)) = true := by kernel_rfl

theorem walk (W : World) (base : Nat) (args : Array Value) (hlen : args.toList.length = Try.f5.params.toList.length)
    (hval0 : ∀ (j : Nat) t v, Try.f5.params[j]? = some t → args[j]? = some v → Value.okWide Try.prog W .any base t v) : Calls Try.prog 5 args W (Ret W (.bool true)) := by
  have hval : ∀ (j : Nat) t v, (#[23] : Array TypeId)[j]? = some t → args[j]? = some v → Value.okWide Try.prog W .any base t v := by
    rw [← Try.params5]
    exact hval0
  rw [Try.params5] at hlen
  clear hval0
  obtain ⟨v0, rfl⟩ := args_one hlen
  obtain ⟨cs, rfl, hl, hc⟩ := okcells (ts := [3, 3, 3, 3]) Try.underlying23 (by kernel_rfl) (by kernel_rfl) (hval 0 23 v0 rfl rfl)
  match cs, hl with
  | [c0, c1, c2, c3], _ =>
  obtain ⟨s, rfl, _⟩ := okcell_int Try.underlying3 (hc 0 3 c0 rfl rfl)
  obtain ⟨g, rfl, _⟩ := okcell_int Try.underlying3 (hc 1 3 c1 rfl rfl)
  obtain ⟨h, rfl, _⟩ := okcell_int Try.underlying3 (hc 2 3 c2 rfl rfl)
  obtain ⟨n, rfl, _⟩ := okcell_int Try.underlying3 (hc 3 3 c3 rfl rfl)
  exact HandleApart_walk s g h n W

set_option maxRecDepth 100000 in
theorem lifted (os : Os) (started : os.Started) (H : Type) (enc : TypeId × Value → H) :
    ReturnsInHanded {} Try.checked os 5 .any (Rows.handleApartSpec.pre6 enc Try.prog Try.f5 Rows.handleApartRow.domain false) (Rows.handleApartSpec.post enc Try.prog Try.f5 false true false false) :=
  law_lifted (C := Try.checked) own started (by kernel_rfl) Try.func5
    (ChangeSpec.witness6 (enc := enc) (C := Try.checked) false ⟨#[], #[.agg #[.int .i64 0, .int .i64 0, .int .i64 0, .int .i64 0]], []⟩ 8 (by kernel_rfl) (by kernel_rfl) (by kernel_rfl) (by kernel_rfl))
    laidOut rfl readable (by kernel_rfl) Try.underlying4 (fun ds h => by match ds, h with | [d], _ => rfl) walk

theorem over : Rows.handleApartRow.holds Try.pinned (OpenSpec.ofChange Rows.handleApartSpec) :=
  OpenClaim.holds_of_wide 5 Try.f5 rfl rfl rfl rfl rfl rfl rfl ⟨rfl, rfl, rfl, rfl, rfl⟩ rfl rfl rfl rfl rfl (by kernel_rfl) Try.func5 (by kernel_rfl)
    (of_decide_eq_true (by kernel_rfl)) (by unfold Func.isWrapper; first | (rw [if_pos (by decide +kernel)]; kernel_rfl) | (rw [if_neg (by decide +kernel)]; exact ⟨rfl, rfl⟩))
    (fun os started H enc _ => lifted os started H enc)
end Go.Proofs.Ytmicpfilklmbkaa.handleApartAt

namespace Go.Proofs.Ytmicpfilklmbkaa
theorem handleApart_holds : Rows.HandleApartSaid := handleApartAt.over
end Go.Proofs.Ytmicpfilklmbkaa
