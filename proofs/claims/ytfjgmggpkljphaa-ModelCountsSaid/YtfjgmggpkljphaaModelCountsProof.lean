/-
  The statement ModelCounts of layer 7, for every input.
  Conditions: none.
-/
import Derived.Test.YtfjgmggpkljphaaModelCountsLaw
import Derived.Test.YtfjgmggpkljphaaLaw
import Derived.Test.YtfjgmggpkljphaaRows
namespace Go.Proofs.Ytfjgmggpkljphaa.modelCountsAt
open Go.ChangeShapes Go.WideShapes Go.ChangeAt Go.RowKit
set_option linter.unusedVariables false

theorem own : ownKnob Try.prog.godebug = none := by kernel_rfl
theorem laidOut : laidOutB Try.prog = true := by kernel_rfl
theorem readable : (Try.f7.params.toList.all fun t => Try.prog.readableRec t && decide (t < Try.prog.types.size)) = true := by kernel_rfl

set_option maxRecDepth 100000 in
theorem walk {H : Type} {enc : TypeId × Value → H} (W : World) (base : Nat) (args : Array Value) (ds : List (DataW H)) (ps : List MemPlace) (hlen : args.toList.length = Try.f7.params.toList.length)
    (hval0 : ∀ (j : Nat) t v, Try.f7.params[j]? = some t → args[j]? = some v → Value.okWide Try.prog W .any base t v)
    (hA : DataW.TrodAll enc Try.prog W 0 (fun _ => true) true Try.f7.params.toList args.toList ds ps) (hlt : ∀ x ∈ ps, x.block < W.heap.size) : Calls Try.prog 7 args W (Ret W (.bool true)) := by
  have hval : ∀ (j : Nat) t v, (#[3, 3] : Array TypeId)[j]? = some t → args[j]? = some v → Value.okWide Try.prog W .any base t v := by
    rw [← Try.params7]
    exact hval0
  rw [Try.params7] at hlen hA
  clear hval0
  obtain ⟨v0, v1, rfl⟩ := args_two hlen
  obtain ⟨u0, u1, d0, d1, p0, p1, e0, rfl, rfl, h0, h1⟩ := trodAll_two hA
  obtain ⟨e0', e1'⟩ : u0 = v0 ∧ u1 = v1 := by simpa [eq_comm] using e0
  subst e0' e1'
  obtain ⟨x0, rfl⟩ := okWide_int Try.underlying3 (hval 0 3 u0 rfl rfl)
  obtain ⟨x1, rfl⟩ := okWide_int Try.underlying3 (hval 1 3 u1 rfl rfl)
  exact ModelCounts_any x0 x1 W

set_option maxRecDepth 100000 in
theorem lifted (os : Os) (started : os.Started) (H : Type) (enc : TypeId × Value → H) :
    ReturnsInHanded {} Try.checked os 7 .any (Rows.modelCountsSpec.pre6 enc Try.prog Try.f7 Rows.modelCountsRow.domain false) (Rows.modelCountsSpec.post enc Try.prog Try.f7 false true false false) :=
  law_lifted_read (C := Try.checked) own started (by kernel_rfl) Try.func7
    (ChangeSpec.witness6 (enc := enc) (C := Try.checked) false ⟨#[], #[.int .i64 0, .int .i64 0], []⟩ 8 (by kernel_rfl) (by kernel_rfl) (by kernel_rfl) (by kernel_rfl))
    laidOut rfl readable (by kernel_rfl) Try.underlying4 (fun ds h => by match ds, h with | [d0, d1], _ => rfl) walk

theorem over : Rows.modelCountsRow.holds Try.pinned (OpenSpec.ofChange Rows.modelCountsSpec) :=
  OpenClaim.holds_of_wide 7 Try.f7 rfl rfl rfl rfl rfl rfl rfl ⟨rfl, rfl, rfl, rfl, rfl⟩ rfl rfl rfl rfl rfl (by kernel_rfl) Try.func7 (by kernel_rfl)
    (of_decide_eq_true (by kernel_rfl)) (by unfold Func.isWrapper; first | (rw [if_pos (by decide +kernel)]; kernel_rfl) | (rw [if_neg (by decide +kernel)]; exact ⟨rfl, rfl⟩))
    (fun os started H enc _ => lifted os started H enc)
end Go.Proofs.Ytfjgmggpkljphaa.modelCountsAt

namespace Go.Proofs.Ytfjgmggpkljphaa
theorem modelCounts_holds : Rows.ModelCountsSaid := modelCountsAt.over
end Go.Proofs.Ytfjgmggpkljphaa
