/-
  The statement EventCut of layer 8, for every input.
  Conditions: none.
-/
import Derived.Test.YtfjgmggpkljphaaEventCutLaw
import Derived.Test.YtfjgmggpkljphaaLaw
import Derived.Test.YtfjgmggpkljphaaRows
namespace Go.Proofs.Ytfjgmggpkljphaa.eventCutAt
open Go.ChangeShapes Go.WideShapes Go.ChangeAt Go.RowKit
set_option linter.unusedVariables false

theorem own : ownKnob Try.prog.godebug = none := by kernel_rfl
theorem laidOut : laidOutB Try.prog = true := by kernel_rfl
theorem readable : (Try.f12.params.toList.all fun t => Try.prog.readableRec t && decide (t < Try.prog.types.size)) = true := by kernel_rfl

set_option maxRecDepth 100000 in
theorem walk {H : Type} {enc : TypeId × Value → H} (W : World) (base : Nat) (args : Array Value) (ds : List (DataW H)) (ps : List MemPlace) (hlen : args.toList.length = Try.f12.params.toList.length)
    (hval0 : ∀ (j : Nat) t v, Try.f12.params[j]? = some t → args[j]? = some v → Value.okWide Try.prog W .any base t v)
    (hA : DataW.TrodAll enc Try.prog W 0 (fun _ => true) true Try.f12.params.toList args.toList ds ps) (hlt : ∀ x ∈ ps, x.block < W.heap.size) : Calls Try.prog 12 args W (Ret W (.bool true)) := by
  have hval : ∀ (j : Nat) t v, (#[57, 3] : Array TypeId)[j]? = some t → args[j]? = some v → Value.okWide Try.prog W .any base t v := by
    rw [← Try.params12]
    exact hval0
  rw [Try.params12] at hlen hA
  clear hval0
  obtain ⟨v0, v1, rfl⟩ := args_two hlen
  obtain ⟨u0, u1, d0, d1, p0, p1, e0, rfl, rfl, h0, h1⟩ := trodAll_two hA
  obtain ⟨e0', e1'⟩ : u0 = v0 ∧ u1 = v1 := by simpa [eq_comm] using e0
  subst e0' e1'
  obtain ⟨a0, len0, cap0, rfl⟩ := okWide_slice Try.underlying57 (hval 0 57 u0 rfl rfl)
  obtain ⟨fu0, hf0⟩ := h0
  obtain ⟨q0, c0, l0, ev0, hm0, hlc0, hcm0, hE0⟩ := evs_of_trod (by simpa [Value.cells] using hf0)
  rw [ev0]
  obtain ⟨x1, rfl⟩ := okWide_int Try.underlying3 (hval 1 3 u1 rfl rfl)
  exact EventCut_true hE0 hm0 hlc0 x1

set_option maxRecDepth 100000 in
theorem lifted (os : Os) (started : os.Started) (H : Type) (enc : TypeId × Value → H) :
    ReturnsInHanded {} Try.checked os 12 .any (Rows.eventCutSpec.pre6 enc Try.prog Try.f12 Rows.eventCutRow.domain false) (Rows.eventCutSpec.post enc Try.prog Try.f12 false true false false) :=
  law_lifted_read (C := Try.checked) own started (by kernel_rfl) Try.func12
    (ChangeSpec.witness6 (enc := enc) (C := Try.checked) false ⟨#[], #[.slice none 0 0, .int .i64 0], []⟩ 8 (by kernel_rfl) (by kernel_rfl) (by kernel_rfl) (by kernel_rfl))
    laidOut rfl readable (by kernel_rfl) Try.underlying4 (fun ds h => by match ds, h with | [d0, d1], _ => rfl) walk

theorem over : Rows.eventCutRow.holds Try.pinned (OpenSpec.ofChange Rows.eventCutSpec) :=
  OpenClaim.holds_of_wide 12 Try.f12 rfl rfl rfl rfl rfl rfl rfl ⟨rfl, rfl, rfl, rfl, rfl⟩ rfl rfl rfl rfl rfl (by kernel_rfl) Try.func12 (by kernel_rfl)
    (of_decide_eq_true (by kernel_rfl)) (by unfold Func.isWrapper; first | (rw [if_pos (by decide +kernel)]; kernel_rfl) | (rw [if_neg (by decide +kernel)]; exact ⟨rfl, rfl⟩))
    (fun os started H enc _ => lifted os started H enc)
end Go.Proofs.Ytfjgmggpkljphaa.eventCutAt

namespace Go.Proofs.Ytfjgmggpkljphaa
theorem eventCut_holds : Rows.EventCutSaid := eventCutAt.over
end Go.Proofs.Ytfjgmggpkljphaa
