/-
  The statement EventTurns of layer 8, for every input.
  Conditions: none.
-/
import Derived.Test.YtfjgmggpkljphaaEventTurnsLaw
import Derived.Test.YtfjgmggpkljphaaLaw
import Derived.Test.YtfjgmggpkljphaaRows
namespace Go.Proofs.Ytfjgmggpkljphaa.eventTurnsAt
open Go.ChangeShapes Go.WideShapes Go.ChangeAt Go.RowKit
set_option linter.unusedVariables false

theorem own : ownKnob Try.prog.godebug = none := by kernel_rfl
theorem laidOut : laidOutB Try.prog = true := by kernel_rfl
theorem readable : (Try.f11.params.toList.all fun t => Try.prog.readableRec t && decide (t < Try.prog.types.size)) = true := by kernel_rfl

set_option maxRecDepth 100000 in
theorem walk {H : Type} {enc : TypeId × Value → H} (W : World) (base : Nat) (args : Array Value) (ds : List (DataW H)) (ps : List MemPlace) (hlen : args.toList.length = Try.f11.params.toList.length)
    (hval0 : ∀ (j : Nat) t v, Try.f11.params[j]? = some t → args[j]? = some v → Value.okWide Try.prog W .any base t v)
    (hA : DataW.TrodAll enc Try.prog W 0 (fun _ => true) true Try.f11.params.toList args.toList ds ps) (hlt : ∀ x ∈ ps, x.block < W.heap.size) : Calls Try.prog 11 args W (Ret W (.bool true)) := by
  have hval : ∀ (j : Nat) t v, (#[57] : Array TypeId)[j]? = some t → args[j]? = some v → Value.okWide Try.prog W .any base t v := by
    rw [← Try.params11]
    exact hval0
  rw [Try.params11] at hlen hA
  clear hval0
  obtain ⟨v0, rfl⟩ := args_one hlen
  obtain ⟨u0, d0, e0, rfl, h0⟩ := trodAll_one hA
  have e0' : u0 = v0 := by simpa using e0.symm
  subst e0'
  obtain ⟨a0, len0, cap0, rfl⟩ := okWide_slice Try.underlying57 (hval 0 57 u0 rfl rfl)
  obtain ⟨fu0, hf0⟩ := h0
  obtain ⟨q0, c0, l0, ev0, hm0, hlc0, hcm0, hE0⟩ := evs_of_trod (by simpa [Value.cells] using hf0)
  rw [ev0]
  exact EventTurns_true hE0 hm0

set_option maxRecDepth 100000 in
theorem lifted (os : Os) (started : os.Started) (H : Type) (enc : TypeId × Value → H) :
    ReturnsInHanded {} Try.checked os 11 .any (Rows.eventTurnsSpec.pre6 enc Try.prog Try.f11 Rows.eventTurnsRow.domain false) (Rows.eventTurnsSpec.post enc Try.prog Try.f11 false true false false) :=
  law_lifted_read (C := Try.checked) own started (by kernel_rfl) Try.func11
    (ChangeSpec.witness6 (enc := enc) (C := Try.checked) false ⟨#[], #[.slice none 0 0], []⟩ 8 (by kernel_rfl) (by kernel_rfl) (by kernel_rfl) (by kernel_rfl))
    laidOut rfl readable (by kernel_rfl) Try.underlying4 (fun ds h => by match ds, h with | [d0], _ => rfl) walk

theorem over : Rows.eventTurnsRow.holds Try.pinned (OpenSpec.ofChange Rows.eventTurnsSpec) :=
  OpenClaim.holds_of_wide 11 Try.f11 rfl rfl rfl rfl rfl rfl rfl ⟨rfl, rfl, rfl, rfl, rfl⟩ rfl rfl rfl rfl rfl (by kernel_rfl) Try.func11 (by kernel_rfl)
    (of_decide_eq_true (by kernel_rfl)) (by unfold Func.isWrapper; first | (rw [if_pos (by decide +kernel)]; kernel_rfl) | (rw [if_neg (by decide +kernel)]; exact ⟨rfl, rfl⟩))
    (fun os started H enc _ => lifted os started H enc)
end Go.Proofs.Ytfjgmggpkljphaa.eventTurnsAt

namespace Go.Proofs.Ytfjgmggpkljphaa
theorem eventTurns_holds : Rows.EventTurnsSaid := eventTurnsAt.over
end Go.Proofs.Ytfjgmggpkljphaa
