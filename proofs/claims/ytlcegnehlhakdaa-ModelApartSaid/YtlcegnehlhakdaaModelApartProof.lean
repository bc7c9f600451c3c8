/-
  The statement ModelApart of layer 7, for every input.
  Conditions: none.
-/
import Derived.Test.YtlcegnehlhakdaaModelApartLaw
import Derived.Test.YtlcegnehlhakdaaLaw
import Derived.Test.YtlcegnehlhakdaaRows
namespace Go.Proofs.Ytlcegnehlhakdaa.modelApartAt
open Go.ChangeShapes Go.WideShapes Go.ChangeAt Go.RowKit
set_option linter.unusedVariables false

theorem own : ownKnob Try.prog.godebug = none := by kernel_rfl
theorem laidOut : laidOutB Try.prog = true := by kernel_rfl
theorem readable : (Try.f7.params.toList.all fun t => Try.prog.readableRec t && decide (t < Try.prog.types.size)) = true := by kernel_rfl

set_option maxRecDepth 100000 in
theorem walk {H : Type} {enc : TypeId × Value → H} (W : World) (base : Nat) (args : Array Value) (ds : List (DataW H)) (ps : List MemPlace) (hlen : args.toList.length = Try.f7.params.toList.length)
    (hval0 : ∀ (j : Nat) t v, Try.f7.params[j]? = some t → args[j]? = some v → Value.okWide Try.prog W .any base t v)
    (hA : DataW.TrodAll enc Try.prog W 0 (fun _ => true) true Try.f7.params.toList args.toList ds ps) (hlt : ∀ x ∈ ps, x.block < W.heap.size) : Calls Try.prog 7 args W (Ret W (.bool true)) := by
  have hval : ∀ (j : Nat) t v, (#[22, 22] : Array TypeId)[j]? = some t → args[j]? = some v → Value.okWide Try.prog W .any base t v := by
    rw [← Try.params7]
    exact hval0
  rw [Try.params7] at hlen hA
  clear hval0
  obtain ⟨v0, v1, rfl⟩ := args_two hlen
  obtain ⟨u0, u1, d0, d1, p0, p1, e0, rfl, rfl, h0, h1⟩ := trodAll_two hA
  obtain ⟨e0', e1'⟩ : u0 = v0 ∧ u1 = v1 := by simpa [eq_comm] using e0
  subst e0' e1'
  obtain ⟨a0, len0, cap0, rfl⟩ := okWide_slice Try.underlying22 (hval 0 22 u0 rfl rfl)
  obtain ⟨fu0, hf0⟩ := h0
  obtain ⟨q0, c0, l0, ev0, hm0, hlc0, hcm0, hE0⟩ := cas_of_trod (by simpa [Value.cells] using hf0)
  rw [ev0]
  obtain ⟨a1, len1, cap1, rfl⟩ := okWide_slice Try.underlying22 (hval 1 22 u1 rfl rfl)
  obtain ⟨fu1, hf1⟩ := h1
  obtain ⟨q1, c1, l1, ev1, hm1, hlc1, hcm1, hE1⟩ := cas_of_trod (by simpa [Value.cells] using hf1)
  rw [ev1]
  exact ModelApart_any hE0 hE1

set_option maxRecDepth 100000 in
theorem lifted (os : Os) (started : os.Started) (H : Type) (enc : TypeId × Value → H) :
    ReturnsInHanded {} Try.checked os 7 .any (Rows.modelApartSpec.pre6 enc Try.prog Try.f7 Rows.modelApartRow.domain false) (Rows.modelApartSpec.post enc Try.prog Try.f7 false true false false) :=
  law_lifted_read (C := Try.checked) own started (by kernel_rfl) Try.func7
    (ChangeSpec.witness6 (enc := enc) (C := Try.checked) false ⟨#[], #[.slice none 0 0, .slice none 0 0], []⟩ 8 (by kernel_rfl) (by kernel_rfl) (by kernel_rfl) (by kernel_rfl))
    laidOut rfl readable (by kernel_rfl) Try.underlying4 (fun ds h => by match ds, h with | [d0, d1], _ => rfl) walk

theorem over : Rows.modelApartRow.holds Try.pinned (OpenSpec.ofChange Rows.modelApartSpec) :=
  OpenClaim.holds_of_wide 7 Try.f7 rfl rfl rfl rfl rfl rfl rfl ⟨rfl, rfl, rfl, rfl, rfl⟩ rfl rfl rfl rfl rfl (by kernel_rfl) Try.func7 (by kernel_rfl)
    (of_decide_eq_true (by kernel_rfl)) (by unfold Func.isWrapper; first | (rw [if_pos (by decide +kernel)]; kernel_rfl) | (rw [if_neg (by decide +kernel)]; exact ⟨rfl, rfl⟩))
    (fun os started H enc _ => lifted os started H enc)
end Go.Proofs.Ytlcegnehlhakdaa.modelApartAt

namespace Go.Proofs.Ytlcegnehlhakdaa
theorem modelApart_holds : Rows.ModelApartSaid := modelApartAt.over
end Go.Proofs.Ytlcegnehlhakdaa
