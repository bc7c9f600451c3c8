/-
  The statement ModelStale of layer 7, for every input.
  Conditions: none.
-/
import Derived.Test.YtlcegnehlhakdaaModelStaleLaw
import Derived.Test.YtlcegnehlhakdaaLaw
import Derived.Test.YtlcegnehlhakdaaRows
namespace Go.Proofs.Ytlcegnehlhakdaa.modelStaleAt
open Go.ChangeShapes Go.WideShapes Go.ChangeAt Go.RowKit
set_option linter.unusedVariables false

theorem own : ownKnob Try.prog.godebug = none := by kernel_rfl
theorem laidOut : laidOutB Try.prog = true := by kernel_rfl
theorem readable : (Try.f5.params.toList.all fun t => Try.prog.readableRec t && decide (t < Try.prog.types.size)) = true := by kernel_rfl

set_option maxRecDepth 100000 in
theorem walk {H : Type} {enc : TypeId × Value → H} (W : World) (base : Nat) (args : Array Value) (ds : List (DataW H)) (ps : List MemPlace) (hlen : args.toList.length = Try.f5.params.toList.length)
    (hval0 : ∀ (j : Nat) t v, Try.f5.params[j]? = some t → args[j]? = some v → Value.okWide Try.prog W .any base t v)
    (hA : DataW.TrodAll enc Try.prog W 0 (fun _ => true) true Try.f5.params.toList args.toList ds ps) (hlt : ∀ x ∈ ps, x.block < W.heap.size) : Calls Try.prog 5 args W (Ret W (.bool true)) := by
  have hval : ∀ (j : Nat) t v, (#[22, 3, 22] : Array TypeId)[j]? = some t → args[j]? = some v → Value.okWide Try.prog W .any base t v := by
    rw [← Try.params5]
    exact hval0
  rw [Try.params5] at hlen hA
  clear hval0
  obtain ⟨v0, v1, v2, rfl⟩ := args_three hlen
  obtain ⟨u0, u1, u2, d0, d1, d2, p0, p1, p2, e0, rfl, rfl, h0, h1, h2⟩ := trodAll_three hA
  obtain ⟨e0', e1', e2'⟩ : u0 = v0 ∧ u1 = v1 ∧ u2 = v2 := by simpa [eq_comm] using e0
  subst e0' e1' e2'
  obtain ⟨a0, len0, cap0, rfl⟩ := okWide_slice Try.underlying22 (hval 0 22 u0 rfl rfl)
  obtain ⟨fu0, hf0⟩ := h0
  obtain ⟨q0, c0, l0, ev0, hm0, hlc0, hcm0, hE0⟩ := cas_of_trod (by simpa [Value.cells] using hf0)
  rw [ev0]
  obtain ⟨x1, rfl, w1⟩ := okcell_int Try.underlying3 (by have := hval 1 3 u1 rfl rfl; simpa [Value.okWide, Try.underlying3] using this)
  obtain ⟨a2, len2, cap2, rfl⟩ := okWide_slice Try.underlying22 (hval 2 22 u2 rfl rfl)
  obtain ⟨fu2, hf2⟩ := h2
  obtain ⟨q2, c2, l2, ev2, hm2, hlc2, hcm2, hE2⟩ := cas_of_trod (by simpa [Value.cells] using hf2)
  rw [ev2]
  exact ModelStale_any hE0 x1 hE2 w1

set_option maxRecDepth 100000 in
theorem lifted (os : Os) (started : os.Started) (H : Type) (enc : TypeId × Value → H) :
    ReturnsInHanded {} Try.checked os 5 .any (Rows.modelStaleSpec.pre6 enc Try.prog Try.f5 Rows.modelStaleRow.domain false) (Rows.modelStaleSpec.post enc Try.prog Try.f5 false true false false) :=
  law_lifted_read (C := Try.checked) own started (by kernel_rfl) Try.func5
    (ChangeSpec.witness6 (enc := enc) (C := Try.checked) false ⟨#[], #[.slice none 0 0, .int .i64 0, .slice none 0 0], []⟩ 8 (by kernel_rfl) (by kernel_rfl) (by kernel_rfl) (by kernel_rfl))
    laidOut rfl readable (by kernel_rfl) Try.underlying4 (fun ds h => by match ds, h with | [d0, d1, d2], _ => rfl) walk

theorem over : Rows.modelStaleRow.holds Try.pinned (OpenSpec.ofChange Rows.modelStaleSpec) :=
  OpenClaim.holds_of_wide 5 Try.f5 rfl rfl rfl rfl rfl rfl rfl ⟨rfl, rfl, rfl, rfl, rfl⟩ rfl rfl rfl rfl rfl (by kernel_rfl) Try.func5 (by kernel_rfl)
    (of_decide_eq_true (by kernel_rfl)) (by unfold Func.isWrapper; first | (rw [if_pos (by decide +kernel)]; kernel_rfl) | (rw [if_neg (by decide +kernel)]; exact ⟨rfl, rfl⟩))
    (fun os started H enc _ => lifted os started H enc)
end Go.Proofs.Ytlcegnehlhakdaa.modelStaleAt

namespace Go.Proofs.Ytlcegnehlhakdaa
theorem modelStale_holds : Rows.ModelStaleSaid := modelStaleAt.over
end Go.Proofs.Ytlcegnehlhakdaa
