/-
  The statement ModelRefused of layer 7, for every input.
  Conditions: none.
-/
import Derived.Test.YtlcegnehlhakdaaModelRefusedLaw
import Derived.Test.YtlcegnehlhakdaaLaw
import Derived.Test.YtlcegnehlhakdaaRows
namespace Go.Proofs.Ytlcegnehlhakdaa.modelRefusedAt
open Go.ChangeShapes Go.WideShapes Go.ChangeAt Go.RowKit
set_option linter.unusedVariables false

theorem own : ownKnob Try.prog.godebug = none := by kernel_rfl
theorem laidOut : laidOutB Try.prog = true := by kernel_rfl
theorem readable : (Try.f6.params.toList.all fun t => Try.prog.readableRec t && decide (t < Try.prog.types.size)) = true := by kernel_rfl

set_option maxRecDepth 100000 in
theorem walk {H : Type} {enc : TypeId × Value → H} (W : World) (base : Nat) (args : Array Value) (ds : List (DataW H)) (ps : List MemPlace) (hlen : args.toList.length = Try.f6.params.toList.length)
    (hval0 : ∀ (j : Nat) t v, Try.f6.params[j]? = some t → args[j]? = some v → Value.okWide Try.prog W .any base t v)
    (hA : DataW.TrodAll enc Try.prog W 0 (fun _ => true) true Try.f6.params.toList args.toList ds ps) (hlt : ∀ x ∈ ps, x.block < W.heap.size) : Calls Try.prog 6 args W (Ret W (.bool true)) := by
  have hval : ∀ (j : Nat) t v, (#[22, 41] : Array TypeId)[j]? = some t → args[j]? = some v → Value.okWide Try.prog W .any base t v := by
    rw [← Try.params6]
    exact hval0
  rw [Try.params6] at hlen hA
  clear hval0
  obtain ⟨v0, v1, rfl⟩ := args_two hlen
  obtain ⟨u0, u1, d0, d1, p0, p1, e0, rfl, rfl, h0, h1⟩ := trodAll_two hA
  obtain ⟨e0', e1'⟩ : u0 = v0 ∧ u1 = v1 := by simpa [eq_comm] using e0
  subst e0' e1'
  obtain ⟨a0, len0, cap0, rfl⟩ := okWide_slice Try.underlying22 (hval 0 22 u0 rfl rfl)
  obtain ⟨fu0, hf0⟩ := h0
  obtain ⟨q0, c0, l0, ev0, hm0, hlc0, hcm0, hE0⟩ := cas_of_trod (by simpa [Value.cells] using hf0)
  rw [ev0]
  obtain ⟨cs1, rfl, hl1, hc1⟩ := okcells (ts := [3, 3, 3, 3, 33, 3, 4]) Try.underlying41 (by kernel_rfl) (by kernel_rfl) (hval 1 41 u1 rfl rfl)
  match cs1, hl1 with
  | [b10, b11, b12, b13, b14, b15, b16], _ =>
  obtain ⟨a10, rfl, w10⟩ := okcell_int Try.underlying3 (hc1 0 3 b10 rfl rfl)
  obtain ⟨a11, rfl, w11⟩ := okcell_int Try.underlying3 (hc1 1 3 b11 rfl rfl)
  obtain ⟨a12, rfl, w12⟩ := okcell_int Try.underlying3 (hc1 2 3 b12 rfl rfl)
  obtain ⟨a13, rfl, w13⟩ := okcell_int Try.underlying3 (hc1 3 3 b13 rfl rfl)
  obtain ⟨a14, rfl, w14⟩ := okcell_int Try.underlying33 (hc1 4 33 b14 rfl rfl)
  obtain ⟨a15, rfl, w15⟩ := okcell_int Try.underlying3 (hc1 5 3 b15 rfl rfl)
  obtain ⟨a16, rfl⟩ := okcell_bool Try.underlying4 (hc1 6 4 b16 rfl rfl)
  exact ModelRefused_any hE0 a10 a11 a12 a13 a14 a15 a16 w11 w15

set_option maxRecDepth 100000 in
theorem lifted (os : Os) (started : os.Started) (H : Type) (enc : TypeId × Value → H) :
    ReturnsInHanded {} Try.checked os 6 .any (Rows.modelRefusedSpec.pre6 enc Try.prog Try.f6 Rows.modelRefusedRow.domain false) (Rows.modelRefusedSpec.post enc Try.prog Try.f6 false true false false) :=
  law_lifted_read (C := Try.checked) own started (by kernel_rfl) Try.func6
    (ChangeSpec.witness6 (enc := enc) (C := Try.checked) false ⟨#[], #[.slice none 0 0, .agg #[.int .i64 0, .int .i64 0, .int .i64 0, .int .i64 0, .int .i64 0, .int .i64 0, .bool false]], []⟩ 8 (by kernel_rfl) (by kernel_rfl) (by kernel_rfl) (by kernel_rfl))
    laidOut rfl readable (by kernel_rfl) Try.underlying4 (fun ds h => by match ds, h with | [d0, d1], _ => rfl) walk

theorem over : Rows.modelRefusedRow.holds Try.pinned (OpenSpec.ofChange Rows.modelRefusedSpec) :=
  OpenClaim.holds_of_wide 6 Try.f6 rfl rfl rfl rfl rfl rfl rfl ⟨rfl, rfl, rfl, rfl, rfl⟩ rfl rfl rfl rfl rfl (by kernel_rfl) Try.func6 (by kernel_rfl)
    (of_decide_eq_true (by kernel_rfl)) (by unfold Func.isWrapper; first | (rw [if_pos (by decide +kernel)]; kernel_rfl) | (rw [if_neg (by decide +kernel)]; exact ⟨rfl, rfl⟩))
    (fun os started H enc _ => lifted os started H enc)
end Go.Proofs.Ytlcegnehlhakdaa.modelRefusedAt

namespace Go.Proofs.Ytlcegnehlhakdaa
theorem modelRefused_holds : Rows.ModelRefusedSaid := modelRefusedAt.over
end Go.Proofs.Ytlcegnehlhakdaa
