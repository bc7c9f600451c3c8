/-
  The statement ModelWritten of layer 7, for every input.
  Conditions: none.
-/
import Derived.Test.YtlcegnehlhakdaaModelWrittenLaw
import Derived.Test.YtlcegnehlhakdaaLaw
import Derived.Test.YtlcegnehlhakdaaRows
namespace Go.Proofs.Ytlcegnehlhakdaa.modelWrittenAt
open Go.ChangeShapes Go.WideShapes Go.ChangeAt Go.RowKit
set_option linter.unusedVariables false

theorem own : ownKnob Try.prog.godebug = none := by kernel_rfl
theorem laidOut : laidOutB Try.prog = true := by kernel_rfl
theorem readable : (Try.f4.params.toList.all fun t => Try.prog.readableRec t && decide (t < Try.prog.types.size)) = true := by kernel_rfl

set_option maxRecDepth 100000 in
theorem walk {H : Type} {enc : TypeId × Value → H} (W : World) (base : Nat) (args : Array Value) (ds : List (DataW H)) (ps : List MemPlace) (hlen : args.toList.length = Try.f4.params.toList.length)
    (hval0 : ∀ (j : Nat) t v, Try.f4.params[j]? = some t → args[j]? = some v → Value.okWide Try.prog W .any base t v)
    (hA : DataW.TrodAll enc Try.prog W 0 (fun _ => true) true Try.f4.params.toList args.toList ds ps) (hlt : ∀ x ∈ ps, x.block < W.heap.size) : Calls Try.prog 4 args W (Ret W (.bool true)) := by
  have hval : ∀ (j : Nat) t v, (#[22, 39, 39] : Array TypeId)[j]? = some t → args[j]? = some v → Value.okWide Try.prog W .any base t v := by
    rw [← Try.params4]
    exact hval0
  rw [Try.params4] at hlen hA
  clear hval0
  obtain ⟨v0, v1, v2, rfl⟩ := args_three hlen
  obtain ⟨u0, u1, u2, d0, d1, d2, p0, p1, p2, e0, rfl, rfl, h0, h1, h2⟩ := trodAll_three hA
  obtain ⟨e0', e1', e2'⟩ : u0 = v0 ∧ u1 = v1 ∧ u2 = v2 := by simpa [eq_comm] using e0
  subst e0' e1' e2'
  obtain ⟨a0, len0, cap0, rfl⟩ := okWide_slice Try.underlying22 (hval 0 22 u0 rfl rfl)
  obtain ⟨fu0, hf0⟩ := h0
  obtain ⟨q0, c0, l0, ev0, hm0, hlc0, hcm0, hE0⟩ := cas_of_trod (by simpa [Value.cells] using hf0)
  rw [ev0]
  obtain ⟨cs1, rfl, hl1, hc1⟩ := okcells (ts := [3, 3, 3, 3]) Try.underlying39 (by kernel_rfl) (by kernel_rfl) (hval 1 39 u1 rfl rfl)
  match cs1, hl1 with
  | [b10, b11, b12, b13], _ =>
  obtain ⟨a10, rfl, w10⟩ := okcell_int Try.underlying3 (hc1 0 3 b10 rfl rfl)
  obtain ⟨a11, rfl, w11⟩ := okcell_int Try.underlying3 (hc1 1 3 b11 rfl rfl)
  obtain ⟨a12, rfl, w12⟩ := okcell_int Try.underlying3 (hc1 2 3 b12 rfl rfl)
  obtain ⟨a13, rfl, w13⟩ := okcell_int Try.underlying3 (hc1 3 3 b13 rfl rfl)
  obtain ⟨cs2, rfl, hl2, hc2⟩ := okcells (ts := [3, 3, 3, 3]) Try.underlying39 (by kernel_rfl) (by kernel_rfl) (hval 2 39 u2 rfl rfl)
  match cs2, hl2 with
  | [b20, b21, b22, b23], _ =>
  obtain ⟨a20, rfl, w20⟩ := okcell_int Try.underlying3 (hc2 0 3 b20 rfl rfl)
  obtain ⟨a21, rfl, w21⟩ := okcell_int Try.underlying3 (hc2 1 3 b21 rfl rfl)
  obtain ⟨a22, rfl, w22⟩ := okcell_int Try.underlying3 (hc2 2 3 b22 rfl rfl)
  obtain ⟨a23, rfl, w23⟩ := okcell_int Try.underlying3 (hc2 3 3 b23 rfl rfl)
  exact ModelWritten_any hE0 a10 a11 a12 a13 a20 a21 a22 a23 w11 w21

set_option maxRecDepth 100000 in
theorem lifted (os : Os) (started : os.Started) (H : Type) (enc : TypeId × Value → H) :
    ReturnsInHanded {} Try.checked os 4 .any (Rows.modelWrittenSpec.pre6 enc Try.prog Try.f4 Rows.modelWrittenRow.domain false) (Rows.modelWrittenSpec.post enc Try.prog Try.f4 false true false false) :=
  law_lifted_read (C := Try.checked) own started (by kernel_rfl) Try.func4
    (ChangeSpec.witness6 (enc := enc) (C := Try.checked) false ⟨#[], #[.slice none 0 0, .agg #[.int .i64 0, .int .i64 0, .int .i64 0, .int .i64 0], .agg #[.int .i64 0, .int .i64 0, .int .i64 0, .int .i64 0]], []⟩ 8 (by kernel_rfl) (by kernel_rfl) (by kernel_rfl) (by kernel_rfl))
    laidOut rfl readable (by kernel_rfl) Try.underlying4 (fun ds h => by match ds, h with | [d0, d1, d2], _ => rfl) walk

theorem over : Rows.modelWrittenRow.holds Try.pinned (OpenSpec.ofChange Rows.modelWrittenSpec) :=
  OpenClaim.holds_of_wide 4 Try.f4 rfl rfl rfl rfl rfl rfl rfl ⟨rfl, rfl, rfl, rfl, rfl⟩ rfl rfl rfl rfl rfl (by kernel_rfl) Try.func4 (by kernel_rfl)
    (of_decide_eq_true (by kernel_rfl)) (by unfold Func.isWrapper; first | (rw [if_pos (by decide +kernel)]; kernel_rfl) | (rw [if_neg (by decide +kernel)]; exact ⟨rfl, rfl⟩))
    (fun os started H enc _ => lifted os started H enc)
end Go.Proofs.Ytlcegnehlhakdaa.modelWrittenAt

namespace Go.Proofs.Ytlcegnehlhakdaa
theorem modelWritten_holds : Rows.ModelWrittenSaid := modelWrittenAt.over
end Go.Proofs.Ytlcegnehlhakdaa
