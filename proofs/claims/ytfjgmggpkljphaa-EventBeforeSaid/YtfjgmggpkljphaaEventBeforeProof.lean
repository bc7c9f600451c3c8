/-
  The statement EventBefore of layer 8, for every input.
  Conditions: none.
-/
import Derived.Test.YtfjgmggpkljphaaEvLiveAny
import Derived.Test.YtfjgmggpkljphaaEvProgC
import Derived.Test.YtfjgmggpkljphaaLaw
import Derived.Test.YtfjgmggpkljphaaRows
namespace Go.Proofs.Ytfjgmggpkljphaa.eventBeforeAt
open Go.ChangeShapes Go.WideShapes Go.ChangeAt Go.RowKit

theorem own : ownKnob Try.prog.godebug = none := by kernel_rfl
theorem laidOut : laidOutB Try.prog = true := by kernel_rfl
theorem readable : (Try.f10.params.toList.all fun t => Try.prog.readableRec t && decide (t < Try.prog.types.size)) = true := by kernel_rfl

set_option maxRecDepth 100000 in
theorem call_of {W : World} {base : Nat} {v : Value} (h : Value.okWide Try.prog W .any base 70 v) : ∃ a : Cl, v = clV a := by
  obtain ⟨cs, rfl, hl, hc⟩ := okcells (ts := [3, 3, 3, 3, 3, 33, 3, 4, 3, 3]) Try.underlying70 (by kernel_rfl) (by kernel_rfl) h
  match cs, hl with
  | [c0, c1, c2, c3, c4, c5, c6, c7, c8, c9], _ =>
  obtain ⟨x0, rfl, _⟩ := okcell_int Try.underlying3 (hc 0 3 c0 rfl rfl)
  obtain ⟨x1, rfl, _⟩ := okcell_int Try.underlying3 (hc 1 3 c1 rfl rfl)
  obtain ⟨x2, rfl, _⟩ := okcell_int Try.underlying3 (hc 2 3 c2 rfl rfl)
  obtain ⟨x3, rfl, _⟩ := okcell_int Try.underlying3 (hc 3 3 c3 rfl rfl)
  obtain ⟨x4, rfl, _⟩ := okcell_int Try.underlying3 (hc 4 3 c4 rfl rfl)
  obtain ⟨x5, rfl, _⟩ := okcell_int Try.underlying33 (hc 5 33 c5 rfl rfl)
  obtain ⟨x6, rfl, _⟩ := okcell_int Try.underlying3 (hc 6 3 c6 rfl rfl)
  obtain ⟨x7, rfl⟩ := okcell_bool Try.underlying4 (hc 7 4 c7 rfl rfl)
  obtain ⟨x8, rfl, _⟩ := okcell_int Try.underlying3 (hc 8 3 c8 rfl rfl)
  obtain ⟨x9, rfl, _⟩ := okcell_int Try.underlying3 (hc 9 3 c9 rfl rfl)
  exact ⟨⟨x0, x1, x2, x3, x4, x5, x6, x7, x8, x9⟩, rfl⟩

set_option maxRecDepth 100000 in
theorem walk (W : World) (base : Nat) (args : Array Value) (hlen : args.toList.length = Try.f10.params.toList.length)
    (hval0 : ∀ (j : Nat) t v, Try.f10.params[j]? = some t → args[j]? = some v → Value.okWide Try.prog W .any base t v) : Calls Try.prog 10 args W (Ret W (.bool true)) := by
  have hval : ∀ (j : Nat) t v, (#[70, 70] : Array TypeId)[j]? = some t → args[j]? = some v → Value.okWide Try.prog W .any base t v := by
    rw [← Try.params10]
    exact hval0
  rw [Try.params10] at hlen
  clear hval0
  obtain ⟨v0, v1, rfl⟩ := args_two hlen
  obtain ⟨a, rfl⟩ := call_of (hval 0 70 v0 rfl rfl)
  obtain ⟨b, rfl⟩ := call_of (hval 1 70 v1 rfl rfl)
  exact EventBefore_true has8 (live_any has8) a b W

set_option maxRecDepth 100000 in
theorem lifted (os : Os) (started : os.Started) (H : Type) (enc : TypeId × Value → H) :
    ReturnsInHanded {} Try.checked os 10 .any (Rows.eventBeforeSpec.pre6 enc Try.prog Try.f10 Rows.eventBeforeRow.domain false) (Rows.eventBeforeSpec.post enc Try.prog Try.f10 false true false false) :=
  law_lifted (C := Try.checked) own started (by kernel_rfl) Try.func10
    (ChangeSpec.witness6 (enc := enc) (C := Try.checked) false ⟨#[], #[clV default, clV default], []⟩ 8 (by kernel_rfl) (by kernel_rfl) (by kernel_rfl) (by kernel_rfl))
    laidOut rfl readable (by kernel_rfl) Try.underlying4 (fun ds h => by match ds, h with | [d1, d2], _ => rfl) walk

theorem over : Rows.eventBeforeRow.holds Try.pinned (OpenSpec.ofChange Rows.eventBeforeSpec) :=
  OpenClaim.holds_of_wide 10 Try.f10 rfl rfl rfl rfl rfl rfl rfl ⟨rfl, rfl, rfl, rfl, rfl⟩ rfl rfl rfl rfl rfl (by kernel_rfl) Try.func10 (by kernel_rfl)
    (of_decide_eq_true (by kernel_rfl)) (by unfold Func.isWrapper; first | (rw [if_pos (by decide +kernel)]; kernel_rfl) | (rw [if_neg (by decide +kernel)]; exact ⟨rfl, rfl⟩))
    (fun os started H enc _ => lifted os started H enc)
end Go.Proofs.Ytfjgmggpkljphaa.eventBeforeAt

namespace Go.Proofs.Ytfjgmggpkljphaa
theorem eventBefore_holds : Rows.EventBeforeSaid := eventBeforeAt.over
end Go.Proofs.Ytfjgmggpkljphaa
