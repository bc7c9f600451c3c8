/-
  The statement StackSteps of layer 10, for every input: the card, tied to the program's text.
  Conditions: the package's variables start as the program's text lays them (the card's own tie); it speaks of the pruned copy that the seat was turned of.
-/
import Derived.Test.YtlidoicpfomfcaaDoorStackStepsLaw
import Derived.Test.YtlidoicpfomfcaaDoorStLive
import Derived.Test.YtlidoicpfomfcaaDoorStArgB
import Derived.Test.YtlidoicpfomfcaaDoorHeadLaidP
import Derived.Test.YtlidoicpfomfcaaDoorCards
import Derived.SevenTiedAt
namespace Go.Proofs.YtlidoicpfomfcaaDoor.stackStepsAt
open Go Go.ChangeShapes Go.WideShapes Go.ChangeAt Go.RowKit

theorem readable : (Tryd.f3.params.toList.all fun t => Tryd.checked.prog.readableRec t && decide (t < Tryd.checked.prog.types.size)) = true := by kernel_rfl

set_option maxRecDepth 100000 in
theorem walk {H : Type} {enc : TypeId × Value → H} (W : World) (base : Nat) (args : Array Value) (ds : List (DataW H)) (ps : List MemPlace) (hF : HasHead W) (hlen : args.toList.length = Tryd.f3.params.toList.length)
    (hval0 : ∀ (j : Nat) t v, Tryd.f3.params[j]? = some t → args[j]? = some v → Value.okWide Tryd.prog W .any base t v)
    (hA : DataW.TrodAll enc Tryd.prog W 0 (fun _ => true) true Tryd.f3.params.toList args.toList ds ps) (hlt : ∀ x ∈ ps, x.block < W.heap.size) : Calls Tryd.prog 3 args W (Ret W (.bool true)) := by
  have hval : ∀ (j : Nat) t v, (#[27] : Array TypeId)[j]? = some t → args[j]? = some v → Value.okWide Tryd.prog W .any base t v := by
    rw [← Tryd.params3]
    exact hval0
  rw [Tryd.params3] at hlen hA
  clear hval0
  obtain ⟨v0, rfl⟩ := args_one hlen
  have _hlt := hlt
  obtain ⟨u0, d0, e0, rfl, h0⟩ := trodAll_one hA
  have e0' : u0 = v0 := by simpa using e0.symm
  subst e0'
  obtain ⟨cs, rfl, hl, hc⟩ := okcells (ts := [3, 3, 3, 24, 3, 3, 3]) Tryd.underlying27 (by kernel_rfl) (by kernel_rfl) (hval 0 27 _ rfl rfl)
  match cs, hl with
  | [c0, c1, c2, c3, c4, c5, c6], _ =>
  obtain ⟨a, rfl, wa⟩ := okcell_int Tryd.underlying3 (hc 0 3 c0 rfl rfl)
  obtain ⟨s, rfl, ws⟩ := okcell_int Tryd.underlying3 (hc 1 3 c1 rfl rfl)
  obtain ⟨t, rfl, wt⟩ := okcell_int Tryd.underlying3 (hc 2 3 c2 rfl rfl)
  obtain ⟨at', rfl, wat⟩ := okcell_int Tryd.underlying3 (hc 4 3 c4 rfl rfl)
  obtain ⟨s0, rfl, w0⟩ := okcell_int Tryd.underlying3 (hc 5 3 c5 rfl rfl)
  obtain ⟨s1, rfl, w1⟩ := okcell_int Tryd.underlying3 (hc 6 3 c6 rfl rfl)
  obtain ⟨fu0, hf0⟩ := h0
  obtain ⟨fu1, y1, hf1⟩ := script_of_trod (by simpa [Value.cells] using hf0)
  obtain ⟨p, cap, l, rfl, hm0, hlc0, hcm0, hE0⟩ := pks_of_trod hf1
  have hb : -9223372036854775808 ≤ s1 ∧ s1 ≤ 9223372036854775807 := wf_bd w1
  exact steps_any a s t at' s0 s1 p l cap W (fun W h => slive_any W h) hF hE0 hb.1 hb.2

set_option maxRecDepth 100000 in
theorem lifted (os : Os) (started : os.Started) (H : Type) (enc : TypeId × Value → H) :
    ReturnsInHanded {} Tryd.checked os 3 .any (fun w args => (Rows.stackStepsSpec.pre enc Tryd.prog Tryd.f3 [] false w args ∧ laidMetH Tryd.prog laidL w) ∧ sizedMet enc Tryd.prog Tryd.f3 (OpenSpec.ofChange Rows.stackStepsSpec) false w args)
      (Rows.stackStepsSpec.post enc Tryd.prog Tryd.f3 false true false false) :=
  law_lifted_laid_read #[.agg #[.int .i64 0, .int .i64 0, .int .i64 0, .slice none 0 0, .int .i64 0, .int .i64 0, .int .i64 0]] started (by kernel_rfl) Tryd.func3 (World.shaped_of_RefB (by kernel_rfl) (by kernel_rfl)) (by kernel_rfl) (by kernel_rfl) (by kernel_rfl)
    rfl readable (by kernel_rfl) Tryd.underlying4 (fun ds h => by match ds, h with | [d], _ => rfl) walk

theorem over : Rows.StackStepsSaid :=
  OpenClaim.holds_of_wide 3 Tryd.f3 rfl rfl rfl rfl rfl rfl rfl ⟨rfl, rfl, rfl, rfl, rfl⟩ rfl rfl rfl rfl rfl (by kernel_rfl) Tryd.func3 (by kernel_rfl)
    (of_decide_eq_true (by kernel_rfl)) (by unfold Func.isWrapper; first | (rw [if_pos (by decide +kernel)]; kernel_rfl) | (rw [if_neg (by decide +kernel)]; exact ⟨rfl, rfl⟩))
    (fun os started H enc _ => lifted os started H enc)

theorem card : Claim7.holds Tryd.pinned (.plain (OpenSpec.ofChange Rows.stackStepsSpec)) Rows.stackStepsCard :=
  Claim7.holds_tied_plain_at .later [] [.data, .data] true (true, "05fa2a468bbe4bf82a663489bc0e1bc5852ec925d4674004d4b5215a8805a20e") false
    over (fun _ h => by cases h) (by kernel_rfl) (fun _ h => by cases h) stackSteps_row_tie rfl ⟨rfl, rfl⟩ (by kernel_rfl) rfl
    (fun f fn hf hfn => by
      obtain rfl : f = 3 := Option.some.inj ((show Tryd.prog.funcNamed "sidings/sidingslaw10.StackSteps" = some 3 by kernel_rfl).symm.trans hf) |>.symm
      obtain rfl : fn = Tryd.f3 := (Option.some.inj (Tryd.func3.symm.trans hfn)).symm
      exact ⟨by kernel_rfl, fun j t ht => by
        rw [Tryd.params3] at ht
        have hm : t ∈ [27] := by simpa using Array.mem_of_getElem? ht
        have hall : ([27].all fun u => !Tryd.prog.wantsStandIn u) = true := by kernel_rfl
        exact (show Tryd.prog.wantsStandIn t = false by simpa using List.all_eq_true.1 hall t hm)⟩)
    (by kernel_rfl)
end Go.Proofs.YtlidoicpfomfcaaDoor.stackStepsAt

namespace Go.Proofs.YtlidoicpfomfcaaDoor
theorem stackSteps_holds : Rows.StackStepsCardSaid := stackStepsAt.card
end Go.Proofs.YtlidoicpfomfcaaDoor
