/-
  The statement StackApart of layer 10, for every input: the card, tied to the program's text.
  Conditions: the package's variables start as the program's text lays them (the card's own tie); it speaks of the pruned copy that the seat was turned of.
-/
import Derived.Test.YtlidoicpfomfcaaDoorStackApartLaw
import Derived.Test.YtlidoicpfomfcaaDoorStLive
import Derived.Test.YtlidoicpfomfcaaDoorHeadLaidP
import Derived.Test.YtlidoicpfomfcaaDoorCards
import Derived.SevenTiedAt
namespace Go.Proofs.YtlidoicpfomfcaaDoor.stackApartAt
open Go Go.ChangeShapes Go.WideShapes Go.ChangeAt Go.RowKit

theorem readable : (Tryd.f4.params.toList.all fun t => Tryd.checked.prog.readableRec t && decide (t < Tryd.checked.prog.types.size)) = true := by kernel_rfl

set_option maxRecDepth 100000 in
theorem walk {H : Type} {enc : TypeId × Value → H} (W : World) (base : Nat) (args : Array Value) (ds : List (DataW H)) (ps : List MemPlace) (hF : HasHead W) (hlen : args.toList.length = Tryd.f4.params.toList.length)
    (hval0 : ∀ (j : Nat) t v, Tryd.f4.params[j]? = some t → args[j]? = some v → Value.okWide Tryd.prog W .any base t v)
    (hA : DataW.TrodAll enc Tryd.prog W 0 (fun _ => true) true Tryd.f4.params.toList args.toList ds ps) (hlt : ∀ x ∈ ps, x.block < W.heap.size) : Calls Tryd.prog 4 args W (Ret W (.bool true)) := by
  have hval : ∀ (j : Nat) t v, (#[23, 24] : Array TypeId)[j]? = some t → args[j]? = some v → Value.okWide Tryd.prog W .any base t v := by
    rw [← Tryd.params4]
    exact hval0
  rw [Tryd.params4] at hlen hA
  clear hval0
  obtain ⟨v0, v1, rfl⟩ := args_two hlen
  have _hlt := hlt
  obtain ⟨u0, u1, d0, d1, p0, p1, e0, rfl, rfl, h0, h1⟩ := trodAll_two hA
  obtain ⟨e0', e1'⟩ : u0 = v0 ∧ u1 = v1 := by simpa [eq_comm] using e0
  subst e0' e1'
  obtain ⟨a1, len1, cap1, rfl⟩ := okWide_slice Tryd.underlying24 (hval 1 24 u1 rfl rfl)
  obtain ⟨fu1, hf1⟩ := h1
  obtain ⟨p, cap, l, e1, hm0, hlc0, hcm0, hE0⟩ := pks_of_trod (by simpa [Value.cells] using hf1)
  rw [e1]
  obtain ⟨cs, rfl, hl, hc⟩ := okcells (ts := [3, 3, 3]) Tryd.underlying23 (by kernel_rfl) (by kernel_rfl) (hval 0 23 u0 rfl rfl)
  match cs, hl with
  | [c0, c1, c2], _ =>
  obtain ⟨a, rfl, wa⟩ := okcell_int Tryd.underlying3 (hc 0 3 c0 rfl rfl)
  obtain ⟨s, rfl, ws⟩ := okcell_int Tryd.underlying3 (hc 1 3 c1 rfl rfl)
  obtain ⟨t, rfl, wt⟩ := okcell_int Tryd.underlying3 (hc 2 3 c2 rfl rfl)
  exact StackApart_walk (fun W h => slive_any W h) hF hE0

set_option maxRecDepth 100000 in
theorem lifted (os : Os) (started : os.Started) (H : Type) (enc : TypeId × Value → H) :
    ReturnsInHanded {} Tryd.checked os 4 .any (fun w args => (Rows.stackApartSpec.pre enc Tryd.prog Tryd.f4 [] false w args ∧ laidMetH Tryd.prog laidL w) ∧ sizedMet enc Tryd.prog Tryd.f4 (OpenSpec.ofChange Rows.stackApartSpec) false w args)
      (Rows.stackApartSpec.post enc Tryd.prog Tryd.f4 false true false false) :=
  law_lifted_laid_read #[.agg #[.int .i64 0, .int .i64 0, .int .i64 0], .slice none 0 0] started (by kernel_rfl) Tryd.func4 (World.shaped_of_RefB (by kernel_rfl) (by kernel_rfl)) (by kernel_rfl) (by kernel_rfl) (by kernel_rfl)
    rfl readable (by kernel_rfl) Tryd.underlying4 (fun ds h => by match ds, h with | [d1, d2], _ => rfl) walk

theorem over : Rows.StackApartSaid :=
  OpenClaim.holds_of_wide 4 Tryd.f4 rfl rfl rfl rfl rfl rfl rfl ⟨rfl, rfl, rfl, rfl, rfl⟩ rfl rfl rfl rfl rfl (by kernel_rfl) Tryd.func4 (by kernel_rfl)
    (of_decide_eq_true (by kernel_rfl)) (by unfold Func.isWrapper; first | (rw [if_pos (by decide +kernel)]; kernel_rfl) | (rw [if_neg (by decide +kernel)]; exact ⟨rfl, rfl⟩))
    (fun os started H enc _ => lifted os started H enc)

theorem card : Claim7.holds Tryd.pinned (.plain (OpenSpec.ofChange Rows.stackApartSpec)) Rows.stackApartCard :=
  Claim7.holds_tied_plain_at .later [] [.data, .data] true (true, "05fa2a468bbe4bf82a663489bc0e1bc5852ec925d4674004d4b5215a8805a20e") false
    over (fun _ h => by cases h) (by kernel_rfl) (fun _ h => by cases h) stackApart_row_tie rfl ⟨rfl, rfl⟩ (by kernel_rfl) rfl
    (fun f fn hf hfn => by
      obtain rfl : f = 4 := Option.some.inj ((show Tryd.prog.funcNamed "sidings/sidingslaw10.StackApart" = some 4 by kernel_rfl).symm.trans hf) |>.symm
      obtain rfl : fn = Tryd.f4 := (Option.some.inj (Tryd.func4.symm.trans hfn)).symm
      exact ⟨by kernel_rfl, fun j t ht => by
        rw [Tryd.params4] at ht
        have hm : t ∈ [23, 24] := by simpa using Array.mem_of_getElem? ht
        have hall : ([23, 24].all fun u => !Tryd.prog.wantsStandIn u) = true := by kernel_rfl
        exact (show Tryd.prog.wantsStandIn t = false by simpa using List.all_eq_true.1 hall t hm)⟩)
    (by kernel_rfl)
end Go.Proofs.YtlidoicpfomfcaaDoor.stackApartAt

namespace Go.Proofs.YtlidoicpfomfcaaDoor
theorem stackApart_holds : Rows.StackApartCardSaid := stackApartAt.card
end Go.Proofs.YtlidoicpfomfcaaDoor
