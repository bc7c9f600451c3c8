/-
  The statement HeadRow of layer 4, for every input: the card, tied to the program's text.
  Conditions: the package's variables start as the program's text lays them (the card's own tie); it speaks of the pruned copy that the seat was turned of.
-/
import Derived.Test.YtmicpfilklmbkaaDoorHeadRowLaw
import Derived.Test.YtmicpfilklmbkaaDoorHeadLaid
import Derived.Test.YtmicpfilklmbkaaDoorCards
import Derived.SevenTiedAt
namespace Go.Proofs.YtmicpfilklmbkaaDoor.headRowAt
open Go Go.ChangeShapes Go.WideShapes Go.ChangeAt Go.RowKit

theorem readable : (Tryd.f7.params.toList.all fun t => Tryd.checked.prog.readableRec t && decide (t < Tryd.checked.prog.types.size)) = true := by kernel_rfl

theorem walk {H : Type} {enc : TypeId × Value → H} (W : World) (base : Nat) (args : Array Value) (ds : List (DataW H)) (ps : List MemPlace) (hF : HasHead W) (hlen : args.toList.length = Tryd.f7.params.toList.length)
    (hval0 : ∀ (j : Nat) t v, Tryd.f7.params[j]? = some t → args[j]? = some v → Value.okWide Tryd.prog W .any base t v)
    (hA : DataW.TrodAll enc Tryd.prog W 0 (fun _ => true) true Tryd.f7.params.toList args.toList ds ps) (hlt : ∀ x ∈ ps, x.block < W.heap.size) : Calls Tryd.prog 7 args W (Ret W (.bool true)) := by
  have hval : ∀ (j : Nat) t v, (#[33] : Array TypeId)[j]? = some t → args[j]? = some v → Value.okWide Tryd.prog W .any base t v := by
    rw [← Tryd.params7]
    exact hval0
  rw [Tryd.params7] at hlen hA
  clear hval0
  obtain ⟨v0, rfl⟩ := args_one hlen
  obtain ⟨a0, len, cap, rfl⟩ := okWide_slice Tryd.underlying33 (hval 0 33 v0 rfl rfl)
  obtain ⟨v1, d0, e1, rfl, h0⟩ := trodAll_one hA
  have e2 : v1 = .slice a0 len cap := by simpa using e1.symm
  subst e2
  obtain ⟨fuel, hf⟩ := h0
  rcases open_ints Tryd.underlying33 Tryd.underlying3 cInt hf with ⟨hcs, hx⟩ | ⟨a, len', cap', zs, hcs, _, hl, hm, hz, hx, hcell, hwz⟩
  · simp [Value.cells] at hcs
    obtain ⟨rfl, rfl, rfl⟩ := hcs
    exact HeadRow_empty none 0 W hF
  · simp [Value.cells] at hcs
    obtain ⟨rfl, rfl, rfl⟩ := hcs
    simp only [Prod.mk.injEq] at hx
    obtain ⟨_, rfl⟩ := hx
    simp only [if_true] at hz
    by_cases h1 : len = 0
    · subst h1
      exact HeadRow_empty (some a) cap W hF
    by_cases h2 : 64 < len
    · exact HeadRow_long (some a) len cap W hF h2 (Nat.le_trans hl (Nat.le_trans hm (by decide)))
    obtain ⟨b, off, rfl, hc⟩ := ints_at hcell (by omega)
    exact HeadRow_some b off len cap zs W hF (by omega) (by omega) (hlt (.cell b off) (MemPlace.mem_row.2 ⟨0, by omega, by simp⟩)) (fun j hj => hc j (by omega))

set_option maxRecDepth 100000 in
theorem lifted (os : Os) (started : os.Started) (H : Type) (enc : TypeId × Value → H) :
    ReturnsInHanded {} Tryd.checked os 7 .any (fun w args => (Rows.headRowSpec.pre enc Tryd.prog Tryd.f7 [] false w args ∧ laidMetH Tryd.prog laidL w) ∧ sizedMet enc Tryd.prog Tryd.f7 (OpenSpec.ofChange Rows.headRowSpec) false w args)
      (Rows.headRowSpec.post enc Tryd.prog Tryd.f7 false true false false) :=
  law_lifted_laid_read #[.slice none 0 0] started (by kernel_rfl) Tryd.func7 (World.shaped_of_RefB (by kernel_rfl) (by kernel_rfl)) (by kernel_rfl) (by kernel_rfl) (by kernel_rfl)
    rfl readable (by kernel_rfl) Tryd.underlying4 (fun ds h => by match ds, h with | [d], _ => rfl) walk

theorem over : Rows.HeadRowSaid :=
  OpenClaim.holds_of_wide 7 Tryd.f7 rfl rfl rfl rfl rfl rfl rfl ⟨rfl, rfl, rfl, rfl, rfl⟩ rfl rfl rfl rfl rfl (by kernel_rfl) Tryd.func7 (by kernel_rfl)
    (of_decide_eq_true (by kernel_rfl)) (by unfold Func.isWrapper; first | (rw [if_pos (by decide +kernel)]; kernel_rfl) | (rw [if_neg (by decide +kernel)]; exact ⟨rfl, rfl⟩))
    (fun os started H enc _ => lifted os started H enc)

theorem card : Claim7.holds Tryd.pinned (.plain (OpenSpec.ofChange Rows.headRowSpec)) Rows.headRowCard :=
  Claim7.holds_tied_plain_at .later [] [.data, .data] true (true, "3557a27a525e6a66db5440ed4fe1adf5f76a62f59727b3e457f0000b1f14bd1e") false
    over (fun _ h => by cases h) (by kernel_rfl) (fun _ h => by cases h) headRow_row_tie rfl ⟨rfl, rfl⟩ (by kernel_rfl) rfl
    (fun f fn hf hfn => by
      obtain rfl : f = 7 := Option.some.inj ((show Tryd.prog.funcNamed "sidings/sidingslaw04.HeadRow" = some 7 by kernel_rfl).symm.trans hf) |>.symm
      obtain rfl : fn = Tryd.f7 := (Option.some.inj (Tryd.func7.symm.trans hfn)).symm
      exact ⟨by kernel_rfl, fun j t ht => by
        rw [Tryd.params7] at ht
        have hm : t ∈ [33] := by simpa using Array.mem_of_getElem? ht
        have hall : ([33].all fun u => !Tryd.prog.wantsStandIn u) = true := by kernel_rfl
        exact (show Tryd.prog.wantsStandIn t = false by simpa using List.all_eq_true.1 hall t hm)⟩)
    (by kernel_rfl)
end Go.Proofs.YtmicpfilklmbkaaDoor.headRowAt

namespace Go.Proofs.YtmicpfilklmbkaaDoor
theorem headRow_holds : Rows.HeadRowCardSaid := headRowAt.card
end Go.Proofs.YtmicpfilklmbkaaDoor
