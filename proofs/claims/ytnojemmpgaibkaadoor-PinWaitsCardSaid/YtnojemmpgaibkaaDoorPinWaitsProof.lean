/-
  The statement PinWaits of layer 14, for every input: the card, tied to the program's text.
  Conditions: the table of fields and the two fields of a head start as the program's text lays them (the card's own tie); it speaks of the pruned copy that the seat was turned of.
-/
import Derived.Test.YtnojemmpgaibkaaDoorPinWaitsLaw
import Derived.Test.YtnojemmpgaibkaaDoorLaid3
import Derived.Test.YtnojemmpgaibkaaDoorCards
import Derived.SevenTiedAt
namespace Go.Proofs.YtnojemmpgaibkaaDoor.pinWaitsAt
open Go Go.ChangeShapes Go.WideShapes Go.ChangeAt Go.RowKit

theorem readable : (Tryd.f10.params.toList.all fun t => Tryd.checked.prog.readableRec t && decide (t < Tryd.checked.prog.types.size)) = true := by kernel_rfl

set_option maxRecDepth 100000 in
theorem walk (W : World) (base : Nat) (args : Array Value) (hF : HasBoth W) (hlen : args.toList.length = Tryd.f10.params.toList.length)
    (hval0 : ∀ (j : Nat) t v, Tryd.f10.params[j]? = some t → args[j]? = some v → Value.okWide Tryd.prog W .any base t v) : Calls Tryd.prog 10 args W (Ret W (.bool true)) := by
  have hval : ∀ (j : Nat) t v, (#[3] : Array TypeId)[j]? = some t → args[j]? = some v → Value.okWide Tryd.prog W .any base t v := by
    rw [← Tryd.params10]
    exact hval0
  rw [Tryd.params10] at hlen
  clear hval0
  obtain ⟨v0, rfl⟩ := args_one hlen
  obtain ⟨n, rfl, wn⟩ := okcell_int Tryd.underlying3 (show Cell.okWide Tryd.prog W .any base 3 v0 from by have h := hval 0 3 v0 rfl rfl; unfold Value.okWide at h; rw [Tryd.underlying3] at h; exact h)
  exact PinWaits_walk hF.hH hF.hE

set_option maxRecDepth 100000 in
theorem lifted (os : Os) (started : os.Started) (H : Type) (enc : TypeId × Value → H) :
    ReturnsInHanded {} Tryd.checked os 10 .any (fun w args => (Rows.pinWaitsSpec.pre enc Tryd.prog Tryd.f10 [] false w args ∧ laidMetH Tryd.prog laidL w) ∧ sizedMet enc Tryd.prog Tryd.f10 (OpenSpec.ofChange Rows.pinWaitsSpec) false w args)
      (Rows.pinWaitsSpec.post enc Tryd.prog Tryd.f10 false true false false) :=
  law_lifted_laid #[.int .i64 0] started (by kernel_rfl) Tryd.func10 (World.shaped_of_RefB (by kernel_rfl) (by kernel_rfl)) (by kernel_rfl) (by kernel_rfl) (by kernel_rfl)
    rfl readable (by kernel_rfl) Tryd.underlying4 (fun ds h => by match ds, h with | [d], _ => rfl) walk

theorem over : Rows.PinWaitsSaid :=
  OpenClaim.holds_of_wide 10 Tryd.f10 rfl rfl rfl rfl rfl rfl rfl ⟨rfl, rfl, rfl, rfl, rfl⟩ rfl rfl rfl rfl rfl (by kernel_rfl) Tryd.func10 (by kernel_rfl)
    (of_decide_eq_true (by kernel_rfl)) (by unfold Func.isWrapper; first | (rw [if_pos (by decide +kernel)]; kernel_rfl) | (rw [if_neg (by decide +kernel)]; exact ⟨rfl, rfl⟩))
    (fun os started H enc _ => lifted os started H enc)

theorem card : Claim7.holds Tryd.pinned (.plain (OpenSpec.ofChange Rows.pinWaitsSpec)) Rows.pinWaitsCard :=
  Claim7.holds_tied_plain_at .later [] [.data, .data, .data] true (true, "d465364d3e365dcb5cd13495971a0114f7d7d30ade15da5c648e98c527d74122") false
    over (fun _ h => by cases h) (by kernel_rfl) (fun _ h => by cases h) pinWaits_row_tie rfl ⟨rfl, rfl⟩ (by kernel_rfl) rfl
    (fun f fn hf hfn => by
      obtain rfl : f = 10 := Option.some.inj ((show Tryd.prog.funcNamed "sidings/sidingslaw14.PinWaits" = some 10 by kernel_rfl).symm.trans hf) |>.symm
      obtain rfl : fn = Tryd.f10 := (Option.some.inj (Tryd.func10.symm.trans hfn)).symm
      exact ⟨by kernel_rfl, fun j t ht => by
        rw [Tryd.params10] at ht
        have hm : t ∈ [3] := by simpa using Array.mem_of_getElem? ht
        have hall : ([3].all fun u => !Tryd.prog.wantsStandIn u) = true := by kernel_rfl
        exact (show Tryd.prog.wantsStandIn t = false by simpa using List.all_eq_true.1 hall t hm)⟩)
    (by kernel_rfl)
end Go.Proofs.YtnojemmpgaibkaaDoor.pinWaitsAt

namespace Go.Proofs.YtnojemmpgaibkaaDoor
theorem pinWaits_holds : Rows.PinWaitsCardSaid := pinWaitsAt.card
end Go.Proofs.YtnojemmpgaibkaaDoor
