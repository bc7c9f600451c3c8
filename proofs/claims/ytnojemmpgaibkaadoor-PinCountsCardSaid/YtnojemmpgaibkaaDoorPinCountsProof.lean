/-
  The statement PinCounts of layer 14, for every input: the card, tied to the program's text.
  Conditions: the table of fields and the two fields of a head start as the program's text lays them (the card's own tie); it speaks of the pruned copy that the seat was turned of.
-/
import Derived.Test.YtnojemmpgaibkaaDoorPinCountsLaw
import Derived.Test.YtnojemmpgaibkaaDoorLaid3
import Derived.Test.YtnojemmpgaibkaaDoorCards
import Derived.SevenTiedAt
namespace Go.Proofs.YtnojemmpgaibkaaDoor.pinCountsAt
open Go Go.ChangeShapes Go.WideShapes Go.ChangeAt Go.RowKit

theorem readable : (Tryd.f9.params.toList.all fun t => Tryd.checked.prog.readableRec t && decide (t < Tryd.checked.prog.types.size)) = true := by kernel_rfl

set_option maxRecDepth 100000 in
theorem walk {H : Type} {enc : TypeId × Value → H} (W : World) (base : Nat) (args : Array Value) (ds : List (DataW H)) (ps : List MemPlace) (hF : HasBoth W) (hlen : args.toList.length = Tryd.f9.params.toList.length)
    (hval0 : ∀ (j : Nat) t v, Tryd.f9.params[j]? = some t → args[j]? = some v → Value.okWide Tryd.prog W .any base t v)
    (hA : DataW.TrodAll enc Tryd.prog W 0 (fun _ => true) true Tryd.f9.params.toList args.toList ds ps) (hlt : ∀ x ∈ ps, x.block < W.heap.size) : Calls Tryd.prog 9 args W (Ret W (.bool true)) := by
  have hval : ∀ (j : Nat) t v, (#[55] : Array TypeId)[j]? = some t → args[j]? = some v → Value.okWide Tryd.prog W .any base t v := by
    rw [← Tryd.params9]
    exact hval0
  rw [Tryd.params9] at hlen hA
  clear hval0
  obtain ⟨v0, rfl⟩ := args_one hlen
  have _hlt := hlt
  obtain ⟨u0, d0, e0, rfl, h0⟩ := trodAll_one hA
  have e0' : u0 = v0 := by simpa using e0.symm
  subst e0'
  obtain ⟨fu0, hf0⟩ := h0
  obtain ⟨a1, len1, cap1, rfl⟩ := okWide_slice Tryd.underlying55 (hval 0 55 u0 rfl rfl)
  obtain ⟨p, cap, l, e1, hm0, hlc0, hcm0, hE0⟩ := pks_of_trod (by simpa [Value.cells] using hf0)
  rw [e1]
  exact PinCounts_walk hE0 hF.hH hF.hE

set_option maxRecDepth 100000 in
theorem lifted (os : Os) (started : os.Started) (H : Type) (enc : TypeId × Value → H) :
    ReturnsInHanded {} Tryd.checked os 9 .any (fun w args => (Rows.pinCountsSpec.pre enc Tryd.prog Tryd.f9 [] false w args ∧ laidMetH Tryd.prog laidL w) ∧ sizedMet enc Tryd.prog Tryd.f9 (OpenSpec.ofChange Rows.pinCountsSpec) false w args)
      (Rows.pinCountsSpec.post enc Tryd.prog Tryd.f9 false true false false) :=
  law_lifted_laid_read #[.slice none 0 0] started (by kernel_rfl) Tryd.func9 (World.shaped_of_RefB (by kernel_rfl) (by kernel_rfl)) (by kernel_rfl) (by kernel_rfl) (by kernel_rfl)
    rfl readable (by kernel_rfl) Tryd.underlying4 (fun ds h => by match ds, h with | [d], _ => rfl) walk

theorem over : Rows.PinCountsSaid :=
  OpenClaim.holds_of_wide 9 Tryd.f9 rfl rfl rfl rfl rfl rfl rfl ⟨rfl, rfl, rfl, rfl, rfl⟩ rfl rfl rfl rfl rfl (by kernel_rfl) Tryd.func9 (by kernel_rfl)
    (of_decide_eq_true (by kernel_rfl)) (by unfold Func.isWrapper; first | (rw [if_pos (by decide +kernel)]; kernel_rfl) | (rw [if_neg (by decide +kernel)]; exact ⟨rfl, rfl⟩))
    (fun os started H enc _ => lifted os started H enc)

theorem card : Claim7.holds Tryd.pinned (.plain (OpenSpec.ofChange Rows.pinCountsSpec)) Rows.pinCountsCard :=
  Claim7.holds_tied_plain_at .later [] [.data, .data, .data] true (true, "d465364d3e365dcb5cd13495971a0114f7d7d30ade15da5c648e98c527d74122") false
    over (fun _ h => by cases h) (by kernel_rfl) (fun _ h => by cases h) pinCounts_row_tie rfl ⟨rfl, rfl⟩ (by kernel_rfl) rfl
    (fun f fn hf hfn => by
      obtain rfl : f = 9 := Option.some.inj ((show Tryd.prog.funcNamed "sidings/sidingslaw14.PinCounts" = some 9 by kernel_rfl).symm.trans hf) |>.symm
      obtain rfl : fn = Tryd.f9 := (Option.some.inj (Tryd.func9.symm.trans hfn)).symm
      exact ⟨by kernel_rfl, fun j t ht => by
        rw [Tryd.params9] at ht
        have hm : t ∈ [55] := by simpa using Array.mem_of_getElem? ht
        have hall : ([55].all fun u => !Tryd.prog.wantsStandIn u) = true := by kernel_rfl
        exact (show Tryd.prog.wantsStandIn t = false by simpa using List.all_eq_true.1 hall t hm)⟩)
    (by kernel_rfl)
end Go.Proofs.YtnojemmpgaibkaaDoor.pinCountsAt

namespace Go.Proofs.YtnojemmpgaibkaaDoor
theorem pinCounts_holds : Rows.PinCountsCardSaid := pinCountsAt.card
end Go.Proofs.YtnojemmpgaibkaaDoor
