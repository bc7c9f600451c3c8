/-
  The statement PinAlone of layer 14, for every input: the card, tied to the program's text.
  Conditions: the table of fields and the two fields of a head start as the program's text lays them (the card's own tie); it speaks of the pruned copy that the seat was turned of.
-/
import Derived.Test.YtnojemmpgaibkaaDoorPinAloneLaw
import Derived.Test.YtnojemmpgaibkaaDoorLaid3
import Derived.Test.YtnojemmpgaibkaaDoorCards
import Derived.SevenTiedAt
namespace Go.Proofs.YtnojemmpgaibkaaDoor.pinAloneAt
open Go Go.ChangeShapes Go.WideShapes Go.ChangeAt Go.RowKit

theorem readable : (Tryd.f8.params.toList.all fun t => Tryd.checked.prog.readableRec t && decide (t < Tryd.checked.prog.types.size)) = true := by kernel_rfl

set_option maxRecDepth 100000 in
theorem walk (W : World) (base : Nat) (args : Array Value) (hF : HasBoth W) (hlen : args.toList.length = Tryd.f8.params.toList.length)
    (hval0 : ∀ (j : Nat) t v, Tryd.f8.params[j]? = some t → args[j]? = some v → Value.okWide Tryd.prog W .any base t v) : Calls Tryd.prog 8 args W (Ret W (.bool true)) := by
  have hval : ∀ (j : Nat) t v, (#[34, 3, 4] : Array TypeId)[j]? = some t → args[j]? = some v → Value.okWide Tryd.prog W .any base t v := by
    rw [← Tryd.params8]
    exact hval0
  rw [Tryd.params8] at hlen
  clear hval0
  obtain ⟨v0, v1, v2, rfl⟩ := args_three hlen
  obtain ⟨cs, rfl, hl, hc⟩ := okcells (ts := [3, 3, 3, 3, 4, 4]) Tryd.underlying34 (by kernel_rfl) (by kernel_rfl) (hval 0 34 v0 rfl rfl)
  match cs, hl with
  | [c0, c1, c2, c3, c4, c5], _ =>
  obtain ⟨o, rfl, wo⟩ := okcell_int Tryd.underlying3 (hc 0 3 c0 rfl rfl)
  obtain ⟨g, rfl, wg⟩ := okcell_int Tryd.underlying3 (hc 1 3 c1 rfl rfl)
  obtain ⟨p, rfl, wp⟩ := okcell_int Tryd.underlying3 (hc 2 3 c2 rfl rfl)
  obtain ⟨q, rfl, wq⟩ := okcell_int Tryd.underlying3 (hc 3 3 c3 rfl rfl)
  obtain ⟨lk, rfl⟩ := okcell_bool Tryd.underlying4 (hc 4 4 c4 rfl rfl)
  obtain ⟨lv, rfl⟩ := okcell_bool Tryd.underlying4 (hc 5 4 c5 rfl rfl)
  obtain ⟨h, rfl, wh⟩ := okcell_int Tryd.underlying3 (show Cell.okWide Tryd.prog W .any base 3 v1 from by have h := hval 1 3 v1 rfl rfl; unfold Value.okWide at h; rw [Tryd.underlying3] at h; exact h)
  obtain ⟨un, rfl⟩ := okcell_bool Tryd.underlying4 (show Cell.okWide Tryd.prog W .any base 4 v2 from by have h := hval 2 4 v2 rfl rfl; unfold Value.okWide at h; rw [Tryd.underlying4] at h; exact h)
  exact PinAlone_walk hF.hH hF.hE

set_option maxRecDepth 100000 in
theorem lifted (os : Os) (started : os.Started) (H : Type) (enc : TypeId × Value → H) :
    ReturnsInHanded {} Tryd.checked os 8 .any (fun w args => (Rows.pinAloneSpec.pre enc Tryd.prog Tryd.f8 [] false w args ∧ laidMetH Tryd.prog laidL w) ∧ sizedMet enc Tryd.prog Tryd.f8 (OpenSpec.ofChange Rows.pinAloneSpec) false w args)
      (Rows.pinAloneSpec.post enc Tryd.prog Tryd.f8 false true false false) :=
  law_lifted_laid #[.agg #[.int .i64 0, .int .i64 0, .int .i64 0, .int .i64 0, .bool false, .bool false], .int .i64 0, .bool false] started (by kernel_rfl) Tryd.func8 (World.shaped_of_RefB (by kernel_rfl) (by kernel_rfl)) (by kernel_rfl) (by kernel_rfl) (by kernel_rfl)
    rfl readable (by kernel_rfl) Tryd.underlying4 (fun ds h => by match ds, h with | [d1, d2, d3], _ => rfl) walk

theorem over : Rows.PinAloneSaid :=
  OpenClaim.holds_of_wide 8 Tryd.f8 rfl rfl rfl rfl rfl rfl rfl ⟨rfl, rfl, rfl, rfl, rfl⟩ rfl rfl rfl rfl rfl (by kernel_rfl) Tryd.func8 (by kernel_rfl)
    (of_decide_eq_true (by kernel_rfl)) (by unfold Func.isWrapper; first | (rw [if_pos (by decide +kernel)]; kernel_rfl) | (rw [if_neg (by decide +kernel)]; exact ⟨rfl, rfl⟩))
    (fun os started H enc _ => lifted os started H enc)

theorem card : Claim7.holds Tryd.pinned (.plain (OpenSpec.ofChange Rows.pinAloneSpec)) Rows.pinAloneCard :=
  Claim7.holds_tied_plain_at .later [] [.data, .data, .data] true (true, "d465364d3e365dcb5cd13495971a0114f7d7d30ade15da5c648e98c527d74122") false
    over (fun _ h => by cases h) (by kernel_rfl) (fun _ h => by cases h) pinAlone_row_tie rfl ⟨rfl, rfl⟩ (by kernel_rfl) rfl
    (fun f fn hf hfn => by
      obtain rfl : f = 8 := Option.some.inj ((show Tryd.prog.funcNamed "sidings/sidingslaw14.PinAlone" = some 8 by kernel_rfl).symm.trans hf) |>.symm
      obtain rfl : fn = Tryd.f8 := (Option.some.inj (Tryd.func8.symm.trans hfn)).symm
      exact ⟨by kernel_rfl, fun j t ht => by
        rw [Tryd.params8] at ht
        have hm : t ∈ [34, 3, 4] := by simpa using Array.mem_of_getElem? ht
        have hall : ([34, 3, 4].all fun u => !Tryd.prog.wantsStandIn u) = true := by kernel_rfl
        exact (show Tryd.prog.wantsStandIn t = false by simpa using List.all_eq_true.1 hall t hm)⟩)
    (by kernel_rfl)
end Go.Proofs.YtnojemmpgaibkaaDoor.pinAloneAt

namespace Go.Proofs.YtnojemmpgaibkaaDoor
theorem pinAlone_holds : Rows.PinAloneCardSaid := pinAloneAt.card
end Go.Proofs.YtnojemmpgaibkaaDoor
