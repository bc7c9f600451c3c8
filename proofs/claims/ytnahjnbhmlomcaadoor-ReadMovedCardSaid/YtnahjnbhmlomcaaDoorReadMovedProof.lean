/-
  The statement ReadMoved of layer 12, for every input: the card, tied to the program's text.
  Conditions: the table of fields and the two fields of a head start as the program's text lays them (the card's own tie); it speaks of the pruned copy that the seat was turned of.
-/
import Derived.Test.YtnahjnbhmlomcaaDoorReadMovedLaw
import Derived.Test.YtnahjnbhmlomcaaDoorLaid3
import Derived.Test.YtnahjnbhmlomcaaDoorCards
import Derived.SevenTiedAt
namespace Go.Proofs.YtnahjnbhmlomcaaDoor.readMovedAt
open Go Go.ChangeShapes Go.WideShapes Go.ChangeAt Go.RowKit

theorem readable : (Tryd.f3.params.toList.all fun t => Tryd.checked.prog.readableRec t && decide (t < Tryd.checked.prog.types.size)) = true := by kernel_rfl

set_option maxRecDepth 100000 in
theorem walk (W : World) (base : Nat) (args : Array Value) (hF : HasBoth W) (hlen : args.toList.length = Tryd.f3.params.toList.length)
    (hval0 : ∀ (j : Nat) t v, Tryd.f3.params[j]? = some t → args[j]? = some v → Value.okWide Tryd.prog W .any base t v) : Calls Tryd.prog 3 args W (Ret W (.bool true)) := by
  have hval : ∀ (j : Nat) t v, (#[24] : Array TypeId)[j]? = some t → args[j]? = some v → Value.okWide Tryd.prog W .any base t v := by
    rw [← Tryd.params3]
    exact hval0
  rw [Tryd.params3] at hlen
  clear hval0
  obtain ⟨v0, rfl⟩ := args_one hlen
  obtain ⟨cs, rfl, hl, hc⟩ := okcells (ts := [3, 3, 3, 3, 4]) Tryd.underlying24 (by kernel_rfl) (by kernel_rfl) (hval 0 24 v0 rfl rfl)
  match cs, hl with
  | [c0, c1, c2, c3, c4], _ =>
  obtain ⟨at', rfl, wat'⟩ := okcell_int Tryd.underlying3 (hc 0 3 c0 rfl rfl)
  obtain ⟨off, rfl, woff⟩ := okcell_int Tryd.underlying3 (hc 1 3 c1 rfl rfl)
  obtain ⟨b0, rfl, wb0⟩ := okcell_int Tryd.underlying3 (hc 2 3 c2 rfl rfl)
  obtain ⟨b1, rfl, wb1⟩ := okcell_int Tryd.underlying3 (hc 3 3 c3 rfl rfl)
  obtain ⟨gone, rfl⟩ := okcell_bool Tryd.underlying4 (hc 4 4 c4 rfl rfl)
  exact ReadMoved_walk at' off b0 b1 gone hF.hH hF.hE

set_option maxRecDepth 100000 in
theorem lifted (os : Os) (started : os.Started) (H : Type) (enc : TypeId × Value → H) :
    ReturnsInHanded {} Tryd.checked os 3 .any (fun w args => (Rows.readMovedSpec.pre enc Tryd.prog Tryd.f3 [] false w args ∧ laidMetH Tryd.prog laidL w) ∧ sizedMet enc Tryd.prog Tryd.f3 (OpenSpec.ofChange Rows.readMovedSpec) false w args)
      (Rows.readMovedSpec.post enc Tryd.prog Tryd.f3 false true false false) :=
  law_lifted_laid #[.agg #[.int .i64 0, .int .i64 0, .int .i64 0, .int .i64 0, .bool false]] started (by kernel_rfl) Tryd.func3 (World.shaped_of_RefB (by kernel_rfl) (by kernel_rfl)) (by kernel_rfl) (by kernel_rfl) (by kernel_rfl)
    rfl readable (by kernel_rfl) Tryd.underlying4 (fun ds h => by match ds, h with | [d], _ => rfl) walk

theorem over : Rows.ReadMovedSaid :=
  OpenClaim.holds_of_wide 3 Tryd.f3 rfl rfl rfl rfl rfl rfl rfl ⟨rfl, rfl, rfl, rfl, rfl⟩ rfl rfl rfl rfl rfl (by kernel_rfl) Tryd.func3 (by kernel_rfl)
    (of_decide_eq_true (by kernel_rfl)) (by unfold Func.isWrapper; first | (rw [if_pos (by decide +kernel)]; kernel_rfl) | (rw [if_neg (by decide +kernel)]; exact ⟨rfl, rfl⟩))
    (fun os started H enc _ => lifted os started H enc)

theorem card : Claim7.holds Tryd.pinned (.plain (OpenSpec.ofChange Rows.readMovedSpec)) Rows.readMovedCard :=
  Claim7.holds_tied_plain_at .later [] [.data, .data, .data] true (true, "40a3bb29c10741f48f8fef2c6063fc9133aa2a75eb8086ff0995ae52c6b8da6e") false
    over (fun _ h => by cases h) (by kernel_rfl) (fun _ h => by cases h) readMoved_row_tie rfl ⟨rfl, rfl⟩ (by kernel_rfl) rfl
    (fun f fn hf hfn => by
      obtain rfl : f = 3 := Option.some.inj ((show Tryd.prog.funcNamed "sidings/sidingslaw12.ReadMoved" = some 3 by kernel_rfl).symm.trans hf) |>.symm
      obtain rfl : fn = Tryd.f3 := (Option.some.inj (Tryd.func3.symm.trans hfn)).symm
      exact ⟨by kernel_rfl, fun j t ht => by
        rw [Tryd.params3] at ht
        have hm : t ∈ [24] := by simpa using Array.mem_of_getElem? ht
        have hall : ([24].all fun u => !Tryd.prog.wantsStandIn u) = true := by kernel_rfl
        exact (show Tryd.prog.wantsStandIn t = false by simpa using List.all_eq_true.1 hall t hm)⟩)
    (by kernel_rfl)
end Go.Proofs.YtnahjnbhmlomcaaDoor.readMovedAt

namespace Go.Proofs.YtnahjnbhmlomcaaDoor
theorem readMoved_holds : Rows.ReadMovedCardSaid := readMovedAt.card
end Go.Proofs.YtnahjnbhmlomcaaDoor
