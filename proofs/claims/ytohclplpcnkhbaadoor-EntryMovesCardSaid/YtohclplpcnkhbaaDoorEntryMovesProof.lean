/-
  The statement EntryMoves of layer 2, for every input: the card, tied to the program's text.
  Conditions: the package's table of fields starts as the program's text lays it (the card's own tie); it speaks of the pruned copy that the seat was turned of.
-/
import Derived.Test.YtohclplpcnkhbaaDoorEntryMovesLaw
import Derived.Test.YtohclplpcnkhbaaDoorEntryRow
import Derived.Test.YtohclplpcnkhbaaDoorCards
import Derived.SevenTiedAt
namespace Go.Proofs.YtohclplpcnkhbaaDoor.entryMovesAt
open Go Go.ChangeShapes Go.WideShapes Go.ChangeAt Go.RowKit

theorem readable : (Tryd.f7.params.toList.all fun t => Tryd.checked.prog.readableRec t && decide (t < Tryd.checked.prog.types.size)) = true := by kernel_rfl

theorem walk (W : World) (base : Nat) (args : Array Value) (hF : HasFields W) (hlen : args.toList.length = Tryd.f7.params.toList.length)
    (hval0 : ∀ (j : Nat) t v, Tryd.f7.params[j]? = some t → args[j]? = some v → Value.okWide Tryd.prog W .any base t v) : Calls Tryd.prog 7 args W (Ret W (.bool true)) := by
  have hval : ∀ (j : Nat) t v, (#[3, 3] : Array TypeId)[j]? = some t → args[j]? = some v → Value.okWide Tryd.prog W .any base t v := by
    rw [← Tryd.params7]
    exact hval0
  rw [Tryd.params7] at hlen
  clear hval0
  obtain ⟨v0, v1, rfl⟩ := args_two hlen
  obtain ⟨x, rfl⟩ := okWide_int Tryd.underlying3 (hval 0 3 v0 rfl rfl)
  obtain ⟨n, rfl⟩ := okWide_int Tryd.underlying3 (hval 1 3 v1 rfl rfl)
  exact EntryMoves_walk x n W hF

set_option maxRecDepth 100000 in
theorem lifted (os : Os) (started : os.Started) (H : Type) (enc : TypeId × Value → H) :
    ReturnsInHanded {} Tryd.checked os 7 .any (fun w args => (Rows.entryMovesSpec.pre enc Tryd.prog Tryd.f7 [] false w args ∧ laidMetH Tryd.prog laidL w) ∧ sizedMet enc Tryd.prog Tryd.f7 (OpenSpec.ofChange Rows.entryMovesSpec) false w args)
      (Rows.entryMovesSpec.post enc Tryd.prog Tryd.f7 false true false false) :=
  law_lifted_laid #[.int .i64 0, .int .i64 0] started (by kernel_rfl) Tryd.func7 (World.shaped_of_RefB (by kernel_rfl) (by kernel_rfl)) (by kernel_rfl) (by kernel_rfl) (by kernel_rfl)
    rfl readable (by kernel_rfl) Tryd.underlying4 (fun ds h => by match ds, h with | [d1, d2], _ => rfl) walk

theorem over : Rows.EntryMovesSaid :=
  OpenClaim.holds_of_wide 7 Tryd.f7 rfl rfl rfl rfl rfl rfl rfl ⟨rfl, rfl, rfl, rfl, rfl⟩ rfl rfl rfl rfl rfl (by kernel_rfl) Tryd.func7 (by kernel_rfl)
    (of_decide_eq_true (by kernel_rfl)) (by unfold Func.isWrapper; first | (rw [if_pos (by decide +kernel)]; kernel_rfl) | (rw [if_neg (by decide +kernel)]; exact ⟨rfl, rfl⟩))
    (fun os started H enc _ => lifted os started H enc)

theorem card : Claim7.holds Tryd.pinned (.plain (OpenSpec.ofChange Rows.entryMovesSpec)) Rows.entryMovesCard :=
  Claim7.holds_tied_plain_at .later [] [.data] true (true, "6ca00f5b6323eaf529720418e222dcce35ad220fdd299f1e5e4e99fbca303be7") false
    over (fun _ h => by cases h) (by kernel_rfl) (fun _ h => by cases h) entryMoves_row_tie rfl ⟨rfl, rfl⟩ (by kernel_rfl) rfl
    (fun f fn hf hfn => by
      obtain rfl : f = 7 := Option.some.inj ((show Tryd.prog.funcNamed "sidings/sidingslaw02.EntryMoves" = some 7 by kernel_rfl).symm.trans hf) |>.symm
      obtain rfl : fn = Tryd.f7 := (Option.some.inj (Tryd.func7.symm.trans hfn)).symm
      exact ⟨by kernel_rfl, fun j t ht => by
        rw [Tryd.params7] at ht
        have hm : t ∈ [3, 3] := by simpa using Array.mem_of_getElem? ht
        have hall : ([3, 3].all fun u => !Tryd.prog.wantsStandIn u) = true := by kernel_rfl
        exact (show Tryd.prog.wantsStandIn t = false by simpa using List.all_eq_true.1 hall t hm)⟩)
    (by kernel_rfl)
end Go.Proofs.YtohclplpcnkhbaaDoor.entryMovesAt

namespace Go.Proofs.YtohclplpcnkhbaaDoor
theorem entryMoves_holds : Rows.EntryMovesCardSaid := entryMovesAt.card
end Go.Proofs.YtohclplpcnkhbaaDoor
