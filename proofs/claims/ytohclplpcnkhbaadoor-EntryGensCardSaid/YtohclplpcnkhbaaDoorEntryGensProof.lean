/-
  The statement EntryGens of layer 2, for every input: the card, tied to the program's text.
  Conditions: the package's table of fields starts as the program's text lays it (the card's own tie); it speaks of the pruned copy that the seat was turned of.
-/
import Derived.Test.YtohclplpcnkhbaaDoorEntryGensLaw
import Derived.Test.YtohclplpcnkhbaaDoorEntryRow
import Derived.Test.YtohclplpcnkhbaaDoorCards
import Derived.SevenTiedAt
namespace Go.Proofs.YtohclplpcnkhbaaDoor.entryGensAt
open Go Go.ChangeShapes Go.WideShapes Go.ChangeAt Go.RowKit

theorem readable : (Tryd.f6.params.toList.all fun t => Tryd.checked.prog.readableRec t && decide (t < Tryd.checked.prog.types.size)) = true := by kernel_rfl

theorem walk (W : World) (base : Nat) (args : Array Value) (hF : HasFields W) (hlen : args.toList.length = Tryd.f6.params.toList.length)
    (hval0 : ∀ (j : Nat) t v, Tryd.f6.params[j]? = some t → args[j]? = some v → Value.okWide Tryd.prog W .any base t v) : Calls Tryd.prog 6 args W (Ret W (.bool true)) := by
  have hval : ∀ (j : Nat) t v, (#[23, 3] : Array TypeId)[j]? = some t → args[j]? = some v → Value.okWide Tryd.prog W .any base t v := by
    rw [← Tryd.params6]
    exact hval0
  rw [Tryd.params6] at hlen
  clear hval0
  obtain ⟨v0, v1, rfl⟩ := args_two hlen
  obtain ⟨cs, rfl, hl, hc⟩ := okcells (ts := [3, 3, 3, 3, 4, 4]) Tryd.underlying23 (by kernel_rfl) (by kernel_rfl) (hval 0 23 v0 rfl rfl)
  match cs, hl with
  | [c0, c1, c2, c3, c4, c5], _ =>
  obtain ⟨o, rfl, wo⟩ := okcell_int Tryd.underlying3 (hc 0 3 c0 rfl rfl)
  obtain ⟨g, rfl, wg⟩ := okcell_int Tryd.underlying3 (hc 1 3 c1 rfl rfl)
  obtain ⟨p, rfl, wp⟩ := okcell_int Tryd.underlying3 (hc 2 3 c2 rfl rfl)
  obtain ⟨q, rfl, wq⟩ := okcell_int Tryd.underlying3 (hc 3 3 c3 rfl rfl)
  obtain ⟨lk, rfl⟩ := okcell_bool Tryd.underlying4 (hc 4 4 c4 rfl rfl)
  obtain ⟨lv, rfl⟩ := okcell_bool Tryd.underlying4 (hc 5 4 c5 rfl rfl)
  obtain ⟨n, rfl⟩ := okWide_int Tryd.underlying3 (hval 1 3 v1 rfl rfl)
  exact EntryGens_walk o g p q lk lv n W hF

set_option maxRecDepth 100000 in
theorem lifted (os : Os) (started : os.Started) (H : Type) (enc : TypeId × Value → H) :
    ReturnsInHanded {} Tryd.checked os 6 .any (fun w args => (Rows.entryGensSpec.pre enc Tryd.prog Tryd.f6 [] false w args ∧ laidMetH Tryd.prog laidL w) ∧ sizedMet enc Tryd.prog Tryd.f6 (OpenSpec.ofChange Rows.entryGensSpec) false w args)
      (Rows.entryGensSpec.post enc Tryd.prog Tryd.f6 false true false false) :=
  law_lifted_laid #[.agg #[.int .i64 0, .int .i64 0, .int .i64 0, .int .i64 0, .bool false, .bool false], .int .i64 0] started (by kernel_rfl) Tryd.func6 (World.shaped_of_RefB (by kernel_rfl) (by kernel_rfl)) (by kernel_rfl) (by kernel_rfl) (by kernel_rfl)
    rfl readable (by kernel_rfl) Tryd.underlying4 (fun ds h => by match ds, h with | [d1, d2], _ => rfl) walk

theorem over : Rows.EntryGensSaid :=
  OpenClaim.holds_of_wide 6 Tryd.f6 rfl rfl rfl rfl rfl rfl rfl ⟨rfl, rfl, rfl, rfl, rfl⟩ rfl rfl rfl rfl rfl (by kernel_rfl) Tryd.func6 (by kernel_rfl)
    (of_decide_eq_true (by kernel_rfl)) (by unfold Func.isWrapper; first | (rw [if_pos (by decide +kernel)]; kernel_rfl) | (rw [if_neg (by decide +kernel)]; exact ⟨rfl, rfl⟩))
    (fun os started H enc _ => lifted os started H enc)

theorem card : Claim7.holds Tryd.pinned (.plain (OpenSpec.ofChange Rows.entryGensSpec)) Rows.entryGensCard :=
  Claim7.holds_tied_plain_at .later [] [.data] true (true, "6ca00f5b6323eaf529720418e222dcce35ad220fdd299f1e5e4e99fbca303be7") false
    over (fun _ h => by cases h) (by kernel_rfl) (fun _ h => by cases h) entryGens_row_tie rfl ⟨rfl, rfl⟩ (by kernel_rfl) rfl
    (fun f fn hf hfn => by
      obtain rfl : f = 6 := Option.some.inj ((show Tryd.prog.funcNamed "sidings/sidingslaw02.EntryGens" = some 6 by kernel_rfl).symm.trans hf) |>.symm
      obtain rfl : fn = Tryd.f6 := (Option.some.inj (Tryd.func6.symm.trans hfn)).symm
      exact ⟨by kernel_rfl, fun j t ht => by
        rw [Tryd.params6] at ht
        have hm : t ∈ [23, 3] := by simpa using Array.mem_of_getElem? ht
        have hall : ([23, 3].all fun u => !Tryd.prog.wantsStandIn u) = true := by kernel_rfl
        exact (show Tryd.prog.wantsStandIn t = false by simpa using List.all_eq_true.1 hall t hm)⟩)
    (by kernel_rfl)
end Go.Proofs.YtohclplpcnkhbaaDoor.entryGensAt

namespace Go.Proofs.YtohclplpcnkhbaaDoor
theorem entryGens_holds : Rows.EntryGensCardSaid := entryGensAt.card
end Go.Proofs.YtohclplpcnkhbaaDoor
