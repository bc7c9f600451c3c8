/-
  The statement AllocNil of layer 11, for every input: the card, tied to the program's text.
  Conditions: the table of fields and the two fields of a head start as the program's text lays them (the card's own tie); it speaks of the pruned copy that the seat was turned of.
-/
import Derived.Test.YtfomephgallpmaaDoorAllocNilLaw
import Derived.Test.YtfomephgallpmaaDoorLaid3
import Derived.Test.YtfomephgallpmaaDoorCards
import Derived.SevenTiedAt
namespace Go.Proofs.YtfomephgallpmaaDoor.allocNilAt
open Go Go.ChangeShapes Go.WideShapes Go.ChangeAt Go.RowKit

theorem readable : (Tryd.f5.params.toList.all fun t => Tryd.checked.prog.readableRec t && decide (t < Tryd.checked.prog.types.size)) = true := by kernel_rfl

set_option maxRecDepth 100000 in
theorem walk (W : World) (base : Nat) (args : Array Value) (hF : HasBoth W) (hlen : args.toList.length = Tryd.f5.params.toList.length)
    (hval0 : ∀ (j : Nat) t v, Tryd.f5.params[j]? = some t → args[j]? = some v → Value.okWide Tryd.prog W .any base t v) : Calls Tryd.prog 5 args W (Ret W (.bool true)) := by
  have hval : ∀ (j : Nat) t v, (#[23, 3] : Array TypeId)[j]? = some t → args[j]? = some v → Value.okWide Tryd.prog W .any base t v := by
    rw [← Tryd.params5]
    exact hval0
  rw [Tryd.params5] at hlen
  clear hval0
  obtain ⟨v0, v1, rfl⟩ := args_two hlen
  obtain ⟨cs, rfl, hl, hc⟩ := okcells (ts := [3, 3, 3]) Tryd.underlying23 (by kernel_rfl) (by kernel_rfl) (hval 0 23 v0 rfl rfl)
  match cs, hl with
  | [c0, c1, c2], _ =>
  obtain ⟨a, rfl, wa⟩ := okcell_int Tryd.underlying3 (hc 0 3 c0 rfl rfl)
  obtain ⟨s, rfl, ws⟩ := okcell_int Tryd.underlying3 (hc 1 3 c1 rfl rfl)
  obtain ⟨t, rfl, wt⟩ := okcell_int Tryd.underlying3 (hc 2 3 c2 rfl rfl)
  obtain ⟨n, rfl, wn⟩ := okcell_int Tryd.underlying3 (show Cell.okWide Tryd.prog W .any base 3 v1 from by have h := hval 1 3 v1 rfl rfl; unfold Value.okWide at h; rw [Tryd.underlying3] at h; exact h)
  exact AllocNil_walk hF.hH hF.hE

set_option maxRecDepth 100000 in
theorem lifted (os : Os) (started : os.Started) (H : Type) (enc : TypeId × Value → H) :
    ReturnsInHanded {} Tryd.checked os 5 .any (fun w args => (Rows.allocNilSpec.pre enc Tryd.prog Tryd.f5 [] false w args ∧ laidMetH Tryd.prog laidL w) ∧ sizedMet enc Tryd.prog Tryd.f5 (OpenSpec.ofChange Rows.allocNilSpec) false w args)
      (Rows.allocNilSpec.post enc Tryd.prog Tryd.f5 false true false false) :=
  law_lifted_laid #[.agg #[.int .i64 0, .int .i64 0, .int .i64 0], .int .i64 0] started (by kernel_rfl) Tryd.func5 (World.shaped_of_RefB (by kernel_rfl) (by kernel_rfl)) (by kernel_rfl) (by kernel_rfl) (by kernel_rfl)
    rfl readable (by kernel_rfl) Tryd.underlying4 (fun ds h => by match ds, h with | [d1, d2], _ => rfl) walk

theorem over : Rows.AllocNilSaid :=
  OpenClaim.holds_of_wide 5 Tryd.f5 rfl rfl rfl rfl rfl rfl rfl ⟨rfl, rfl, rfl, rfl, rfl⟩ rfl rfl rfl rfl rfl (by kernel_rfl) Tryd.func5 (by kernel_rfl)
    (of_decide_eq_true (by kernel_rfl)) (by unfold Func.isWrapper; first | (rw [if_pos (by decide +kernel)]; kernel_rfl) | (rw [if_neg (by decide +kernel)]; exact ⟨rfl, rfl⟩))
    (fun os started H enc _ => lifted os started H enc)

theorem card : Claim7.holds Tryd.pinned (.plain (OpenSpec.ofChange Rows.allocNilSpec)) Rows.allocNilCard :=
  Claim7.holds_tied_plain_at .later [] [.data, .data, .data] true (true, "503a3fcb6b0b4a361409c5c46aea0dc0f2da2f7ed2ae550eca4597f49b55f82b") false
    over (fun _ h => by cases h) (by kernel_rfl) (fun _ h => by cases h) allocNil_row_tie rfl ⟨rfl, rfl⟩ (by kernel_rfl) rfl
    (fun f fn hf hfn => by
      obtain rfl : f = 5 := Option.some.inj ((show Tryd.prog.funcNamed "sidings/sidingslaw11.AllocNil" = some 5 by kernel_rfl).symm.trans hf) |>.symm
      obtain rfl : fn = Tryd.f5 := (Option.some.inj (Tryd.func5.symm.trans hfn)).symm
      exact ⟨by kernel_rfl, fun j t ht => by
        rw [Tryd.params5] at ht
        have hm : t ∈ [23, 3] := by simpa using Array.mem_of_getElem? ht
        have hall : ([23, 3].all fun u => !Tryd.prog.wantsStandIn u) = true := by kernel_rfl
        exact (show Tryd.prog.wantsStandIn t = false by simpa using List.all_eq_true.1 hall t hm)⟩)
    (by kernel_rfl)
end Go.Proofs.YtfomephgallpmaaDoor.allocNilAt

namespace Go.Proofs.YtfomephgallpmaaDoor
theorem allocNil_holds : Rows.AllocNilCardSaid := allocNilAt.card
end Go.Proofs.YtfomephgallpmaaDoor
