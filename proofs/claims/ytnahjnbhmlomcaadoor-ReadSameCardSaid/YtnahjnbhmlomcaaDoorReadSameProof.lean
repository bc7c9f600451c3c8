/-
  The statement ReadSame of layer 12, for every input: the card, tied to the program's text.
  Conditions: the table of fields and the two fields of a head start as the program's text lays them (the card's own tie); it speaks of the pruned copy that the seat was turned of.
-/
import Derived.Test.YtnahjnbhmlomcaaDoorReadSameLaw
import Derived.Test.YtnahjnbhmlomcaaDoorOkArr
import Derived.Test.YtnahjnbhmlomcaaDoorLaid3
import Derived.Test.YtnahjnbhmlomcaaDoorCards
import Derived.SevenTiedAt
namespace Go.Proofs.YtnahjnbhmlomcaaDoor.readSameAt
open Go Go.ChangeShapes Go.WideShapes Go.ChangeAt Go.RowKit

theorem readable : (Tryd.f6.params.toList.all fun t => Tryd.checked.prog.readableRec t && decide (t < Tryd.checked.prog.types.size)) = true := by kernel_rfl

set_option maxRecDepth 100000 in
theorem walk (W : World) (base : Nat) (args : Array Value) (hF : HasBoth W) (hlen : args.toList.length = Tryd.f6.params.toList.length)
    (hval0 : ∀ (j : Nat) t v, Tryd.f6.params[j]? = some t → args[j]? = some v → Value.okWide Tryd.prog W .any base t v) : Calls Tryd.prog 6 args W (Ret W (.bool true)) := by
  have hval : ∀ (j : Nat) t v, (#[45, 3, 3] : Array TypeId)[j]? = some t → args[j]? = some v → Value.okWide Tryd.prog W .any base t v := by
    rw [← Tryd.params6]
    exact hval0
  rw [Tryd.params6] at hlen
  clear hval0
  obtain ⟨v0, v1, v2, rfl⟩ := args_three hlen
  obtain ⟨cs, rfl, hl, hc⟩ := okcellsA (ts := [3, 3, 3, 3, 3, 3, 3, 3, 3, 3, 3, 3, 3, 3, 3, 3]) Tryd.underlying45 (by kernel_rfl) (by kernel_rfl) (hval 0 45 v0 rfl rfl)
  match cs, hl with
  | [c0, c1, c2, c3, c4, c5, c6, c7, c8, c9, c10, c11, c12, c13, c14, c15], _ =>
  obtain ⟨e0, rfl, we0⟩ := okcell_int Tryd.underlying3 (hc 0 3 c0 rfl rfl)
  obtain ⟨e1, rfl, we1⟩ := okcell_int Tryd.underlying3 (hc 1 3 c1 rfl rfl)
  obtain ⟨e2, rfl, we2⟩ := okcell_int Tryd.underlying3 (hc 2 3 c2 rfl rfl)
  obtain ⟨e3, rfl, we3⟩ := okcell_int Tryd.underlying3 (hc 3 3 c3 rfl rfl)
  obtain ⟨e4, rfl, we4⟩ := okcell_int Tryd.underlying3 (hc 4 3 c4 rfl rfl)
  obtain ⟨e5, rfl, we5⟩ := okcell_int Tryd.underlying3 (hc 5 3 c5 rfl rfl)
  obtain ⟨e6, rfl, we6⟩ := okcell_int Tryd.underlying3 (hc 6 3 c6 rfl rfl)
  obtain ⟨e7, rfl, we7⟩ := okcell_int Tryd.underlying3 (hc 7 3 c7 rfl rfl)
  obtain ⟨e8, rfl, we8⟩ := okcell_int Tryd.underlying3 (hc 8 3 c8 rfl rfl)
  obtain ⟨e9, rfl, we9⟩ := okcell_int Tryd.underlying3 (hc 9 3 c9 rfl rfl)
  obtain ⟨e10, rfl, we10⟩ := okcell_int Tryd.underlying3 (hc 10 3 c10 rfl rfl)
  obtain ⟨e11, rfl, we11⟩ := okcell_int Tryd.underlying3 (hc 11 3 c11 rfl rfl)
  obtain ⟨e12, rfl, we12⟩ := okcell_int Tryd.underlying3 (hc 12 3 c12 rfl rfl)
  obtain ⟨e13, rfl, we13⟩ := okcell_int Tryd.underlying3 (hc 13 3 c13 rfl rfl)
  obtain ⟨e14, rfl, we14⟩ := okcell_int Tryd.underlying3 (hc 14 3 c14 rfl rfl)
  obtain ⟨e15, rfl, we15⟩ := okcell_int Tryd.underlying3 (hc 15 3 c15 rfl rfl)
  obtain ⟨off, rfl, woff⟩ := okcell_int Tryd.underlying3 (show Cell.okWide Tryd.prog W .any base 3 v1 from by have h := hval 1 3 v1 rfl rfl; unfold Value.okWide at h; rw [Tryd.underlying3] at h; exact h)
  obtain ⟨other, rfl, wother⟩ := okcell_int Tryd.underlying3 (show Cell.okWide Tryd.prog W .any base 3 v2 from by have h := hval 2 3 v2 rfl rfl; unfold Value.okWide at h; rw [Tryd.underlying3] at h; exact h)
  exact ReadSame_walk (fun i => [e0, e1, e2, e3, e4, e5, e6, e7, e8, e9, e10, e11, e12, e13, e14, e15].getD i 0) off other hF.hH hF.hE

set_option maxRecDepth 100000 in
theorem lifted (os : Os) (started : os.Started) (H : Type) (enc : TypeId × Value → H) :
    ReturnsInHanded {} Tryd.checked os 6 .any (fun w args => (Rows.readSameSpec.pre enc Tryd.prog Tryd.f6 [] false w args ∧ laidMetH Tryd.prog laidL w) ∧ sizedMet enc Tryd.prog Tryd.f6 (OpenSpec.ofChange Rows.readSameSpec) false w args)
      (Rows.readSameSpec.post enc Tryd.prog Tryd.f6 false true false false) :=
  law_lifted_laid #[.agg #[.int .i64 0, .int .i64 0, .int .i64 0, .int .i64 0, .int .i64 0, .int .i64 0, .int .i64 0, .int .i64 0, .int .i64 0, .int .i64 0, .int .i64 0, .int .i64 0, .int .i64 0, .int .i64 0, .int .i64 0, .int .i64 0], .int .i64 0, .int .i64 0] started (by kernel_rfl) Tryd.func6 (World.shaped_of_RefB (by kernel_rfl) (by kernel_rfl)) (by kernel_rfl) (by kernel_rfl) (by kernel_rfl)
    rfl readable (by kernel_rfl) Tryd.underlying4 (fun ds h => by match ds, h with | [d1, d2, d3], _ => rfl) walk

theorem over : Rows.ReadSameSaid :=
  OpenClaim.holds_of_wide 6 Tryd.f6 rfl rfl rfl rfl rfl rfl rfl ⟨rfl, rfl, rfl, rfl, rfl⟩ rfl rfl rfl rfl rfl (by kernel_rfl) Tryd.func6 (by kernel_rfl)
    (of_decide_eq_true (by kernel_rfl)) (by unfold Func.isWrapper; first | (rw [if_pos (by decide +kernel)]; kernel_rfl) | (rw [if_neg (by decide +kernel)]; exact ⟨rfl, rfl⟩))
    (fun os started H enc _ => lifted os started H enc)

theorem card : Claim7.holds Tryd.pinned (.plain (OpenSpec.ofChange Rows.readSameSpec)) Rows.readSameCard :=
  Claim7.holds_tied_plain_at .later [] [.data, .data, .data] true (true, "40a3bb29c10741f48f8fef2c6063fc9133aa2a75eb8086ff0995ae52c6b8da6e") false
    over (fun _ h => by cases h) (by kernel_rfl) (fun _ h => by cases h) readSame_row_tie rfl ⟨rfl, rfl⟩ (by kernel_rfl) rfl
    (fun f fn hf hfn => by
      obtain rfl : f = 6 := Option.some.inj ((show Tryd.prog.funcNamed "sidings/sidingslaw12.ReadSame" = some 6 by kernel_rfl).symm.trans hf) |>.symm
      obtain rfl : fn = Tryd.f6 := (Option.some.inj (Tryd.func6.symm.trans hfn)).symm
      exact ⟨by kernel_rfl, fun j t ht => by
        rw [Tryd.params6] at ht
        have hm : t ∈ [45, 3, 3] := by simpa using Array.mem_of_getElem? ht
        have hall : ([45, 3, 3].all fun u => !Tryd.prog.wantsStandIn u) = true := by kernel_rfl
        exact (show Tryd.prog.wantsStandIn t = false by simpa using List.all_eq_true.1 hall t hm)⟩)
    (by kernel_rfl)
end Go.Proofs.YtnahjnbhmlomcaaDoor.readSameAt

namespace Go.Proofs.YtnahjnbhmlomcaaDoor
theorem readSame_holds : Rows.ReadSameCardSaid := readSameAt.card
end Go.Proofs.YtnahjnbhmlomcaaDoor
