/-
  The statement WriteTwice of layer 13, for every input: the card, tied to the program's text.
  Conditions: the table of fields and the two fields of a head start as the program's text lays them (the card's own tie); it speaks of the pruned copy that the seat was turned of.
-/
import Derived.Test.YtnojemmpgaibkaaDoorWriteTwiceLaw
import Derived.Test.YtnojemmpgaibkaaDoorLaid3
import Derived.Test.YtnojemmpgaibkaaDoorCards
import Derived.SevenTiedAt
namespace Go.Proofs.YtnojemmpgaibkaaDoor.writeTwiceAt
open Go Go.ChangeShapes Go.WideShapes Go.ChangeAt Go.RowKit

theorem readable : (Tryd.f6.params.toList.all fun t => Tryd.checked.prog.readableRec t && decide (t < Tryd.checked.prog.types.size)) = true := by kernel_rfl

set_option maxRecDepth 100000 in
theorem walk (W : World) (base : Nat) (args : Array Value) (hF : HasBoth W) (hlen : args.toList.length = Tryd.f6.params.toList.length)
    (hval0 : ∀ (j : Nat) t v, Tryd.f6.params[j]? = some t → args[j]? = some v → Value.okWide Tryd.prog W .any base t v) : Calls Tryd.prog 6 args W (Ret W (.bool true)) := by
  have hval : ∀ (j : Nat) t v, (#[52, 52] : Array TypeId)[j]? = some t → args[j]? = some v → Value.okWide Tryd.prog W .any base t v := by
    rw [← Tryd.params6]
    exact hval0
  rw [Tryd.params6] at hlen
  clear hval0
  obtain ⟨v0, v1, rfl⟩ := args_two hlen
  obtain ⟨cs, rfl, hl, hc⟩ := okcells (ts := [3, 3, 3, 3]) Tryd.underlying52 (by kernel_rfl) (by kernel_rfl) (hval 0 52 v0 rfl rfl)
  match cs, hl with
  | [c0, c1, c2, c3], _ =>
  obtain ⟨da, rfl, wda⟩ := okcell_int Tryd.underlying3 (hc 0 3 c0 rfl rfl)
  obtain ⟨ha, rfl, wha⟩ := okcell_int Tryd.underlying3 (hc 1 3 c1 rfl rfl)
  obtain ⟨oa, rfl, woa⟩ := okcell_int Tryd.underlying3 (hc 2 3 c2 rfl rfl)
  obtain ⟨na, rfl, wna⟩ := okcell_int Tryd.underlying3 (hc 3 3 c3 rfl rfl)
  obtain ⟨cso, rfl, hlo, hco⟩ := okcells (ts := [3, 3, 3, 3]) Tryd.underlying52 (by kernel_rfl) (by kernel_rfl) (hval 1 52 v1 rfl rfl)
  match cso, hlo with
  | [co0, co1, co2, co3], _ =>
  obtain ⟨db, rfl, wdb⟩ := okcell_int Tryd.underlying3 (hco 0 3 co0 rfl rfl)
  obtain ⟨hb, rfl, whb⟩ := okcell_int Tryd.underlying3 (hco 1 3 co1 rfl rfl)
  obtain ⟨ob, rfl, wob⟩ := okcell_int Tryd.underlying3 (hco 2 3 co2 rfl rfl)
  obtain ⟨nb, rfl, wnb⟩ := okcell_int Tryd.underlying3 (hco 3 3 co3 rfl rfl)
  exact WriteTwice_walk hF.hH hF.hE

set_option maxRecDepth 100000 in
theorem lifted (os : Os) (started : os.Started) (H : Type) (enc : TypeId × Value → H) :
    ReturnsInHanded {} Tryd.checked os 6 .any (fun w args => (Rows.writeTwiceSpec.pre enc Tryd.prog Tryd.f6 [] false w args ∧ laidMetH Tryd.prog laidL w) ∧ sizedMet enc Tryd.prog Tryd.f6 (OpenSpec.ofChange Rows.writeTwiceSpec) false w args)
      (Rows.writeTwiceSpec.post enc Tryd.prog Tryd.f6 false true false false) :=
  law_lifted_laid #[.agg #[.int .i64 0, .int .i64 0, .int .i64 0, .int .i64 0], .agg #[.int .i64 0, .int .i64 0, .int .i64 0, .int .i64 0]] started (by kernel_rfl) Tryd.func6 (World.shaped_of_RefB (by kernel_rfl) (by kernel_rfl)) (by kernel_rfl) (by kernel_rfl) (by kernel_rfl)
    rfl readable (by kernel_rfl) Tryd.underlying4 (fun ds h => by match ds, h with | [d1, d2], _ => rfl) walk

theorem over : Rows.WriteTwiceSaid :=
  OpenClaim.holds_of_wide 6 Tryd.f6 rfl rfl rfl rfl rfl rfl rfl ⟨rfl, rfl, rfl, rfl, rfl⟩ rfl rfl rfl rfl rfl (by kernel_rfl) Tryd.func6 (by kernel_rfl)
    (of_decide_eq_true (by kernel_rfl)) (by unfold Func.isWrapper; first | (rw [if_pos (by decide +kernel)]; kernel_rfl) | (rw [if_neg (by decide +kernel)]; exact ⟨rfl, rfl⟩))
    (fun os started H enc _ => lifted os started H enc)

theorem card : Claim7.holds Tryd.pinned (.plain (OpenSpec.ofChange Rows.writeTwiceSpec)) Rows.writeTwiceCard :=
  Claim7.holds_tied_plain_at .later [] [.data, .data, .data] true (true, "d465364d3e365dcb5cd13495971a0114f7d7d30ade15da5c648e98c527d74122") false
    over (fun _ h => by cases h) (by kernel_rfl) (fun _ h => by cases h) writeTwice_row_tie rfl ⟨rfl, rfl⟩ (by kernel_rfl) rfl
    (fun f fn hf hfn => by
      obtain rfl : f = 6 := Option.some.inj ((show Tryd.prog.funcNamed "sidings/sidingslaw13.WriteTwice" = some 6 by kernel_rfl).symm.trans hf) |>.symm
      obtain rfl : fn = Tryd.f6 := (Option.some.inj (Tryd.func6.symm.trans hfn)).symm
      exact ⟨by kernel_rfl, fun j t ht => by
        rw [Tryd.params6] at ht
        have hm : t ∈ [52, 52] := by simpa using Array.mem_of_getElem? ht
        have hall : ([52, 52].all fun u => !Tryd.prog.wantsStandIn u) = true := by kernel_rfl
        exact (show Tryd.prog.wantsStandIn t = false by simpa using List.all_eq_true.1 hall t hm)⟩)
    (by kernel_rfl)
end Go.Proofs.YtnojemmpgaibkaaDoor.writeTwiceAt

namespace Go.Proofs.YtnojemmpgaibkaaDoor
theorem writeTwice_holds : Rows.WriteTwiceCardSaid := writeTwiceAt.card
end Go.Proofs.YtnojemmpgaibkaaDoor
