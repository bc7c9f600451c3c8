/-
  The statement WriteGuards of layer 13, for every input: the card, tied to the program's text.
  Conditions: the table of fields and the two fields of a head start as the program's text lays them (the card's own tie); it speaks of the pruned copy that the seat was turned of.
-/
import Derived.Test.YtnojemmpgaibkaaDoorWriteGuardsLaw
import Derived.Test.YtnojemmpgaibkaaDoorWgArgB
import Derived.Test.YtnojemmpgaibkaaDoorLaid3
import Derived.Test.YtnojemmpgaibkaaDoorCards
import Derived.SevenTiedAt
namespace Go.Proofs.YtnojemmpgaibkaaDoor.writeGuardsAt
open Go Go.ChangeShapes Go.WideShapes Go.ChangeAt Go.RowKit

theorem readable : (Tryd.f3.params.toList.all fun t => Tryd.checked.prog.readableRec t && decide (t < Tryd.checked.prog.types.size)) = true := by kernel_rfl

set_option maxRecDepth 100000 in
theorem walk {H : Type} {enc : TypeId × Value → H} (W : World) (base : Nat) (args : Array Value) (ds : List (DataW H)) (ps : List MemPlace) (hF : HasBoth W) (hlen : args.toList.length = Tryd.f3.params.toList.length)
    (hval0 : ∀ (j : Nat) t v, Tryd.f3.params[j]? = some t → args[j]? = some v → Value.okWide Tryd.prog W .any base t v)
    (hA : DataW.TrodAll enc Tryd.prog W 0 (fun _ => true) true Tryd.f3.params.toList args.toList ds ps) (hlt : ∀ x ∈ ps, x.block < W.heap.size) : Calls Tryd.prog 3 args W (Ret W (.bool true)) := by
  have hval : ∀ (j : Nat) t v, (#[24] : Array TypeId)[j]? = some t → args[j]? = some v → Value.okWide Tryd.prog W .any base t v := by
    rw [← Tryd.params3]
    exact hval0
  rw [Tryd.params3] at hlen hA
  clear hval0
  obtain ⟨v0, rfl⟩ := args_one hlen
  have _hlt := hlt
  obtain ⟨u0, d0, e0, rfl, h0⟩ := trodAll_one hA
  have e0' : u0 = v0 := by simpa using e0.symm
  subst e0'
  obtain ⟨cs, rfl, hl, hc⟩ := okcells (ts := [22, 3, 3, 3]) Tryd.underlying24 (by kernel_rfl) (by kernel_rfl) (hval 0 24 _ rfl rfl)
  match cs, hl with
  | [c0, c1, c2, c3], _ =>
  obtain ⟨f0, rfl, w0⟩ := okcell_int Tryd.underlying3 (hc 1 3 c1 rfl rfl)
  obtain ⟨f1, rfl, w1⟩ := okcell_int Tryd.underlying3 (hc 2 3 c2 rfl rfl)
  obtain ⟨G, rfl, w2⟩ := okcell_int Tryd.underlying3 (hc 3 3 c3 rfl rfl)
  obtain ⟨fu0, hf0⟩ := h0
  obtain ⟨fu1, y1, hf1⟩ := picks_of_trod (by simpa [Value.cells] using hf0)
  obtain ⟨p, cap, l, rfl, hm0, hlc0, hcm0, hE0⟩ := nums_of_trod hf1
  exact WriteGuards_walk hE0 hF.hH hF.hE

set_option maxRecDepth 100000 in
theorem lifted (os : Os) (started : os.Started) (H : Type) (enc : TypeId × Value → H) :
    ReturnsInHanded {} Tryd.checked os 3 .any (fun w args => (Rows.writeGuardsSpec.pre enc Tryd.prog Tryd.f3 [] false w args ∧ laidMetH Tryd.prog laidL w) ∧ sizedMet enc Tryd.prog Tryd.f3 (OpenSpec.ofChange Rows.writeGuardsSpec) false w args)
      (Rows.writeGuardsSpec.post enc Tryd.prog Tryd.f3 false true false false) :=
  law_lifted_laid_read #[.agg #[.slice none 0 0, .int .i64 0, .int .i64 0, .int .i64 0]] started (by kernel_rfl) Tryd.func3 (World.shaped_of_RefB (by kernel_rfl) (by kernel_rfl)) (by kernel_rfl) (by kernel_rfl) (by kernel_rfl)
    rfl readable (by kernel_rfl) Tryd.underlying4 (fun ds h => by match ds, h with | [d], _ => rfl) walk

theorem over : Rows.WriteGuardsSaid :=
  OpenClaim.holds_of_wide 3 Tryd.f3 rfl rfl rfl rfl rfl rfl rfl ⟨rfl, rfl, rfl, rfl, rfl⟩ rfl rfl rfl rfl rfl (by kernel_rfl) Tryd.func3 (by kernel_rfl)
    (of_decide_eq_true (by kernel_rfl)) (by unfold Func.isWrapper; first | (rw [if_pos (by decide +kernel)]; kernel_rfl) | (rw [if_neg (by decide +kernel)]; exact ⟨rfl, rfl⟩))
    (fun os started H enc _ => lifted os started H enc)

theorem card : Claim7.holds Tryd.pinned (.plain (OpenSpec.ofChange Rows.writeGuardsSpec)) Rows.writeGuardsCard :=
  Claim7.holds_tied_plain_at .later [] [.data, .data, .data] true (true, "d465364d3e365dcb5cd13495971a0114f7d7d30ade15da5c648e98c527d74122") false
    over (fun _ h => by cases h) (by kernel_rfl) (fun _ h => by cases h) writeGuards_row_tie rfl ⟨rfl, rfl⟩ (by kernel_rfl) rfl
    (fun f fn hf hfn => by
      obtain rfl : f = 3 := Option.some.inj ((show Tryd.prog.funcNamed "sidings/sidingslaw13.WriteGuards" = some 3 by kernel_rfl).symm.trans hf) |>.symm
      obtain rfl : fn = Tryd.f3 := (Option.some.inj (Tryd.func3.symm.trans hfn)).symm
      exact ⟨by kernel_rfl, fun j t ht => by
        rw [Tryd.params3] at ht
        have hm : t ∈ [24] := by simpa using Array.mem_of_getElem? ht
        have hall : ([24].all fun u => !Tryd.prog.wantsStandIn u) = true := by kernel_rfl
        exact (show Tryd.prog.wantsStandIn t = false by simpa using List.all_eq_true.1 hall t hm)⟩)
    (by kernel_rfl)
end Go.Proofs.YtnojemmpgaibkaaDoor.writeGuardsAt

namespace Go.Proofs.YtnojemmpgaibkaaDoor
theorem writeGuards_holds : Rows.WriteGuardsCardSaid := writeGuardsAt.card
end Go.Proofs.YtnojemmpgaibkaaDoor
