/-
  The walk of StackNil.
  Conditions: none but that the tables read as they are laid; that live answers true.
-/
import Derived.Test.YtlidoicpfomfcaaDoorStStart
import Derived.Test.YtlidoicpfomfcaaDoorStFree
import Derived.Test.YtlidoicpfomfcaaDoorStPopC
import Derived.Test.YtlidoicpfomfcaaDoorStPushB
namespace Go.Proofs.YtlidoicpfomfcaaDoor
open Go.RowKit
attribute [local go_sem] Later.cell Later.frozen Later.lt Later.le
set_option linter.unusedVariables false

theorem Free_nil (t s : Int) (w : World) : Calls Tryd.prog 18 #[.nilIface, .agg #[.int .i64 t, .int .i64 s]] w (Ret w (.slice none 0 0)) := by
  go_enter Tryd.func18, Tryd.ntmps18
  go_wp2
  go_ret
  exact Ret.mk rfl ((Below.refl _ _).alloc (Nat.le_refl _) _)

theorem StackNil_walk {a s t i : Int} {w : World} (hlive : ∀ W, HasHead W → Calls Tryd.prog 8 #[] W (Ret W (.bool true))) (hF : HasHead w) :
    Calls Tryd.prog 6 #[.agg #[.int .i64 a, .int .i64 s, .int .i64 t], .int .i64 i] w (Ret w (.bool true)) := by
  have hst : ∃ (v : Value) (t' s' : Int), ∀ W, HasHead W → Calls Tryd.prog 9 #[.agg #[.int .i64 a, .int .i64 s, .int .i64 t]] W fun e W' => ∃ o : Option Addr, e = .returned (.tuple #[.pointer o, .agg #[.int .i64 t', .int .i64 s']]) ∧ Below W.heap.size W W' := by
    cases h : mayC a s t
    · exact ⟨undef, 0, 0, fun W hF => (start_no a s t h W hF).mono fun _ _ ⟨he, x, hx⟩ => ⟨_, he, hx ▸ x.below⟩⟩
    · exact ⟨undef, t, s, fun W hF => (start_yes a s t h W hF).mono fun _ _ ⟨A, he, _, hb, _⟩ => ⟨_, he, hb⟩⟩
  obtain ⟨-, t', s', hst⟩ := hst
  go_enter Tryd.func6, Tryd.ntmps6
  go_wp2_with (first
    | (go_at_call 9; (with_reducible refine (hst _ (hF.alloc _)).mono ?_); rintro _ W1 ⟨o, rfl, hB1⟩; have hB2 : Below w.heap.size w (W1.alloc (.cells #[.int .i64 t', .int .i64 s'] 31)) := (((Below.refl _ _).alloc (Nat.le_refl _) _).trans (hB1.mono (by simp))).alloc (by have := hB1.size; simp at this; omega) _; have hl1 : Fs (W1.alloc (.cells #[.int .i64 t', .int .i64 s'] 31)) W1.heap.size [.int .i64 t', .int .i64 s'] := Fs.new' _ _ rfl rfl)
    | (go_at_call 22; (with_reducible refine (popStep_nil _ _).mono ?_); rintro _ _ ⟨rfl, rfl⟩)
    | (go_at_call 21; (with_reducible refine (pushStep_nil _ _).mono ?_); rintro _ _ ⟨rfl, rfl⟩)
    | (go_at_call 22; (with_reducible refine (popStep_none _ _).mono ?_); rintro _ _ ⟨rfl, rfl⟩)
    | (go_at_call 21; (with_reducible refine (pushStep_none _ _).mono ?_); rintro _ _ ⟨rfl, rfl⟩)
    | (go_at_call 20; (with_reducible refine (NewPop_any t' s' _).mono ?_); rintro _ W2 ⟨k, rfl, hk, hb2, hf2⟩; have hB3 := hB2.trans (hb2.mono hB2.size); have hl2 := hl1.below hb2 hl1.lt; have a0 : W2.cell? ⟨W1.heap.size, 0, none⟩ = some (.int .i64 t') := hl2.at' 0 rfl; have a1 : W2.cell? ⟨W1.heap.size, 1, none⟩ = some (.int .i64 s') := hl2.at' 1 rfl; clear hb2 hf2 hk)
    | (go_at_call 24; (with_reducible refine (NewPush_any t' s' i _).mono ?_); rintro _ W3 ⟨k2, rfl, hk2, hb3, hf3⟩; have hB4 := hB3.trans (hb3.mono hB3.size); have hl3 := hl2.below hb3 hl2.lt; have b0 : W3.cell? ⟨W1.heap.size, 0, none⟩ = some (.int .i64 t') := hl3.at' 0 rfl; have b1 : W3.cell? ⟨W1.heap.size, 1, none⟩ = some (.int .i64 s') := hl3.at' 1 rfl; clear hb3 hf3 hk2)
    | (go_at_call 18; (with_reducible refine (Free_nil t' s' _).mono ?_); rintro _ _ ⟨rfl, x4, rfl⟩; have hB5 := x4.cat hB4 hB4.size)
    | (go_at_call 8; (with_reducible refine (hlive _ (hF.below hB5)).mono ?_); rintro _ _ ⟨rfl, x5, rfl⟩))
  go_ret
  exact Ret.mk rfl (x5.cat hB5 hB5.size)
end Go.Proofs.YtlidoicpfomfcaaDoor
