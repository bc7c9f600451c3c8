/-
  The walk of AllocNil.
  Conditions: none but that the tables read as they are laid; that live answers true.
-/
import Derived.Test.YtfomephgallpmaaDoorAlLive
namespace Go.Proofs.YtfomephgallpmaaDoor
open Go.RowKit
attribute [local go_sem] Later.cell Later.frozen Later.lt Later.le
set_option linter.unusedVariables false

theorem ahold_nil (w : World) : Calls Tryd.prog 18 #[.pointer none] w fun e w' => e = .returned (.tuple #[.int .i64 0, .int .i64 0, .bool false]) ∧ w = w' := by
  go_enter Tryd.func18, Tryd.ntmps18
  go_wp2
  refine bodyPost_ret (v := .tuple #[.int .i64 0, .int .i64 0, .bool false]) (by simp [results, Tryd.results18, go_sem]) rfl ?_
  exact ⟨rfl, rfl⟩
theorem AllocNil_walk {a s t n : Int} {w : World} (hH : HasHead w) (hE : HasFields w) :
    Calls Tryd.prog 5 #[.agg #[.int .i64 a, .int .i64 s, .int .i64 t], .int .i64 n] w (Ret w (.bool true)) := by
  have hst : ∀ W, HasHead W → Calls Tryd.prog 7 #[.agg #[.int .i64 a, .int .i64 s, .int .i64 t]] W fun e W' => ∃ o : Option Addr, e = .returned (.pointer o) ∧ ∃ y : Later W, W' = y.at' := fun W hF => by
    cases hm : mayC a s t
    · exact (start_no a s t hm W).mono fun _ _ ⟨he, x, hx⟩ => ⟨_, he, x, hx⟩
    · exact (start_yes a s t hm W hF).mono fun _ W' ⟨A, he, _, hb, _⟩ => ⟨_, he, ⟨W', hb⟩, rfl⟩
  have hnw : ∀ W, Calls Tryd.prog 12 #[.agg #[.int .i64 a, .int .i64 s, .int .i64 t], .int .i64 n] W fun e W' => ∃ k : Nat, e = .returned (.pointer (some ⟨k, 0, none⟩)) ∧ ∃ y : Later W, W' = y.at' := fun W => by
    cases hm : mayC a s t
    · exact (anew_no a s t n hm W).mono fun _ W' ⟨k, he, _, hb, _⟩ => ⟨k, he, ⟨W', hb⟩, rfl⟩
    · exact (anew_yes a s t n hm W).mono fun _ W' ⟨k, he, _, hb, _⟩ => ⟨k, he, ⟨W', hb⟩, rfl⟩
  have hlv := fun W => alive_any W
  have hH0 : HasHead (w.alloc (.cells #[.int .i64 a, .int .i64 s, .int .i64 t] 23)) := hH.alloc _
  have hB0 : Below w.heap.size w (w.alloc (.cells #[.int .i64 a, .int .i64 s, .int .i64 t] 23)) := (Below.refl _ _).alloc (Nat.le_refl _) _
  have hC0 : Fs (w.alloc (.cells #[.int .i64 a, .int .i64 s, .int .i64 t] 23)) w.heap.size [.int .i64 a, .int .i64 s, .int .i64 t] := Fs.new' _ _ rfl rfl
  go_enter Tryd.func5, Tryd.ntmps5
  go_wp2_with (first
    | (go_at_call 7; (with_reducible refine (hst _ hH0).mono ?_); rintro _ _ ⟨o, rfl, y1, rfl⟩)
    | (go_at_call 17; (with_reducible refine (astep_nil _ _).mono ?_); rintro _ _ ⟨rfl, y2, rfl⟩; have hf2 : Fs (y2.at'.alloc (.cells #[.int .i64 1, .int .i64 0] 32)) y2.at'.heap.size [.int .i64 1, .int .i64 0] := Fs.new' _ _ rfl rfl; have hc2 := ((hC0.later y1).later y2).alloc (.cells #[.int .i64 1, .int .i64 0] 32); have c0 := hc2.at' 0 rfl; have c1 := hc2.at' 1 rfl; have c2 := hc2.at' 2 rfl; have hB2 : Below w.heap.size w (y2.at'.alloc (.cells #[.int .i64 1, .int .i64 0] 32)) := ((y2.cat (y1.cat hB0 hB0.size) (Nat.le_trans hB0.size y1.below.size)).alloc (Nat.le_trans (Nat.le_trans hB0.size y1.below.size) y2.below.size) _))
    | (go_at_call 12; (with_reducible refine (hnw _).mono ?_); rintro _ _ ⟨k, rfl, y3, rfl⟩)
    | (go_at_call 17; (with_reducible refine (astep_none _ _).mono ?_); rintro _ _ ⟨rfl, y4, rfl⟩; have hf4 := ((hf2.later y3).later y4).alloc (.cells #[.int .i64 1, .int .i64 0] 32); have z0 := hf4.at' 0 rfl; have z1 := hf4.at' 1 rfl; have hB4 := (y4.cat (y3.cat hB2 hB2.size) (Nat.le_trans hB2.size y3.below.size)).alloc (Nat.le_trans (Nat.le_trans hB2.size y3.below.size) y4.below.size) (.cells #[.int .i64 1, .int .i64 0] 32))
    | (go_at_call 18; (with_reducible refine (ahold_nil _).mono ?_); rintro _ _ ⟨rfl, rfl⟩)
    | (go_at_call 9; (with_reducible refine (hlv _ (hH.below hB4) (hE.below hB4 hE.lt)).mono ?_); rintro _ _ ⟨rfl, x5, rfl⟩))
  go_ret
  exact Ret.mk rfl (x5.cat hB4 hB4.size)
end Go.Proofs.YtfomephgallpmaaDoor
