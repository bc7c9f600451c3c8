/-
  What each call of package layout that only tells places answers, at every input.
  Conditions: of a layout, that it has one to four threads and one to sixty-four slots, or is the zero one.
-/
import Derived.Test.YtfomephgallpmaaDoorProg
import Derived.Test.YtfomephgallpmaaDoorLater
import Derived.Test.YtfomephgallpmaaDoorLayMath
import Derived.WalkKit
import Derived.WalkSpells
import Derived.WalkLawsBesides
import Derived.Lib.Hide
import Derived.BigQuiet
import Derived.LoopTactic
namespace Go.Proofs.YtfomephgallpmaaDoor
open Go.RowKit
attribute [local go_sem] Later.cell Later.frozen Later.lt Later.le
set_option linter.unusedVariables false

theorem lwithin_any (n a b : Int) (w : World) : Calls Tryd.prog 52 #[.int .i64 n, .int .i64 a, .int .i64 b] w fun e w' => e = .returned (.bool (decide (a ≤ n ∧ n ≤ b))) ∧ w = w' := by
  by_cases h0 : a ≤ n
  · by_cases h1 : n ≤ b
    · go_enter Tryd.func52, Tryd.ntmps52
      go_wp2
      go_ret
      exact ⟨by simp [h0, h1], rfl⟩
    · go_enter Tryd.func52, Tryd.ntmps52
      go_wp2
      go_ret
      exact ⟨by simp [h1], rfl⟩
  · go_enter Tryd.func52, Tryd.ntmps52
    go_wp2
    go_ret
    exact ⟨by simp; omega, rfl⟩

theorem tmod_iff (a : Int) : a.tmod 8 = 0 ↔ a % 8 = 0 := by rw [Int.tmod_eq_emod]; split <;> omega

theorem lmayBe_any (a s t : Int) (w : World) : Calls Tryd.prog 34 #[.agg #[.int .i64 a, .int .i64 s, .int .i64 t]] w (Ret w (.bool (mayC a s t))) := by
  have h1 := lwithin_any a 8 4096
  have h2 := lwithin_any s 1 64
  have h3 := lwithin_any t 1 4
  unfold mayC
  generalize decide (8 ≤ a ∧ a ≤ 4096) = u1 at h1 ⊢
  generalize decide (1 ≤ s ∧ s ≤ 64) = u2 at h2 ⊢
  generalize decide (1 ≤ t ∧ t ≤ 4) = u3 at h3 ⊢
  by_cases h0 : a.tmod 8 = 0
  · rw [decide_eq_true ((tmod_iff a).1 h0)]
    cases u1
    all_goals cases u2
    all_goals
      go_enter Tryd.func34, Tryd.ntmps34
      go_wp2_with (first
        | (go_at_call 52; (with_reducible refine (h1 _).mono ?_); rintro _ _ ⟨rfl, rfl⟩)
        | (go_at_call 52; (with_reducible refine (h2 _).mono ?_); rintro _ _ ⟨rfl, rfl⟩)
        | (go_at_call 52; (with_reducible refine (h3 _).mono ?_); rintro _ _ ⟨rfl, rfl⟩))
      go_ret
      exact Ret.mk rfl ((Below.refl _ _).alloc (Nat.le_refl _) _)
  · rw [decide_eq_false (fun k => h0 ((tmod_iff a).2 k))]
    go_enter Tryd.func34, Tryd.ntmps34
    go_wp2
    go_ret
    exact Ret.mk rfl ((Below.refl _ _).alloc (Nat.le_refl _) _)

theorem Of_ok (a s t : Int) (h : mayC a s t = true) (w : World) : Calls Tryd.prog 25 #[.agg #[.int .i64 a, .int .i64 s, .int .i64 t]] w (Ret w (.tuple #[.agg #[.int .i64 t, .int .i64 s], .int .i64 0])) := by
  have hc := lmayBe_any a s t
  rw [h] at hc
  clear h
  go_enter Tryd.func25, Tryd.ntmps25
  go_wp2_with (go_at_call 34; refine (hc _).mono ?_; rintro _ _ ⟨rfl, x, rfl⟩)
  obtain ⟨z0, hz0⟩ : ∃ y : Later ((w.alloc (.cells #[.int .i64 a, .int .i64 s, .int .i64 t] 23)).alloc (.cells #[.int .i64 t, .int .i64 0] 63)), x.at'.setCell ⟨w.heap.size + 1, 0, none⟩ (.int .i64 t) = y.at' := x.put_last _ 0 (.int .i64 t) (by simp) rfl
  obtain ⟨z1, hz1⟩ : ∃ y : Later ((w.alloc (.cells #[.int .i64 a, .int .i64 s, .int .i64 t] 23)).alloc (.cells #[.int .i64 t, .int .i64 s] 63)), z0.at'.setCell ⟨w.heap.size + 1, 1, none⟩ (.int .i64 s) = y.at' := z0.put_last _ 1 (.int .i64 s) (by simp) rfl
  rw [hz0, hz1]
  exact bodyPost_ret (v := .tuple #[.agg #[.int .i64 t, .int .i64 s], .int .i64 0]) (by simp [results, Tryd.results25, go_sem]) rfl (Ret.mk rfl (z1.cat ((Below.refl _ _).alloc (Nat.le_refl _) _ |>.alloc (by simp) _) (by simp; omega)))
theorem Of_bad (a s t : Int) (h : mayC a s t = false) (w : World) : Calls Tryd.prog 25 #[.agg #[.int .i64 a, .int .i64 s, .int .i64 t]] w (Ret w (.tuple #[.agg #[.int .i64 0, .int .i64 0], .int .i64 1])) := by
  have hc := lmayBe_any a s t
  rw [h] at hc
  clear h
  go_enter Tryd.func25, Tryd.ntmps25
  go_wp2_with (go_at_call 34; refine (hc _).mono ?_; rintro _ _ ⟨rfl, x, rfl⟩)
  obtain ⟨z0, hz0⟩ : ∃ y : Later ((w.alloc (.cells #[.int .i64 a, .int .i64 s, .int .i64 t] 23)).alloc (.cells #[.int .i64 0, .int .i64 0] 63)), x.at'.setCell ⟨w.heap.size + 1, 0, none⟩ (.int .i64 0) = y.at' := x.put_last _ 0 (.int .i64 0) (by simp) rfl
  obtain ⟨z1, hz1⟩ : ∃ y : Later ((w.alloc (.cells #[.int .i64 a, .int .i64 s, .int .i64 t] 23)).alloc (.cells #[.int .i64 0, .int .i64 0] 63)), z0.at'.setCell ⟨w.heap.size + 1, 1, none⟩ (.int .i64 0) = y.at' := z0.put_last _ 1 (.int .i64 0) (by simp) rfl
  rw [hz0, hz1]
  exact bodyPost_ret (v := .tuple #[.agg #[.int .i64 0, .int .i64 0], .int .i64 1]) (by simp [results, Tryd.results25, go_sem]) rfl (Ret.mk rfl (z1.cat ((Below.refl _ _).alloc (Nat.le_refl _) _ |>.alloc (by simp) _) (by simp; omega)))

section
variable {t s : Int}
theorem isZero_no (h : 1 ≤ t) (w : World) : Calls Tryd.prog 47 #[.agg #[.int .i64 t, .int .i64 s]] w (Ret w (.bool false)) := by
  have e : (t == 0) = false := by simp; omega
  go_enter Tryd.func47, Tryd.ntmps47
  go_wp2
  go_ret
  exact Ret.mk rfl ((Below.refl _ _).alloc (Nat.le_refl _) _)
theorem isZero_yes (w : World) : Calls Tryd.prog 47 #[.agg #[.int .i64 0, .int .i64 0]] w (Ret w (.bool true)) := by
  go_enter Tryd.func47, Tryd.ntmps47
  go_wp2
  go_ret
  exact Ret.mk rfl ((Below.refl _ _).alloc (Nat.le_refl _) _)
theorem slotsAt_any (h0 : 0 ≤ t) (h1 : t ≤ 4) (w : World) : Calls Tryd.prog 48 #[.agg #[.int .i64 t, .int .i64 s]] w (Ret w (.int .i64 (4 + t))) := by
  go_enter Tryd.func48, Tryd.ntmps48
  go_wp2
  go_ret
  exact Ret.mk rfl ((Below.refl _ _).alloc (Nat.le_refl _) _)
theorem once_ok (at' : Int) (h : 1 ≤ t) (w : World) : Calls Tryd.prog 69 #[.agg #[.int .i64 t, .int .i64 s], .int .i64 at'] w (Ret w (.int .i64 at')) := by
  go_enter Tryd.func69, Tryd.ntmps69
  go_wp2_with (go_at_call 47; refine (isZero_no h _).mono ?_; rintro _ _ ⟨rfl, x, rfl⟩)
  go_ret
  exact Ret.mk rfl x.boxed
theorem once_zero (at' : Int) (w : World) : Calls Tryd.prog 69 #[.agg #[.int .i64 0, .int .i64 0], .int .i64 at'] w (Ret w (.int .i64 (-1))) := by
  go_enter Tryd.func69, Tryd.ntmps69
  go_wp2_with (go_at_call 47; refine (isZero_yes _).mono ?_; rintro _ _ ⟨rfl, x, rfl⟩)
  go_ret
  exact Ret.mk rfl x.boxed
theorem LWords_ok (h0 : 1 ≤ t) (h1 : t ≤ 4) (h2 : 0 ≤ s) (h3 : s ≤ 64) (w : World) : Calls Tryd.prog 31 #[.agg #[.int .i64 t, .int .i64 s]] w (Ret w (.int .i64 (wordsN t s))) := by
  unfold wordsN
  go_enter Tryd.func31, Tryd.ntmps31
  go_wp2_with (go_at_call 47; refine (isZero_no h0 _).mono ?_; rintro _ _ ⟨rfl, x, rfl⟩)
  refine wp_region_later' x (by kernel_rfl) (by kernel_rfl) ?_
  repeat (go_big_quiet_step ((go_at_call 48; exact later_of _ (slotsAt_any (by omega) h1 _))))
  refine wpQuiet_nil ?_
  rintro _ ⟨x1, rfl⟩
  go_wp2
  go_ret
  exact Ret.mk rfl x1.boxed
theorem LWords_zero (w : World) : Calls Tryd.prog 31 #[.agg #[.int .i64 0, .int .i64 0]] w (Ret w (.int .i64 0)) := by
  go_enter Tryd.func31, Tryd.ntmps31
  go_wp2_with (go_at_call 47; refine (isZero_yes _).mono ?_; rintro _ _ ⟨rfl, x, rfl⟩)
  go_ret
  exact Ret.mk rfl x.boxed
theorem LFrontier_ok (h0 : 1 ≤ t) (w : World) : Calls Tryd.prog 57 #[.agg #[.int .i64 t, .int .i64 s]] w (Ret w (.int .i64 0)) := by
  go_enter Tryd.func57, Tryd.ntmps57
  go_wp2_with (go_at_call 69; refine (once_ok _ h0 _).mono ?_; rintro _ _ ⟨rfl, x, rfl⟩)
  go_ret
  exact Ret.mk rfl x.boxed
theorem LFrontier_zero (w : World) : Calls Tryd.prog 57 #[.agg #[.int .i64 0, .int .i64 0]] w (Ret w (.int .i64 (-1))) := by
  go_enter Tryd.func57, Tryd.ntmps57
  go_wp2_with (go_at_call 69; refine (once_zero _ _).mono ?_; rintro _ _ ⟨rfl, x, rfl⟩)
  go_ret
  exact Ret.mk rfl x.boxed
theorem LStack_ok (h0 : 1 ≤ t) (w : World) : Calls Tryd.prog 51 #[.agg #[.int .i64 t, .int .i64 s]] w (Ret w (.int .i64 1)) := by
  go_enter Tryd.func51, Tryd.ntmps51
  go_wp2_with (go_at_call 69; refine (once_ok _ h0 _).mono ?_; rintro _ _ ⟨rfl, x, rfl⟩)
  go_ret
  exact Ret.mk rfl x.boxed
theorem LStack_zero (w : World) : Calls Tryd.prog 51 #[.agg #[.int .i64 0, .int .i64 0]] w (Ret w (.int .i64 (-1))) := by
  go_enter Tryd.func51, Tryd.ntmps51
  go_wp2_with (go_at_call 69; refine (once_zero _ _).mono ?_; rintro _ _ ⟨rfl, x, rfl⟩)
  go_ret
  exact Ret.mk rfl x.boxed
theorem LPending_ok (h0 : 1 ≤ t) (w : World) : Calls Tryd.prog 53 #[.agg #[.int .i64 t, .int .i64 s]] w (Ret w (.int .i64 2)) := by
  go_enter Tryd.func53, Tryd.ntmps53
  go_wp2_with (go_at_call 69; refine (once_ok _ h0 _).mono ?_; rintro _ _ ⟨rfl, x, rfl⟩)
  go_ret
  exact Ret.mk rfl x.boxed
theorem LPending_zero (w : World) : Calls Tryd.prog 53 #[.agg #[.int .i64 0, .int .i64 0]] w (Ret w (.int .i64 (-1))) := by
  go_enter Tryd.func53, Tryd.ntmps53
  go_wp2_with (go_at_call 69; refine (once_zero _ _).mono ?_; rintro _ _ ⟨rfl, x, rfl⟩)
  go_ret
  exact Ret.mk rfl x.boxed
theorem part_any (h0 : 0 ≤ t) (h1 : t ≤ 4) (h2 : 0 ≤ s) (h3 : s ≤ 64) (n p : Int) (h4 : 0 ≤ p) (h5 : p ≤ 2) (w : World) : Calls Tryd.prog 64 #[.agg #[.int .i64 t, .int .i64 s], .int .i64 n, .int .i64 p] w (Ret w (.int .i64 (partN t s n p))) := by
  have hc := lwithin_any n 0 (s - 1)
  by_cases h : 0 ≤ n ∧ n ≤ s - 1
  · rw [decide_eq_true h] at hc
    rw [partN_in h]
    obtain ⟨n0, n1⟩ := h
    go_enter Tryd.func64, Tryd.ntmps64
    go_wp2_with (first
      | (go_at_call 52; refine (hc _).mono ?_; rintro _ _ ⟨rfl, rfl⟩)
      | (go_at_call 48; refine (slotsAt_any h0 h1 _).mono ?_; rintro _ _ ⟨rfl, x, rfl⟩))
    go_ret
    exact Ret.mk rfl x.boxed
  · rw [decide_eq_false h] at hc
    rw [partN_no h]
    clear h
    go_enter Tryd.func64, Tryd.ntmps64
    go_wp2_with (go_at_call 52; refine (hc _).mono ?_; rintro _ _ ⟨rfl, rfl⟩)
    go_ret
    exact Ret.mk rfl ((Below.refl _ _).alloc (Nat.le_refl _) _)
theorem LEntry_any (h0 : 0 ≤ t) (h1 : t ≤ 4) (h2 : 0 ≤ s) (h3 : s ≤ 64) (n : Int) (w : World) : Calls Tryd.prog 62 #[.agg #[.int .i64 t, .int .i64 s], .int .i64 n] w (Ret w (.int .i64 (partN t s n 0))) := by
  have hc := part_any h0 h1 h2 h3 n 0 (by omega) (by omega)
  generalize partN t s n 0 = v at hc ⊢
  go_enter Tryd.func62, Tryd.ntmps62
  go_wp2_with (go_at_call 64; refine (hc _).mono ?_; rintro _ _ ⟨rfl, x, rfl⟩)
  go_ret
  exact Ret.mk rfl x.boxed
theorem LSize_any (h0 : 0 ≤ t) (h1 : t ≤ 4) (h2 : 0 ≤ s) (h3 : s ≤ 64) (n : Int) (w : World) : Calls Tryd.prog 60 #[.agg #[.int .i64 t, .int .i64 s], .int .i64 n] w (Ret w (.int .i64 (partN t s n 1))) := by
  have hc := part_any h0 h1 h2 h3 n 1 (by omega) (by omega)
  generalize partN t s n 1 = v at hc ⊢
  go_enter Tryd.func60, Tryd.ntmps60
  go_wp2_with (go_at_call 64; refine (hc _).mono ?_; rintro _ _ ⟨rfl, x, rfl⟩)
  go_ret
  exact Ret.mk rfl x.boxed
theorem LLink_any (h0 : 0 ≤ t) (h1 : t ≤ 4) (h2 : 0 ≤ s) (h3 : s ≤ 64) (n : Int) (w : World) : Calls Tryd.prog 49 #[.agg #[.int .i64 t, .int .i64 s], .int .i64 n] w (Ret w (.int .i64 (partN t s n 2))) := by
  have hc := part_any h0 h1 h2 h3 n 2 (by omega) (by omega)
  generalize partN t s n 2 = v at hc ⊢
  go_enter Tryd.func49, Tryd.ntmps49
  go_wp2_with (go_at_call 64; refine (hc _).mono ?_; rintro _ _ ⟨rfl, x, rfl⟩)
  go_ret
  exact Ret.mk rfl x.boxed
end
end Go.Proofs.YtfomephgallpmaaDoor
