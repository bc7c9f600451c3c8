/-
  What each call of package layout that only tells places answers, at every input.
  Conditions: of a layout, that it has one to four threads and one to sixty-four slots, or is the zero one.
-/
import Derived.Test.YtnojemmpgaibkaaDoorProg
import Derived.Test.YtnojemmpgaibkaaDoorLater
import Derived.Test.YtnojemmpgaibkaaDoorLayMath
import Derived.WalkKit
import Derived.WalkSpells
import Derived.WalkLawsBesides
import Derived.Lib.Hide
import Derived.BigQuiet
import Derived.LoopTactic
namespace Go.Proofs.YtnojemmpgaibkaaDoor
open Go.RowKit
attribute [local go_sem] Later.cell Later.frozen Later.lt Later.le
set_option linter.unusedVariables false

theorem lwithin_any (n a b : Int) (w : World) : Calls Tryd.prog 88 #[.int .i64 n, .int .i64 a, .int .i64 b] w fun e w' => e = .returned (.bool (decide (a ≤ n ∧ n ≤ b))) ∧ w = w' := by
  by_cases h0 : a ≤ n
  · by_cases h1 : n ≤ b
    · go_enter Tryd.func88, Tryd.ntmps88
      go_wp2
      go_ret
      exact ⟨by simp [h0, h1], rfl⟩
    · go_enter Tryd.func88, Tryd.ntmps88
      go_wp2
      go_ret
      exact ⟨by simp [h1], rfl⟩
  · go_enter Tryd.func88, Tryd.ntmps88
    go_wp2
    go_ret
    exact ⟨by simp; omega, rfl⟩

theorem tmod_iff (a : Int) : a.tmod 8 = 0 ↔ a % 8 = 0 := by rw [Int.tmod_eq_emod]; split <;> omega

theorem lmayBe_any (a s t : Int) (w : World) : Calls Tryd.prog 65 #[.agg #[.int .i64 a, .int .i64 s, .int .i64 t]] w (Ret w (.bool (mayC a s t))) := by
  have h1 := lwithin_any a 8 4096
  have h2 := lwithin_any s 1 64
  have h3 := lwithin_any t 1 4
  unfold mayC
  generalize decide (8 ≤ a ∧ a ≤ 4096) = u1 at h1 ⊢
  generalize decide (1 ≤ s ∧ s ≤ 64) = u2 at h2 ⊢
  generalize decide (1 ≤ t ∧ t ≤ 4) = u3 at h3 ⊢
  by_cases h0 : a.tmod 8 = 0
  · rw [decide_eq_true ((tmod_iff a).1 h0)]
    cases u1
    all_goals cases u2
    all_goals
      go_enter Tryd.func65, Tryd.ntmps65
      go_wp2_with (first
        | (go_at_call 88; (with_reducible refine (h1 _).mono ?_); rintro _ _ ⟨rfl, rfl⟩)
        | (go_at_call 88; (with_reducible refine (h2 _).mono ?_); rintro _ _ ⟨rfl, rfl⟩)
        | (go_at_call 88; (with_reducible refine (h3 _).mono ?_); rintro _ _ ⟨rfl, rfl⟩))
      go_ret
      exact Ret.mk rfl ((Below.refl _ _).alloc (Nat.le_refl _) _)
  · rw [decide_eq_false (fun k => h0 ((tmod_iff a).2 k))]
    go_enter Tryd.func65, Tryd.ntmps65
    go_wp2
    go_ret
    exact Ret.mk rfl ((Below.refl _ _).alloc (Nat.le_refl _) _)

theorem Of_ok (a s t : Int) (h : mayC a s t = true) (w : World) : Calls Tryd.prog 46 #[.agg #[.int .i64 a, .int .i64 s, .int .i64 t]] w (Ret w (.tuple #[.agg #[.int .i64 t, .int .i64 s], .int .i64 0])) := by
  have hc := lmayBe_any a s t
  rw [h] at hc
  clear h
  go_enter Tryd.func46, Tryd.ntmps46
  go_wp2_with (go_at_call 65; refine (hc _).mono ?_; rintro _ _ ⟨rfl, x, rfl⟩)
  obtain ⟨z0, hz0⟩ : ∃ y : Later ((w.alloc (.cells #[.int .i64 a, .int .i64 s, .int .i64 t] 26)).alloc (.cells #[.int .i64 t, .int .i64 0] 92)), x.at'.setCell ⟨w.heap.size + 1, 0, none⟩ (.int .i64 t) = y.at' := x.put_last _ 0 (.int .i64 t) (by simp) rfl
  obtain ⟨z1, hz1⟩ : ∃ y : Later ((w.alloc (.cells #[.int .i64 a, .int .i64 s, .int .i64 t] 26)).alloc (.cells #[.int .i64 t, .int .i64 s] 92)), z0.at'.setCell ⟨w.heap.size + 1, 1, none⟩ (.int .i64 s) = y.at' := z0.put_last _ 1 (.int .i64 s) (by simp) rfl
  rw [hz0, hz1]
  exact bodyPost_ret (v := .tuple #[.agg #[.int .i64 t, .int .i64 s], .int .i64 0]) (by simp [results, Tryd.results46, go_sem]) rfl (Ret.mk rfl (z1.cat ((Below.refl _ _).alloc (Nat.le_refl _) _ |>.alloc (by simp) _) (by simp; omega)))
theorem Of_bad (a s t : Int) (h : mayC a s t = false) (w : World) : Calls Tryd.prog 46 #[.agg #[.int .i64 a, .int .i64 s, .int .i64 t]] w (Ret w (.tuple #[.agg #[.int .i64 0, .int .i64 0], .int .i64 1])) := by
  have hc := lmayBe_any a s t
  rw [h] at hc
  clear h
  go_enter Tryd.func46, Tryd.ntmps46
  go_wp2_with (go_at_call 65; refine (hc _).mono ?_; rintro _ _ ⟨rfl, x, rfl⟩)
  obtain ⟨z0, hz0⟩ : ∃ y : Later ((w.alloc (.cells #[.int .i64 a, .int .i64 s, .int .i64 t] 26)).alloc (.cells #[.int .i64 0, .int .i64 0] 92)), x.at'.setCell ⟨w.heap.size + 1, 0, none⟩ (.int .i64 0) = y.at' := x.put_last _ 0 (.int .i64 0) (by simp) rfl
  obtain ⟨z1, hz1⟩ : ∃ y : Later ((w.alloc (.cells #[.int .i64 a, .int .i64 s, .int .i64 t] 26)).alloc (.cells #[.int .i64 0, .int .i64 0] 92)), z0.at'.setCell ⟨w.heap.size + 1, 1, none⟩ (.int .i64 0) = y.at' := z0.put_last _ 1 (.int .i64 0) (by simp) rfl
  rw [hz0, hz1]
  exact bodyPost_ret (v := .tuple #[.agg #[.int .i64 0, .int .i64 0], .int .i64 1]) (by simp [results, Tryd.results46, go_sem]) rfl (Ret.mk rfl (z1.cat ((Below.refl _ _).alloc (Nat.le_refl _) _ |>.alloc (by simp) _) (by simp; omega)))

section
variable {t s : Int}
theorem isZero_no (h : 1 ≤ t) (w : World) : Calls Tryd.prog 83 #[.agg #[.int .i64 t, .int .i64 s]] w (Ret w (.bool false)) := by
  have e : (t == 0) = false := by simp; omega
  go_enter Tryd.func83, Tryd.ntmps83
  go_wp2
  go_ret
  exact Ret.mk rfl ((Below.refl _ _).alloc (Nat.le_refl _) _)
theorem isZero_yes (w : World) : Calls Tryd.prog 83 #[.agg #[.int .i64 0, .int .i64 0]] w (Ret w (.bool true)) := by
  go_enter Tryd.func83, Tryd.ntmps83
  go_wp2
  go_ret
  exact Ret.mk rfl ((Below.refl _ _).alloc (Nat.le_refl _) _)
theorem slotsAt_any (h0 : 0 ≤ t) (h1 : t ≤ 4) (w : World) : Calls Tryd.prog 84 #[.agg #[.int .i64 t, .int .i64 s]] w (Ret w (.int .i64 (4 + t))) := by
  go_enter Tryd.func84, Tryd.ntmps84
  go_wp2
  go_ret
  exact Ret.mk rfl ((Below.refl _ _).alloc (Nat.le_refl _) _)
theorem once_ok (at' : Int) (h : 1 ≤ t) (w : World) : Calls Tryd.prog 103 #[.agg #[.int .i64 t, .int .i64 s], .int .i64 at'] w (Ret w (.int .i64 at')) := by
  go_enter Tryd.func103, Tryd.ntmps103
  go_wp2_with (go_at_call 83; refine (isZero_no h _).mono ?_; rintro _ _ ⟨rfl, x, rfl⟩)
  go_ret
  exact Ret.mk rfl x.boxed
theorem once_zero (at' : Int) (w : World) : Calls Tryd.prog 103 #[.agg #[.int .i64 0, .int .i64 0], .int .i64 at'] w (Ret w (.int .i64 (-1))) := by
  go_enter Tryd.func103, Tryd.ntmps103
  go_wp2_with (go_at_call 83; refine (isZero_yes _).mono ?_; rintro _ _ ⟨rfl, x, rfl⟩)
  go_ret
  exact Ret.mk rfl x.boxed
theorem LWords_ok (h0 : 1 ≤ t) (h1 : t ≤ 4) (h2 : 0 ≤ s) (h3 : s ≤ 64) (w : World) : Calls Tryd.prog 62 #[.agg #[.int .i64 t, .int .i64 s]] w (Ret w (.int .i64 (wordsN t s))) := by
  unfold wordsN
  go_enter Tryd.func62, Tryd.ntmps62
  go_wp2_with (go_at_call 83; refine (isZero_no h0 _).mono ?_; rintro _ _ ⟨rfl, x, rfl⟩)
  refine wp_region_later' x (by kernel_rfl) (by kernel_rfl) ?_
  repeat (go_big_quiet_step ((go_at_call 84; exact later_of _ (slotsAt_any (by omega) h1 _))))
  refine wpQuiet_nil ?_
  rintro _ ⟨x1, rfl⟩
  go_wp2
  go_ret
  exact Ret.mk rfl x1.boxed
theorem LWords_zero (w : World) : Calls Tryd.prog 62 #[.agg #[.int .i64 0, .int .i64 0]] w (Ret w (.int .i64 0)) := by
  go_enter Tryd.func62, Tryd.ntmps62
  go_wp2_with (go_at_call 83; refine (isZero_yes _).mono ?_; rintro _ _ ⟨rfl, x, rfl⟩)
  go_ret
  exact Ret.mk rfl x.boxed
theorem LStack_ok (h0 : 1 ≤ t) (w : World) : Calls Tryd.prog 87 #[.agg #[.int .i64 t, .int .i64 s]] w (Ret w (.int .i64 1)) := by
  go_enter Tryd.func87, Tryd.ntmps87
  go_wp2_with (go_at_call 103; refine (once_ok _ h0 _).mono ?_; rintro _ _ ⟨rfl, x, rfl⟩)
  go_ret
  exact Ret.mk rfl x.boxed
theorem LStack_zero (w : World) : Calls Tryd.prog 87 #[.agg #[.int .i64 0, .int .i64 0]] w (Ret w (.int .i64 (-1))) := by
  go_enter Tryd.func87, Tryd.ntmps87
  go_wp2_with (go_at_call 103; refine (once_zero _ _).mono ?_; rintro _ _ ⟨rfl, x, rfl⟩)
  go_ret
  exact Ret.mk rfl x.boxed
theorem part_any (h0 : 0 ≤ t) (h1 : t ≤ 4) (h2 : 0 ≤ s) (h3 : s ≤ 64) (n p : Int) (h4 : 0 ≤ p) (h5 : p ≤ 2) (w : World) : Calls Tryd.prog 98 #[.agg #[.int .i64 t, .int .i64 s], .int .i64 n, .int .i64 p] w (Ret w (.int .i64 (partN t s n p))) := by
  have hc := lwithin_any n 0 (s - 1)
  by_cases h : 0 ≤ n ∧ n ≤ s - 1
  · rw [decide_eq_true h] at hc
    rw [partN_in h]
    obtain ⟨n0, n1⟩ := h
    go_enter Tryd.func98, Tryd.ntmps98
    go_wp2_with (first
      | (go_at_call 88; refine (hc _).mono ?_; rintro _ _ ⟨rfl, rfl⟩)
      | (go_at_call 84; refine (slotsAt_any h0 h1 _).mono ?_; rintro _ _ ⟨rfl, x, rfl⟩))
    go_ret
    exact Ret.mk rfl x.boxed
  · rw [decide_eq_false h] at hc
    rw [partN_no h]
    clear h
    go_enter Tryd.func98, Tryd.ntmps98
    go_wp2_with (go_at_call 88; refine (hc _).mono ?_; rintro _ _ ⟨rfl, rfl⟩)
    go_ret
    exact Ret.mk rfl ((Below.refl _ _).alloc (Nat.le_refl _) _)
theorem LEntry_any (h0 : 0 ≤ t) (h1 : t ≤ 4) (h2 : 0 ≤ s) (h3 : s ≤ 64) (n : Int) (w : World) : Calls Tryd.prog 90 #[.agg #[.int .i64 t, .int .i64 s], .int .i64 n] w (Ret w (.int .i64 (partN t s n 0))) := by
  have hc := part_any h0 h1 h2 h3 n 0 (by omega) (by omega)
  generalize partN t s n 0 = v at hc ⊢
  go_enter Tryd.func90, Tryd.ntmps90
  go_wp2_with (go_at_call 98; refine (hc _).mono ?_; rintro _ _ ⟨rfl, x, rfl⟩)
  go_ret
  exact Ret.mk rfl x.boxed
theorem LSize_any (h0 : 0 ≤ t) (h1 : t ≤ 4) (h2 : 0 ≤ s) (h3 : s ≤ 64) (n : Int) (w : World) : Calls Tryd.prog 93 #[.agg #[.int .i64 t, .int .i64 s], .int .i64 n] w (Ret w (.int .i64 (partN t s n 1))) := by
  have hc := part_any h0 h1 h2 h3 n 1 (by omega) (by omega)
  generalize partN t s n 1 = v at hc ⊢
  go_enter Tryd.func93, Tryd.ntmps93
  go_wp2_with (go_at_call 98; refine (hc _).mono ?_; rintro _ _ ⟨rfl, x, rfl⟩)
  go_ret
  exact Ret.mk rfl x.boxed
theorem LLink_any (h0 : 0 ≤ t) (h1 : t ≤ 4) (h2 : 0 ≤ s) (h3 : s ≤ 64) (n : Int) (w : World) : Calls Tryd.prog 85 #[.agg #[.int .i64 t, .int .i64 s], .int .i64 n] w (Ret w (.int .i64 (partN t s n 2))) := by
  have hc := part_any h0 h1 h2 h3 n 2 (by omega) (by omega)
  generalize partN t s n 2 = v at hc ⊢
  go_enter Tryd.func85, Tryd.ntmps85
  go_wp2_with (go_at_call 98; refine (hc _).mono ?_; rintro _ _ ⟨rfl, x, rfl⟩)
  go_ret
  exact Ret.mk rfl x.boxed
end
end Go.Proofs.YtnojemmpgaibkaaDoor
