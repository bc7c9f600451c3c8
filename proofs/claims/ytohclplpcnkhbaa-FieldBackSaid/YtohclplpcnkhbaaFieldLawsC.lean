/-
  The statements FieldTwice and FieldBack of layer 1, walked: each answers true, and leaves alone all that was there.
  Conditions: none.
-/
import Derived.Test.YtohclplpcnkhbaaFieldLawWalks
namespace Go.Proofs.Ytohclplpcnkhbaa
open Go.RowKit
attribute [local go_sem] Later.cell Later.frozen Later.lt Later.le
attribute [local go_sem ↓] Go.wp_at_zero Go.wp_at_succ

theorem putE_three (x a b n : Int) : putFE x a b n = 0 ∨ putFE x a b n = 1 ∨ putFE x a b n = 3 := by
  unfold putFE putE
  repeat' split
  all_goals simp

theorem puts (x a b n : Int) (h : putFE x a b n = 0) : isw x = true ∧ fok a b = true ∧ 0 ≤ n ∧ n ≤ tw b - 1 := by
  by_cases hw : isw x = true
  · by_cases hf : fok a b = true
    · rw [putE_both hw hf] at h
      by_cases k : n < 0
      · rw [putE_neg k] at h; omega
      · by_cases k' : tw b - 1 < n
        · rw [putE_over (by omega) k'] at h; omega
        · exact ⟨hw, hf, by omega, by omega⟩
    · rw [putE_bad (.inr (by simpa using hf))] at h; omega
  · rw [putE_bad (.inl (by simpa using hw))] at h; omega

theorem putV_no (x a b n : Int) (h : putFE x a b n = 1 ∨ putFE x a b n = 3) : putFV x a b n = 0 := by
  by_cases hw : isw x = true
  · by_cases hf : fok a b = true
    · rw [putE_both hw hf] at h
      rw [putV_both hw hf]
      by_cases k : n < 0
      · exact putV_neg k
      · by_cases k' : tw b - 1 < n
        · exact putV_over (by omega) k'
        · rw [putE_ok (by omega) (by omega)] at h; omega
    · exact putV_bad (.inr (by simpa using hf))
  · exact putV_bad (.inl (by simpa using hw))

theorem twice (x a b n m : Int) (h : putFE x a b n = 0) (k : putFE x a b m = 0) :
    ∃ V U, putFV x a b n = V ∧ putFV x a b m = U ∧ putFV V a b m = U ∧ putFE V a b m = 0 ∧ putFV V a b n = V ∧ putFE V a b n = 0 := by
  obtain ⟨hw, hf, n0, n1⟩ := puts x a b n h
  obtain ⟨_, _, m0, m1⟩ := puts x a b m k
  obtain ⟨h1, h2, h3, h4⟩ := fok_of hf
  obtain ⟨h5, h6⟩ := isw_of hw
  have hbd := fput_bd (x := x) (n := n) (by omega) h3 h4 h5 h6 n0 n1
  have hw2 := isw_true hbd.1 hbd.2
  refine ⟨fput x a b n, fput x a b m, ?_, ?_, ?_, ?_, ?_, ?_⟩
  · rw [putV_both hw hf, putV_ok n0 n1]
  · rw [putV_both hw hf, putV_ok m0 m1]
  · rw [putV_both hw2 hf, putV_ok m0 m1, fput_fput (by omega) h3 n0 n1]
  · rw [putE_both hw2 hf, putE_ok m0 m1]
  · rw [putV_both hw2 hf, putV_ok n0 n1, fput_fput (by omega) h3 n0 n1]
  · rw [putE_both hw2 hf, putE_ok n0 n1]

set_option maxHeartbeats 1000000 in
theorem FieldTwice_walk (x a b a' b' n m : Int) (w : World) :
    Calls Try.prog 6 #[.agg #[.int .i64 x, .int .i64 a, .int .i64 b, .int .i64 a', .int .i64 b', .int .i64 n, .int .i64 m]] w (Ret w (.bool true)) := by
  rcases putE_three x a b n with h | h | h
  · rcases putE_three x a b m with k | k | k
    · obtain ⟨V, U, k1, k2, k3, k4, k5, k6⟩ := twice x a b n m h k
      have c1 := fun W => Put_at a b x n k1 h W
      have c2 := fun W => Put_at a b x m k2 k W
      have c3 := fun W => Put_at a b V m k3 k4 W
      have c4 := fun W => Put_at a b V n k5 k6 W
      clear k1 k2 k3 k4 k5 k6 h k
      go_enter Try.func6, Try.ntmps6
      go_wp2
      go_region
      go_wp2_with (first
        | (go_at_call 9; (with_reducible refine (later_of _ (own_any a b _)).mono ?_); rintro _ _ ⟨rfl, xo, rfl⟩)
        | (go_at_call 9; (with_reducible refine (own_any a b _).mono ?_); rintro _ _ ⟨rfl, xo, rfl⟩)
        | (go_at_call 16; (with_reducible refine (later_of _ (c1 _)).mono ?_); rintro _ _ ⟨rfl, xp, rfl⟩)
        | (go_at_call 16; (with_reducible refine (later_of _ (c2 _)).mono ?_); rintro _ _ ⟨rfl, xp, rfl⟩)
        | (go_at_call 16; (with_reducible refine (later_of _ (c3 _)).mono ?_); rintro _ _ ⟨rfl, xp, rfl⟩)
        | (go_at_call 16; (with_reducible refine (later_of _ (c4 _)).mono ?_); rintro _ _ ⟨rfl, xp, rfl⟩)
        | (go_at_call 15; (with_reducible refine (later_of _ (live_any _)).mono ?_); rintro _ _ ⟨rfl, xl, rfl⟩))
      go_ret
      exact Ret.mk rfl xl.boxed2
    all_goals
      have c1 := fun W => Put_at a b x n rfl h W
      have c2 := fun W => Put_at a b x m rfl k W
      clear h k
      go_enter Try.func6, Try.ntmps6
      go_wp2
      go_region
      go_wp2_with (first
        | (go_at_call 9; (with_reducible refine (later_of _ (own_any a b _)).mono ?_); rintro _ _ ⟨rfl, xo, rfl⟩)
        | (go_at_call 9; (with_reducible refine (own_any a b _).mono ?_); rintro _ _ ⟨rfl, xo, rfl⟩)
        | (go_at_call 16; (with_reducible refine (later_of _ (c1 _)).mono ?_); rintro _ _ ⟨rfl, xp, rfl⟩)
        | (go_at_call 16; (with_reducible refine (later_of _ (c2 _)).mono ?_); rintro _ _ ⟨rfl, xp, rfl⟩)
        | (go_at_call 15; (with_reducible refine (later_of _ (live_any _)).mono ?_); rintro _ _ ⟨rfl, xl, rfl⟩))
      go_ret
      exact Ret.mk rfl xl.boxed2
  all_goals
    have c1 := fun W => Put_at a b x n rfl h W
    have c2 := fun W => Put_any a b x m W
    clear h
    go_enter Try.func6, Try.ntmps6
    go_wp2
    go_region
    go_wp2_with (first
      | (go_at_call 9; (with_reducible refine (later_of _ (own_any a b _)).mono ?_); rintro _ _ ⟨rfl, xo, rfl⟩)
      | (go_at_call 9; (with_reducible refine (own_any a b _).mono ?_); rintro _ _ ⟨rfl, xo, rfl⟩)
      | (go_at_call 16; (with_reducible refine (later_of _ (c1 _)).mono ?_); rintro _ _ ⟨rfl, xp, rfl⟩)
      | (go_at_call 16; (with_reducible refine (later_of _ (c2 _)).mono ?_); rintro _ _ ⟨rfl, xp, rfl⟩)
      | (go_at_call 15; (with_reducible refine (later_of _ (live_any _)).mono ?_); rintro _ _ ⟨rfl, xl, rfl⟩))
    go_ret
    exact Ret.mk rfl xl.boxed2

theorem backs (x a b n : Int) (h : putFE x a b n = 0) : ∃ V, putFV x a b n = V ∧ getF V a b = n ∧ 0 ≤ V ∧ 1 ≤ b ∧ b ≤ 32 ∧ 0 ≤ a ∧ a ≤ 62 - b ∧
    ∀ a' b', fok a' b' = true → ¬ (a' < a + b ∧ a < a' + b') → ∃ R, getF V a' b' = R ∧ getF x a' b' = R := by
  obtain ⟨hw, hf, n0, n1⟩ := puts x a b n h
  obtain ⟨h1, h2, h3, h4⟩ := fok_of hf
  obtain ⟨h5, h6⟩ := isw_of hw
  have hbd := fput_bd (x := x) (n := n) (by omega) h3 h4 h5 h6 n0 n1
  have hw2 := isw_true hbd.1 hbd.2
  refine ⟨fput x a b n, by rw [putV_both hw hf, putV_ok n0 n1], by rw [getF_both hw2 hf, fget_fput (by omega) h3 n0 n1], hbd.1, h1, h2, h3, h4, fun a' b' hf' hd => ⟨fget x a' b', ?_, by rw [getF_both hw hf']⟩⟩
  obtain ⟨g1, g2, g3, g4⟩ := fok_of hf'
  rw [getF_both hw2 hf', fget_other (by omega) h3 n0 n1 (by omega) g3 (by omega)]
end Go.Proofs.Ytohclplpcnkhbaa
