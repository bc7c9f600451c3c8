/-
  The statement FieldBack of layer 1, walked: it answers true, and leaves alone all that was there.
  Conditions: none.
-/
import Derived.Test.YtohclplpcnkhbaaFieldLawsC
namespace Go.Proofs.Ytohclplpcnkhbaa
open Go.RowKit
set_option linter.unusedVariables false
attribute [local go_sem] Later.cell Later.frozen Later.lt Later.le
attribute [local go_sem ↓] Go.wp_at_zero Go.wp_at_succ

set_option maxHeartbeats 1000000 in
theorem back_err1 (x a b a' b' n m : Int) (w : World) (c1 : ∀ W : World, Calls Try.prog 16 #[.int .i64 x, .agg #[.int .i64 a, .int .i64 b], .int .i64 n] W (Ret W (.tuple #[.int .i64 0, .int .i64 1]))) :
    Calls Try.prog 4 #[.agg #[.int .i64 x, .int .i64 a, .int .i64 b, .int .i64 a', .int .i64 b', .int .i64 n, .int .i64 m]] w (Ret w (.bool true)) := by
  go_enter Try.func4, Try.ntmps4
  go_wp2
  go_region
  all_goals
    go_wp2_with (first
      | (go_at_call 9; (with_reducible refine (later_of _ (own_any a b _)).mono ?_); rintro _ _ ⟨rfl, xo, rfl⟩)
      | (go_at_call 9; (with_reducible refine (own_any a b _).mono ?_); rintro _ _ ⟨rfl, xo, rfl⟩)
      | (go_at_call 16; (with_reducible refine (later_of _ (c1 _)).mono ?_); rintro _ _ ⟨rfl, xg, rfl⟩)
      | (go_at_call 15; (with_reducible refine (later_of _ (live_any _)).mono ?_); rintro _ _ ⟨rfl, xl, rfl⟩))
    go_ret
    exact Ret.mk rfl xl.boxed3

set_option maxHeartbeats 1000000 in
theorem back_err3 (x a b a' b' n m : Int) (w : World) (c1 : ∀ W : World, Calls Try.prog 16 #[.int .i64 x, .agg #[.int .i64 a, .int .i64 b], .int .i64 n] W (Ret W (.tuple #[.int .i64 0, .int .i64 3]))) :
    Calls Try.prog 4 #[.agg #[.int .i64 x, .int .i64 a, .int .i64 b, .int .i64 a', .int .i64 b', .int .i64 n, .int .i64 m]] w (Ret w (.bool true)) := by
  go_enter Try.func4, Try.ntmps4
  go_wp2
  go_region
  all_goals
    go_wp2_with (first
      | (go_at_call 9; (with_reducible refine (later_of _ (own_any a b _)).mono ?_); rintro _ _ ⟨rfl, xo, rfl⟩)
      | (go_at_call 9; (with_reducible refine (own_any a b _).mono ?_); rintro _ _ ⟨rfl, xo, rfl⟩)
      | (go_at_call 16; (with_reducible refine (later_of _ (c1 _)).mono ?_); rintro _ _ ⟨rfl, xg, rfl⟩)
      | (go_at_call 15; (with_reducible refine (later_of _ (live_any _)).mono ?_); rintro _ _ ⟨rfl, xl, rfl⟩))
    go_ret
    exact Ret.mk rfl xl.boxed3

set_option maxHeartbeats 1000000 in
theorem back_nocheck (x a b a' b' n m V : Int) (w : World) (k3 : 0 ≤ V) (g1 : 1 ≤ b) (g2 : b ≤ 32) (g3 : 0 ≤ a) (g4 : a ≤ 62 - b) (c1 : ∀ W : World, Calls Try.prog 16 #[.int .i64 x, .agg #[.int .i64 a, .int .i64 b], .int .i64 n] W (Ret W (.tuple #[.int .i64 V, .int .i64 0]))) (c2 : ∀ W : World, Calls Try.prog 8 #[.int .i64 V, .agg #[.int .i64 a, .int .i64 b]] W (Ret W (.int .i64 n))) (c3 : ∀ W : World, Calls Try.prog 13 #[.agg #[.int .i64 a', .int .i64 b']] W (Ret W (.int .i64 1))) :
    Calls Try.prog 4 #[.agg #[.int .i64 x, .int .i64 a, .int .i64 b, .int .i64 a', .int .i64 b', .int .i64 n, .int .i64 m]] w (Ret w (.bool true)) := by
  go_enter Try.func4, Try.ntmps4
  go_wp2
  go_region
  all_goals
    go_wp2_with (first
      | (go_at_call 9; (with_reducible refine (later_of _ (own_any a b _)).mono ?_); rintro _ _ ⟨rfl, xo, rfl⟩)
      | (go_at_call 9; (with_reducible refine (own_any a b _).mono ?_); rintro _ _ ⟨rfl, xo, rfl⟩)
      | (go_at_call 9; (with_reducible refine (later_of _ (own_any a' b' _)).mono ?_); rintro _ _ ⟨rfl, xo, rfl⟩)
      | (go_at_call 16; (with_reducible refine (later_of _ (c1 _)).mono ?_); rintro _ _ ⟨rfl, xg, rfl⟩)
      | (go_at_call 8; (with_reducible refine (later_of _ (c2 _)).mono ?_); rintro _ _ ⟨rfl, xg, rfl⟩)
      | (go_at_call 13; (with_reducible refine (later_of _ (c3 _)).mono ?_); rintro _ _ ⟨rfl, xg, rfl⟩)
      | (go_at_call 15; (with_reducible refine (later_of _ (live_any _)).mono ?_); rintro _ _ ⟨rfl, xl, rfl⟩))
    go_ret
    exact Ret.mk rfl xl.boxed3

set_option maxHeartbeats 1000000 in
theorem back_share (x a b a' b' n m V : Int) (w : World) (k3 : 0 ≤ V) (g1 : 1 ≤ b) (g2 : b ≤ 32) (g3 : 0 ≤ a) (g4 : a ≤ 62 - b) (f1 : 1 ≤ b') (f2 : b' ≤ 32) (f3 : 0 ≤ a') (f4 : a' ≤ 62 - b') (hd1 : a' < a + b) (hd2 : a < a' + b') (c1 : ∀ W : World, Calls Try.prog 16 #[.int .i64 x, .agg #[.int .i64 a, .int .i64 b], .int .i64 n] W (Ret W (.tuple #[.int .i64 V, .int .i64 0]))) (c2 : ∀ W : World, Calls Try.prog 8 #[.int .i64 V, .agg #[.int .i64 a, .int .i64 b]] W (Ret W (.int .i64 n))) (c3 : ∀ W : World, Calls Try.prog 13 #[.agg #[.int .i64 a', .int .i64 b']] W (Ret W (.int .i64 0))) :
    Calls Try.prog 4 #[.agg #[.int .i64 x, .int .i64 a, .int .i64 b, .int .i64 a', .int .i64 b', .int .i64 n, .int .i64 m]] w (Ret w (.bool true)) := by
  go_enter Try.func4, Try.ntmps4
  go_wp2
  go_region
  all_goals
    go_wp2_with (first
      | (go_at_call 9; (with_reducible refine (later_of _ (own_any a b _)).mono ?_); rintro _ _ ⟨rfl, xo, rfl⟩)
      | (go_at_call 9; (with_reducible refine (own_any a b _).mono ?_); rintro _ _ ⟨rfl, xo, rfl⟩)
      | (go_at_call 9; (with_reducible refine (later_of _ (own_any a' b' _)).mono ?_); rintro _ _ ⟨rfl, xo, rfl⟩)
      | (go_at_call 16; (with_reducible refine (later_of _ (c1 _)).mono ?_); rintro _ _ ⟨rfl, xg, rfl⟩)
      | (go_at_call 8; (with_reducible refine (later_of _ (c2 _)).mono ?_); rintro _ _ ⟨rfl, xg, rfl⟩)
      | (go_at_call 13; (with_reducible refine (later_of _ (c3 _)).mono ?_); rintro _ _ ⟨rfl, xg, rfl⟩)
      | (go_at_call 15; (with_reducible refine (later_of _ (live_any _)).mono ?_); rintro _ _ ⟨rfl, xl, rfl⟩))
    go_ret
    exact Ret.mk rfl xl.boxed3

set_option maxHeartbeats 1000000 in
theorem back_above (x a b a' b' n m V R : Int) (w : World) (k3 : 0 ≤ V) (g1 : 1 ≤ b) (g2 : b ≤ 32) (g3 : 0 ≤ a) (g4 : a ≤ 62 - b) (f1 : 1 ≤ b') (f2 : b' ≤ 32) (f3 : 0 ≤ a') (f4 : a' ≤ 62 - b') (hd1 : ¬ a' < a + b) (c1 : ∀ W : World, Calls Try.prog 16 #[.int .i64 x, .agg #[.int .i64 a, .int .i64 b], .int .i64 n] W (Ret W (.tuple #[.int .i64 V, .int .i64 0]))) (c2 : ∀ W : World, Calls Try.prog 8 #[.int .i64 V, .agg #[.int .i64 a, .int .i64 b]] W (Ret W (.int .i64 n))) (c3 : ∀ W : World, Calls Try.prog 13 #[.agg #[.int .i64 a', .int .i64 b']] W (Ret W (.int .i64 0)))
    (c4 : ∀ W : World, Calls Try.prog 8 #[.int .i64 V, .agg #[.int .i64 a', .int .i64 b']] W (Ret W (.int .i64 R))) (c5 : ∀ W : World, Calls Try.prog 8 #[.int .i64 x, .agg #[.int .i64 a', .int .i64 b']] W (Ret W (.int .i64 R))) :
    Calls Try.prog 4 #[.agg #[.int .i64 x, .int .i64 a, .int .i64 b, .int .i64 a', .int .i64 b', .int .i64 n, .int .i64 m]] w (Ret w (.bool true)) := by
  go_enter Try.func4, Try.ntmps4
  go_wp2
  go_region
  all_goals
    go_wp2_with (first
      | (go_at_call 9; (with_reducible refine (later_of _ (own_any a b _)).mono ?_); rintro _ _ ⟨rfl, xo, rfl⟩)
      | (go_at_call 9; (with_reducible refine (own_any a b _).mono ?_); rintro _ _ ⟨rfl, xo, rfl⟩)
      | (go_at_call 9; (with_reducible refine (later_of _ (own_any a' b' _)).mono ?_); rintro _ _ ⟨rfl, xo, rfl⟩)
      | (go_at_call 16; (with_reducible refine (later_of _ (c1 _)).mono ?_); rintro _ _ ⟨rfl, xg, rfl⟩)
      | (go_at_call 8; (with_reducible refine (later_of _ (c2 _)).mono ?_); rintro _ _ ⟨rfl, xg, rfl⟩)
      | (go_at_call 13; (with_reducible refine (later_of _ (c3 _)).mono ?_); rintro _ _ ⟨rfl, xc, rfl⟩))
    refine wp_region_later' xc (by kernel_rfl) (by kernel_rfl) ?_
    repeat (go_big_quiet_step ((first
      | (go_at_call 9; exact later_of _ (own_any a' b' _))
      | (go_at_call 8; (with_reducible exact later_of _ (c4 _)))
      | (go_at_call 8; (with_reducible exact later_of _ (c5 _)))
      | (go_at_call 15; exact later_of _ (live_any _)))))
    refine wpQuiet_nil ?_
    rintro _ ⟨x5, rfl⟩
    go_wp2
    go_ret
    exact Ret.mk rfl x5.boxed3

set_option maxHeartbeats 1000000 in
theorem back_below (x a b a' b' n m V R : Int) (w : World) (k3 : 0 ≤ V) (g1 : 1 ≤ b) (g2 : b ≤ 32) (g3 : 0 ≤ a) (g4 : a ≤ 62 - b) (f1 : 1 ≤ b') (f2 : b' ≤ 32) (f3 : 0 ≤ a') (f4 : a' ≤ 62 - b') (hd1 : a' < a + b) (hd2 : ¬ a < a' + b') (c1 : ∀ W : World, Calls Try.prog 16 #[.int .i64 x, .agg #[.int .i64 a, .int .i64 b], .int .i64 n] W (Ret W (.tuple #[.int .i64 V, .int .i64 0]))) (c2 : ∀ W : World, Calls Try.prog 8 #[.int .i64 V, .agg #[.int .i64 a, .int .i64 b]] W (Ret W (.int .i64 n))) (c3 : ∀ W : World, Calls Try.prog 13 #[.agg #[.int .i64 a', .int .i64 b']] W (Ret W (.int .i64 0)))
    (c4 : ∀ W : World, Calls Try.prog 8 #[.int .i64 V, .agg #[.int .i64 a', .int .i64 b']] W (Ret W (.int .i64 R))) (c5 : ∀ W : World, Calls Try.prog 8 #[.int .i64 x, .agg #[.int .i64 a', .int .i64 b']] W (Ret W (.int .i64 R))) :
    Calls Try.prog 4 #[.agg #[.int .i64 x, .int .i64 a, .int .i64 b, .int .i64 a', .int .i64 b', .int .i64 n, .int .i64 m]] w (Ret w (.bool true)) := by
  go_enter Try.func4, Try.ntmps4
  go_wp2
  go_region
  all_goals
    go_wp2_with (first
      | (go_at_call 9; (with_reducible refine (later_of _ (own_any a b _)).mono ?_); rintro _ _ ⟨rfl, xo, rfl⟩)
      | (go_at_call 9; (with_reducible refine (own_any a b _).mono ?_); rintro _ _ ⟨rfl, xo, rfl⟩)
      | (go_at_call 9; (with_reducible refine (later_of _ (own_any a' b' _)).mono ?_); rintro _ _ ⟨rfl, xo, rfl⟩)
      | (go_at_call 16; (with_reducible refine (later_of _ (c1 _)).mono ?_); rintro _ _ ⟨rfl, xg, rfl⟩)
      | (go_at_call 8; (with_reducible refine (later_of _ (c2 _)).mono ?_); rintro _ _ ⟨rfl, xg, rfl⟩)
      | (go_at_call 13; (with_reducible refine (later_of _ (c3 _)).mono ?_); rintro _ _ ⟨rfl, xc, rfl⟩))
    refine wp_region_later' xc (by kernel_rfl) (by kernel_rfl) ?_
    repeat (go_big_quiet_step ((first
      | (go_at_call 9; exact later_of _ (own_any a' b' _))
      | (go_at_call 8; (with_reducible exact later_of _ (c4 _)))
      | (go_at_call 8; (with_reducible exact later_of _ (c5 _)))
      | (go_at_call 15; exact later_of _ (live_any _)))))
    refine wpQuiet_nil ?_
    rintro _ ⟨x5, rfl⟩
    go_wp2
    go_ret
    exact Ret.mk rfl x5.boxed3

theorem FieldBack_walk (x a b a' b' n m : Int) (w : World) : Calls Try.prog 4 #[.agg #[.int .i64 x, .int .i64 a, .int .i64 b, .int .i64 a', .int .i64 b', .int .i64 n, .int .i64 m]] w (Ret w (.bool true)) := by
  rcases putE_three x a b n with h | h | h
  · obtain ⟨V, k1, k2, k3, g1, g2, g3, g4, k5⟩ := backs x a b n h
    have c1 := fun W => Put_at a b x n k1 h W
    have c2 := fun W => Get_at a b V k2 W
    by_cases hf : fok a' b' = true
    · obtain ⟨f1, f2, f3, f4⟩ := fok_of hf
      have c3 := fun W => Check_at a' b' (checkF_ok hf) W
      by_cases hd1 : a' < a + b
      · by_cases hd2 : a < a' + b'
        · exact back_share x a b a' b' n m V w k3 g1 g2 g3 g4 f1 f2 f3 f4 hd1 hd2 c1 c2 c3
        · obtain ⟨R, r1, r2⟩ := k5 a' b' hf (by omega)
          exact back_below x a b a' b' n m V R w k3 g1 g2 g3 g4 f1 f2 f3 f4 hd1 hd2 c1 c2 c3 (fun W => Get_at a' b' V r1 W) (fun W => Get_at a' b' x r2 W)
      · obtain ⟨R, r1, r2⟩ := k5 a' b' hf (by omega)
        exact back_above x a b a' b' n m V R w k3 g1 g2 g3 g4 f1 f2 f3 f4 hd1 c1 c2 c3 (fun W => Get_at a' b' V r1 W) (fun W => Get_at a' b' x r2 W)
    · have c3 := fun W => Check_at a' b' (checkF_bad (a := a') (b := b') (by simpa using hf)) W
      exact back_nocheck x a b a' b' n m V w k3 g1 g2 g3 g4 c1 c2 c3
  · exact back_err1 x a b a' b' n m w (fun W => Put_at a b x n (putV_no x a b n (by omega)) h W)
  · exact back_err3 x a b a' b' n m w (fun W => Put_at a b x n (putV_no x a b n (by omega)) h W)
end Go.Proofs.Ytohclplpcnkhbaa
