/-
  The statements of layer 3, walked: each answers true, and leaves alone all that was there.
  Conditions: none.
-/
import Derived.Test.YtmicpfilklmbkaaHandleWalks
namespace Go.Proofs.Ytmicpfilklmbkaa
open Go.RowKit
attribute [local go_sem] Later.cell Later.frozen Later.lt Later.le

theorem Make_at (s g : Int) {v e : Int} (hv : mkV s g = v) (he : mkE s g = e) (w : World) : Calls Try.prog 9 #[.int .i64 s, .int .i64 g] w (Ret w (.tuple #[.int .i64 v, .int .i64 e])) := by rw [← hv, ← he]; exact Make_any s g w
theorem Split_at (h : Int) {a b : Int} {c : Bool} (ha : spS h = a) (hb : spG h = b) (hc : isH h = c) (w : World) : Calls Try.prog 11 #[.int .i64 h] w (Ret w (.tuple #[.int .i64 a, .int .i64 b, .bool c])) := by rw [← ha, ← hb, ← hc]; exact Split_any h w
theorem Of_at (h n : Int) {a b e : Int} (ha : ofS h n = a) (hb : ofG h n = b) (he : ofE h n = e) (w : World) : Calls Try.prog 13 #[.int .i64 h, .int .i64 n] w (Ret w (.tuple #[.int .i64 a, .int .i64 b, .int .i64 e])) := by rw [← ha, ← hb, ← he]; exact Of_any h n w
theorem Round_at (n : Int) {v e : Int} (hv : rdV n = v) (he : rdE n = e) (w : World) : Calls Try.prog 15 #[.int .i64 n] w (Ret w (.tuple #[.int .i64 v, .int .i64 e])) := by rw [← hv, ← he]; exact Round_any n w

theorem live1 (w : World) : Calls Try.prog 9 #[.int .i64 5, .int .i64 7] w (Ret w (.tuple #[.int .i64 1099518967813, .int .i64 0])) := Make_at 5 7 (by decide +kernel) (by decide +kernel) w
theorem live2 (w : World) : Calls Try.prog 11 #[.int .i64 1099518967813] w (Ret w (.tuple #[.int .i64 5, .int .i64 7, .bool true])) := Split_at 1099518967813 (by decide +kernel) (by decide +kernel) (by decide +kernel) w
theorem live3 (w : World) : Calls Try.prog 13 #[.int .i64 1099518967813, .int .i64 5] w (Ret w (.tuple #[.int .i64 0, .int .i64 0, .int .i64 4])) := Of_at 1099518967813 5 (by decide +kernel) (by decide +kernel) (by decide +kernel) w
theorem live4 (w : World) : Calls Try.prog 13 #[.int .i64 1099518967813, .int .i64 6] w (Ret w (.tuple #[.int .i64 5, .int .i64 7, .int .i64 0])) := Of_at 1099518967813 6 (by decide +kernel) (by decide +kernel) (by decide +kernel) w
theorem live5 (w : World) : Calls Try.prog 11 #[.int .i64 5] w (Ret w (.tuple #[.int .i64 0, .int .i64 0, .bool false])) := Split_at 5 (by decide +kernel) (by decide +kernel) (by decide +kernel) w
theorem live6 (w : World) : Calls Try.prog 15 #[.int .i64 9] w (Ret w (.tuple #[.int .i64 16, .int .i64 0])) := Round_at 9 (by decide +kernel) (by decide +kernel) w
theorem live7 (w : World) : Calls Try.prog 15 #[.int .i64 0] w (Ret w (.tuple #[.int .i64 0, .int .i64 9])) := Round_at 0 (by decide +kernel) (by decide +kernel) w
theorem live8 (w : World) : Calls Try.prog 9 #[.int .i64 64, .int .i64 0] w (Ret w (.tuple #[.int .i64 0, .int .i64 1])) := Make_at 64 0 (by decide +kernel) (by decide +kernel) w

set_option maxHeartbeats 1000000 in
theorem live_any (w : World) : Calls Try.prog 17 #[] w (Ret w (.bool true)) := by
  go_enter Try.func17, Try.ntmps17
  go_wp2_with (first
    | (go_at_call 9; (with_reducible refine (live1 _).mono ?_); rintro _ _ ⟨rfl, x, rfl⟩)
    | (go_at_call 11; (with_reducible refine (later_of _ (live2 _)).mono ?_); rintro _ _ ⟨rfl, x, rfl⟩)
    | (go_at_call 13; (with_reducible refine (later_of _ (live3 _)).mono ?_); rintro _ _ ⟨rfl, x, rfl⟩)
    | (go_at_call 13; (with_reducible refine (later_of _ (live4 _)).mono ?_); rintro _ _ ⟨rfl, x, rfl⟩)
    | (go_at_call 11; (with_reducible refine (later_of _ (live5 _)).mono ?_); rintro _ _ ⟨rfl, x, rfl⟩)
    | (go_at_call 15; (with_reducible refine (later_of _ (live6 _)).mono ?_); rintro _ _ ⟨rfl, x, rfl⟩)
    | (go_at_call 15; (with_reducible refine (later_of _ (live7 _)).mono ?_); rintro _ _ ⟨rfl, x, rfl⟩)
    | (go_at_call 9; (with_reducible refine (later_of _ (live8 _)).mono ?_); rintro _ _ ⟨rfl, x, rfl⟩))
  go_ret
  exact Ret.mk rfl x.below

set_option maxHeartbeats 1000000 in
theorem hback_ok_is (s g h A X Y : Int) (w : World) (c1 : ∀ W : World, Calls Try.prog 9 #[.int .i64 s, .int .i64 g] W (Ret W (.tuple #[.int .i64 A, .int .i64 0]))) (c2 : ∀ W : World, Calls Try.prog 11 #[.int .i64 A] W (Ret W (.tuple #[.int .i64 s, .int .i64 g, .bool true]))) (hA : 0 < A) (c3 : ∀ W : World, Calls Try.prog 11 #[.int .i64 h] W (Ret W (.tuple #[.int .i64 X, .int .i64 Y, .bool true]))) (c4 : ∀ W : World, Calls Try.prog 9 #[.int .i64 X, .int .i64 Y] W (Ret W (.tuple #[.int .i64 h, .int .i64 0]))) : Calls Try.prog 4 #[.int .i64 s, .int .i64 g, .int .i64 h] w (Ret w (.bool true)) := by
  go_enter Try.func4, Try.ntmps4
  go_wp2_with (first
    | (go_at_call 9; (with_reducible refine (c1 _).mono ?_); rintro _ _ ⟨rfl, x1, rfl⟩)
    | (go_at_call 11; (with_reducible refine (later_of _ (c2 _)).mono ?_); rintro _ _ ⟨rfl, x1, rfl⟩)
    | (go_at_call 11; (with_reducible refine (later_of _ (c3 _)).mono ?_); rintro _ _ ⟨rfl, x1, rfl⟩)
    | (go_at_call 9; (with_reducible refine (later_of _ (c4 _)).mono ?_); rintro _ _ ⟨rfl, x1, rfl⟩)
    | (go_at_call 17; (with_reducible refine (later_of _ (live_any _)).mono ?_); rintro _ _ ⟨rfl, xl, rfl⟩))
  go_ret
  exact Ret.mk rfl xl.below

set_option maxHeartbeats 1000000 in
theorem hback_ok_no (s g h A : Int) (w : World) (c1 : ∀ W : World, Calls Try.prog 9 #[.int .i64 s, .int .i64 g] W (Ret W (.tuple #[.int .i64 A, .int .i64 0]))) (c2 : ∀ W : World, Calls Try.prog 11 #[.int .i64 A] W (Ret W (.tuple #[.int .i64 s, .int .i64 g, .bool true]))) (hA : 0 < A) (c3 : ∀ W : World, Calls Try.prog 11 #[.int .i64 h] W (Ret W (.tuple #[.int .i64 0, .int .i64 0, .bool false]))) : Calls Try.prog 4 #[.int .i64 s, .int .i64 g, .int .i64 h] w (Ret w (.bool true)) := by
  go_enter Try.func4, Try.ntmps4
  go_wp2_with (first
    | (go_at_call 9; (with_reducible refine (c1 _).mono ?_); rintro _ _ ⟨rfl, x1, rfl⟩)
    | (go_at_call 11; (with_reducible refine (later_of _ (c2 _)).mono ?_); rintro _ _ ⟨rfl, x1, rfl⟩)
    | (go_at_call 11; (with_reducible refine (later_of _ (c3 _)).mono ?_); rintro _ _ ⟨rfl, x1, rfl⟩)
    | (go_at_call 17; (with_reducible refine (later_of _ (live_any _)).mono ?_); rintro _ _ ⟨rfl, xl, rfl⟩))
  go_ret
  exact Ret.mk rfl xl.below

set_option maxHeartbeats 1000000 in
theorem hback_bad_is (s g h X Y : Int) (w : World) (c1 : ∀ W : World, Calls Try.prog 9 #[.int .i64 s, .int .i64 g] W (Ret W (.tuple #[.int .i64 0, .int .i64 1]))) (c3 : ∀ W : World, Calls Try.prog 11 #[.int .i64 h] W (Ret W (.tuple #[.int .i64 X, .int .i64 Y, .bool true]))) (c4 : ∀ W : World, Calls Try.prog 9 #[.int .i64 X, .int .i64 Y] W (Ret W (.tuple #[.int .i64 h, .int .i64 0]))) : Calls Try.prog 4 #[.int .i64 s, .int .i64 g, .int .i64 h] w (Ret w (.bool true)) := by
  go_enter Try.func4, Try.ntmps4
  go_wp2_with (first
    | (go_at_call 9; (with_reducible refine (c1 _).mono ?_); rintro _ _ ⟨rfl, x1, rfl⟩)
    | (go_at_call 11; (with_reducible refine (later_of _ (c3 _)).mono ?_); rintro _ _ ⟨rfl, x1, rfl⟩)
    | (go_at_call 9; (with_reducible refine (later_of _ (c4 _)).mono ?_); rintro _ _ ⟨rfl, x1, rfl⟩)
    | (go_at_call 17; (with_reducible refine (later_of _ (live_any _)).mono ?_); rintro _ _ ⟨rfl, xl, rfl⟩))
  go_ret
  exact Ret.mk rfl xl.below

set_option maxHeartbeats 1000000 in
theorem hback_bad_no (s g h : Int) (w : World) (c1 : ∀ W : World, Calls Try.prog 9 #[.int .i64 s, .int .i64 g] W (Ret W (.tuple #[.int .i64 0, .int .i64 1]))) (c3 : ∀ W : World, Calls Try.prog 11 #[.int .i64 h] W (Ret W (.tuple #[.int .i64 0, .int .i64 0, .bool false]))) : Calls Try.prog 4 #[.int .i64 s, .int .i64 g, .int .i64 h] w (Ret w (.bool true)) := by
  go_enter Try.func4, Try.ntmps4
  go_wp2_with (first
    | (go_at_call 9; (with_reducible refine (c1 _).mono ?_); rintro _ _ ⟨rfl, x1, rfl⟩)
    | (go_at_call 11; (with_reducible refine (later_of _ (c3 _)).mono ?_); rintro _ _ ⟨rfl, x1, rfl⟩)
    | (go_at_call 17; (with_reducible refine (later_of _ (live_any _)).mono ?_); rintro _ _ ⟨rfl, xl, rfl⟩))
  go_ret
  exact Ret.mk rfl xl.below

theorem HandleBack_walk (s g h : Int) (w : World) : Calls Try.prog 4 #[.int .i64 s, .int .i64 g, .int .i64 h] w (Ret w (.bool true)) := by
  cases hp : mkP s g
  · have c1 := fun W => Make_at s g (mkV_bad hp) (mkE_bad hp) W
    cases hi : isH h
    · exact hback_bad_no s g h w c1 (fun W => Split_at h (spS_bad hi) (spG_bad hi) hi W)
    · obtain ⟨k, e⟩ := made_split hi
      exact hback_bad_is s g h _ _ w c1 (fun W => Split_at h (spS_ok hi) (spG_ok hi) hi W) (fun W => Make_at _ _ e (mkE_ok k) W)
  · obtain ⟨i1, i2, i3⟩ := split_made hp
    have hb := made_bd hp
    have c1 := fun W => Make_at s g rfl (mkE_ok hp) W
    have c2 := fun W => Split_at (mkV s g) ((spS_ok i1).trans i2) ((spG_ok i1).trans i3) i1 W
    cases hi : isH h
    · exact hback_ok_no s g h _ w c1 c2 (by omega) (fun W => Split_at h (spS_bad hi) (spG_bad hi) hi W)
    · obtain ⟨k, e⟩ := made_split hi
      exact hback_ok_is s g h _ _ _ w c1 c2 (by omega) (fun W => Split_at h (spS_ok hi) (spG_ok hi) hi W) (fun W => Make_at _ _ e (mkE_ok k) W)

set_option maxHeartbeats 1000000 in
theorem hround_ok (n R : Int) (w : World) (c1 : ∀ W : World, Calls Try.prog 15 #[.int .i64 n] W (Ret W (.tuple #[.int .i64 R, .int .i64 0]))) (c2 : ∀ W : World, Calls Try.prog 15 #[.int .i64 R] W (Ret W (.tuple #[.int .i64 R, .int .i64 0]))) (h1 : n ≤ R) (h2 : R < n + 8) (h3 : R % 8 = 0) (h4 : 1 ≤ n) (h5 : n ≤ 256) : Calls Try.prog 6 #[.int .i64 n] w (Ret w (.bool true)) := by
  go_enter Try.func6, Try.ntmps6
  go_wp2_with (first
    | (go_at_call 15; (with_reducible refine (c1 _).mono ?_); rintro _ _ ⟨rfl, x1, rfl⟩)
    | (go_at_call 15; (with_reducible refine (later_of _ (c2 _)).mono ?_); rintro _ _ ⟨rfl, x1, rfl⟩)
    | (go_at_call 17; (with_reducible refine (later_of _ (live_any _)).mono ?_); rintro _ _ ⟨rfl, xl, rfl⟩))
  go_ret
  exact Ret.mk rfl xl.below

set_option maxHeartbeats 1000000 in
theorem hround_low (n : Int) (w : World) (c1 : ∀ W : World, Calls Try.prog 15 #[.int .i64 n] W (Ret W (.tuple #[.int .i64 0, .int .i64 9]))) (h : n < 1) : Calls Try.prog 6 #[.int .i64 n] w (Ret w (.bool true)) := by
  go_enter Try.func6, Try.ntmps6
  go_wp2_with (first
    | (go_at_call 15; (with_reducible refine (c1 _).mono ?_); rintro _ _ ⟨rfl, x1, rfl⟩)
    | (go_at_call 17; (with_reducible refine (later_of _ (live_any _)).mono ?_); rintro _ _ ⟨rfl, xl, rfl⟩))
  go_ret
  exact Ret.mk rfl xl.below

set_option maxHeartbeats 1000000 in
theorem hround_high (n : Int) (w : World) (c1 : ∀ W : World, Calls Try.prog 15 #[.int .i64 n] W (Ret W (.tuple #[.int .i64 0, .int .i64 9]))) (h : 256 < n) : Calls Try.prog 6 #[.int .i64 n] w (Ret w (.bool true)) := by
  go_enter Try.func6, Try.ntmps6
  go_wp2_with (first
    | (go_at_call 15; (with_reducible refine (c1 _).mono ?_); rintro _ _ ⟨rfl, x1, rfl⟩)
    | (go_at_call 17; (with_reducible refine (later_of _ (live_any _)).mono ?_); rintro _ _ ⟨rfl, xl, rfl⟩))
  go_ret
  exact Ret.mk rfl xl.below

theorem HandleRounds_walk (n : Int) (w : World) : Calls Try.prog 6 #[.int .i64 n] w (Ret w (.bool true)) := by
  cases hp : rdB n
  · have c1 := fun W => Round_at n (rdV_bad hp) (rdE_bad hp) W
    by_cases h1 : n < 1
    · exact hround_low n w c1 h1
    · refine hround_high n w c1 ?_
      by_cases h2 : n ≤ 256
      · rw [rdB_true ⟨by omega, h2⟩] at hp; cases hp
      · omega
  · obtain ⟨k1, k2, k3, k4, k5⟩ := rounded hp
    have hb := rdB_of hp
    exact hround_ok n _ w (fun W => Round_at n rfl (rdE_ok hp) W) (fun W => Round_at _ k5 (rdE_ok k4) W) k1 k2 k3 hb.1 hb.2

set_option maxHeartbeats 1000000 in
theorem hslots_less (h n m : Int) (w : World) (h1 : m < n) : Calls Try.prog 7 #[.int .i64 h, .int .i64 n, .int .i64 m] w (Ret w (.bool true)) := by
  go_enter Try.func7, Try.ntmps7
  go_wp2_with (first
    | (go_at_call 17; (with_reducible refine (live_any _).mono ?_); rintro _ _ ⟨rfl, xl, rfl⟩))
  go_ret
  exact Ret.mk rfl xl.below

set_option maxHeartbeats 1000000 in
theorem hslots_stale (h n m : Int) (w : World) (h1 : ¬ m < n) (c1 : ∀ W : World, Calls Try.prog 13 #[.int .i64 h, .int .i64 n] W (Ret W (.tuple #[.int .i64 0, .int .i64 0, .int .i64 4]))) : Calls Try.prog 7 #[.int .i64 h, .int .i64 n, .int .i64 m] w (Ret w (.bool true)) := by
  go_enter Try.func7, Try.ntmps7
  go_wp2_with (first
    | (go_at_call 13; (with_reducible refine (c1 _).mono ?_); rintro _ _ ⟨rfl, x1, rfl⟩)
    | (go_at_call 17; (with_reducible refine (later_of _ (live_any _)).mono ?_); rintro _ _ ⟨rfl, xl, rfl⟩))
  go_ret
  exact Ret.mk rfl xl.below

set_option maxHeartbeats 1000000 in
theorem hslots_ok (h n m X Y : Int) (w : World) (h1 : ¬ m < n) (c1 : ∀ W : World, Calls Try.prog 13 #[.int .i64 h, .int .i64 n] W (Ret W (.tuple #[.int .i64 X, .int .i64 Y, .int .i64 0]))) (c2 : ∀ W : World, Calls Try.prog 13 #[.int .i64 h, .int .i64 m] W (Ret W (.tuple #[.int .i64 X, .int .i64 Y, .int .i64 0]))) (h2 : X < n) : Calls Try.prog 7 #[.int .i64 h, .int .i64 n, .int .i64 m] w (Ret w (.bool true)) := by
  go_enter Try.func7, Try.ntmps7
  go_wp2_with (first
    | (go_at_call 13; (with_reducible refine (c1 _).mono ?_); rintro _ _ ⟨rfl, x1, rfl⟩)
    | (go_at_call 13; (with_reducible refine (later_of _ (c2 _)).mono ?_); rintro _ _ ⟨rfl, x1, rfl⟩)
    | (go_at_call 17; (with_reducible refine (later_of _ (live_any _)).mono ?_); rintro _ _ ⟨rfl, xl, rfl⟩))
  go_ret
  exact Ret.mk rfl xl.below

theorem HandleSlots_walk (h n m : Int) (w : World) : Calls Try.prog 7 #[.int .i64 h, .int .i64 n, .int .i64 m] w (Ret w (.bool true)) := by
  by_cases h1 : m < n
  · exact hslots_less h n m w h1
  · cases hp : ofB h n
    · exact hslots_stale h n m w h1 (fun W => Of_at h n (ofS_bad hp) (ofG_bad hp) (ofE_bad hp) W)
    · have hp' := hp
      unfold ofB at hp'
      simp only [Bool.and_eq_true, decide_eq_true_eq] at hp'
      have hq : ofB h m = true := by
        unfold ofB
        rw [hp'.1]
        simp only [Bool.true_and, decide_eq_true_eq]
        omega
      exact hslots_ok h n m _ _ w h1 (fun W => Of_at h n (ofS_ok hp) (ofG_ok hp) (ofE_ok hp) W) (fun W => Of_at h m (ofS_ok hq) (ofG_ok hq) (ofE_ok hq) W) hp'.2

set_option maxHeartbeats 1000000 in
theorem horder_a (s g t B E : Int) (w : World) (c1 : ∀ W : World, Calls Try.prog 9 #[.int .i64 s, .int .i64 g] W (Ret W (.tuple #[.int .i64 0, .int .i64 1]))) (c2 : ∀ W : World, Calls Try.prog 9 #[.int .i64 s, .int .i64 t] W (Ret W (.tuple #[.int .i64 B, .int .i64 E]))) : Calls Try.prog 8 #[.int .i64 s, .int .i64 g, .int .i64 t] w (Ret w (.bool true)) := by
  go_enter Try.func8, Try.ntmps8
  go_wp2_with (first
    | (go_at_call 9; (with_reducible refine (c1 _).mono ?_); rintro _ _ ⟨rfl, x1, rfl⟩)
    | (go_at_call 9; (with_reducible refine (later_of _ (c2 _)).mono ?_); rintro _ _ ⟨rfl, x1, rfl⟩)
    | (go_at_call 17; (with_reducible refine (later_of _ (live_any _)).mono ?_); rintro _ _ ⟨rfl, xl, rfl⟩))
  go_ret
  exact Ret.mk rfl xl.below

set_option maxHeartbeats 1000000 in
theorem horder_b (s g t A : Int) (w : World) (c1 : ∀ W : World, Calls Try.prog 9 #[.int .i64 s, .int .i64 g] W (Ret W (.tuple #[.int .i64 A, .int .i64 0]))) (c2 : ∀ W : World, Calls Try.prog 9 #[.int .i64 s, .int .i64 t] W (Ret W (.tuple #[.int .i64 0, .int .i64 1]))) : Calls Try.prog 8 #[.int .i64 s, .int .i64 g, .int .i64 t] w (Ret w (.bool true)) := by
  go_enter Try.func8, Try.ntmps8
  go_wp2_with (first
    | (go_at_call 9; (with_reducible refine (c1 _).mono ?_); rintro _ _ ⟨rfl, x1, rfl⟩)
    | (go_at_call 9; (with_reducible refine (later_of _ (c2 _)).mono ?_); rintro _ _ ⟨rfl, x1, rfl⟩)
    | (go_at_call 17; (with_reducible refine (later_of _ (live_any _)).mono ?_); rintro _ _ ⟨rfl, xl, rfl⟩))
  go_ret
  exact Ret.mk rfl xl.below

set_option maxHeartbeats 1000000 in
theorem horder_lt (s g t A B : Int) (w : World) (c1 : ∀ W : World, Calls Try.prog 9 #[.int .i64 s, .int .i64 g] W (Ret W (.tuple #[.int .i64 A, .int .i64 0]))) (c2 : ∀ W : World, Calls Try.prog 9 #[.int .i64 s, .int .i64 t] W (Ret W (.tuple #[.int .i64 B, .int .i64 0]))) (h1 : A < B) (h2 : g < t) : Calls Try.prog 8 #[.int .i64 s, .int .i64 g, .int .i64 t] w (Ret w (.bool true)) := by
  go_enter Try.func8, Try.ntmps8
  go_wp2_with (first
    | (go_at_call 9; (with_reducible refine (c1 _).mono ?_); rintro _ _ ⟨rfl, x1, rfl⟩)
    | (go_at_call 9; (with_reducible refine (later_of _ (c2 _)).mono ?_); rintro _ _ ⟨rfl, x1, rfl⟩)
    | (go_at_call 17; (with_reducible refine (later_of _ (live_any _)).mono ?_); rintro _ _ ⟨rfl, xl, rfl⟩))
  go_ret
  exact Ret.mk rfl xl.below

set_option maxHeartbeats 1000000 in
theorem horder_ge (s g t A B : Int) (w : World) (c1 : ∀ W : World, Calls Try.prog 9 #[.int .i64 s, .int .i64 g] W (Ret W (.tuple #[.int .i64 A, .int .i64 0]))) (c2 : ∀ W : World, Calls Try.prog 9 #[.int .i64 s, .int .i64 t] W (Ret W (.tuple #[.int .i64 B, .int .i64 0]))) (h1 : ¬ A < B) (h2 : ¬ g < t) : Calls Try.prog 8 #[.int .i64 s, .int .i64 g, .int .i64 t] w (Ret w (.bool true)) := by
  go_enter Try.func8, Try.ntmps8
  go_wp2_with (first
    | (go_at_call 9; (with_reducible refine (c1 _).mono ?_); rintro _ _ ⟨rfl, x1, rfl⟩)
    | (go_at_call 9; (with_reducible refine (later_of _ (c2 _)).mono ?_); rintro _ _ ⟨rfl, x1, rfl⟩)
    | (go_at_call 17; (with_reducible refine (later_of _ (live_any _)).mono ?_); rintro _ _ ⟨rfl, xl, rfl⟩))
  go_ret
  exact Ret.mk rfl xl.below

theorem HandleOrder_walk (s g t : Int) (w : World) : Calls Try.prog 8 #[.int .i64 s, .int .i64 g, .int .i64 t] w (Ret w (.bool true)) := by
  cases hp : mkP s g
  · exact horder_a s g t _ _ w (fun W => Make_at s g (mkV_bad hp) (mkE_bad hp) W) (fun W => Make_at s t rfl rfl W)
  · cases hq : mkP s t
    · exact horder_b s g t _ w (fun W => Make_at s g rfl (mkE_ok hp) W) (fun W => Make_at s t (mkV_bad hq) (mkE_bad hq) W)
    · have e1 := mkV_ok hp
      have e2 := mkV_ok hq
      by_cases hlt : g < t
      · exact horder_lt s g t _ _ w (fun W => Make_at s g rfl (mkE_ok hp) W) (fun W => Make_at s t rfl (mkE_ok hq) W) (by omega) hlt
      · exact horder_ge s g t _ _ w (fun W => Make_at s g rfl (mkE_ok hp) W) (fun W => Make_at s t rfl (mkE_ok hq) W) (by omega) hlt

set_option maxHeartbeats 1000000 in
theorem hapart_a (s g h n B E : Int) (w : World) (c1 : ∀ W : World, Calls Try.prog 9 #[.int .i64 s, .int .i64 g] W (Ret W (.tuple #[.int .i64 0, .int .i64 1]))) (c2 : ∀ W : World, Calls Try.prog 9 #[.int .i64 h, .int .i64 n] W (Ret W (.tuple #[.int .i64 B, .int .i64 E]))) : Calls Try.prog 5 #[.agg #[.int .i64 s, .int .i64 g, .int .i64 h, .int .i64 n]] w (Ret w (.bool true)) := by
  go_enter Try.func5, Try.ntmps5
  go_wp2
  go_quiet (fail)
  go_wp2_with (first
    | (go_at_call 9; (with_reducible refine (c1 _).mono ?_); rintro _ _ ⟨rfl, x1, rfl⟩)
    | (go_at_call 9; (with_reducible refine (later_of _ (c2 _)).mono ?_); rintro _ _ ⟨rfl, x1, rfl⟩)
    | (go_at_call 17; (with_reducible refine (later_of _ (live_any _)).mono ?_); rintro _ _ ⟨rfl, xl, rfl⟩))
  go_ret
  exact Ret.mk rfl xl.boxedN

set_option maxHeartbeats 1000000 in
theorem hapart_b (s g h n A : Int) (w : World) (c1 : ∀ W : World, Calls Try.prog 9 #[.int .i64 s, .int .i64 g] W (Ret W (.tuple #[.int .i64 A, .int .i64 0]))) (c2 : ∀ W : World, Calls Try.prog 9 #[.int .i64 h, .int .i64 n] W (Ret W (.tuple #[.int .i64 0, .int .i64 1]))) : Calls Try.prog 5 #[.agg #[.int .i64 s, .int .i64 g, .int .i64 h, .int .i64 n]] w (Ret w (.bool true)) := by
  go_enter Try.func5, Try.ntmps5
  go_wp2
  go_quiet (fail)
  go_wp2_with (first
    | (go_at_call 9; (with_reducible refine (c1 _).mono ?_); rintro _ _ ⟨rfl, x1, rfl⟩)
    | (go_at_call 9; (with_reducible refine (later_of _ (c2 _)).mono ?_); rintro _ _ ⟨rfl, x1, rfl⟩)
    | (go_at_call 17; (with_reducible refine (later_of _ (live_any _)).mono ?_); rintro _ _ ⟨rfl, xl, rfl⟩))
  go_ret
  exact Ret.mk rfl xl.boxedN

set_option maxHeartbeats 1000000 in
theorem hapart_same (s g A : Int) (w : World) (c1 : ∀ W : World, Calls Try.prog 9 #[.int .i64 s, .int .i64 g] W (Ret W (.tuple #[.int .i64 A, .int .i64 0]))) : Calls Try.prog 5 #[.agg #[.int .i64 s, .int .i64 g, .int .i64 s, .int .i64 g]] w (Ret w (.bool true)) := by
  go_enter Try.func5, Try.ntmps5
  go_wp2
  go_quiet (fail)
  go_wp2_with (first
    | (go_at_call 9; (with_reducible refine (later_of _ (c1 _)).mono ?_); rintro _ _ ⟨rfl, x1, rfl⟩)
    | (go_at_call 9; (with_reducible refine (c1 _).mono ?_); rintro _ _ ⟨rfl, x1, rfl⟩)
    | (go_at_call 17; (with_reducible refine (later_of _ (live_any _)).mono ?_); rintro _ _ ⟨rfl, xl, rfl⟩))
  go_ret
  exact Ret.mk rfl xl.boxedN

set_option maxHeartbeats 1000000 in
theorem hapart_slot (s g h n A B : Int) (w : World) (c1 : ∀ W : World, Calls Try.prog 9 #[.int .i64 s, .int .i64 g] W (Ret W (.tuple #[.int .i64 A, .int .i64 0]))) (c2 : ∀ W : World, Calls Try.prog 9 #[.int .i64 h, .int .i64 n] W (Ret W (.tuple #[.int .i64 B, .int .i64 0]))) (h1 : (A == B) = false) (h2 : (s == h) = false) : Calls Try.prog 5 #[.agg #[.int .i64 s, .int .i64 g, .int .i64 h, .int .i64 n]] w (Ret w (.bool true)) := by
  go_enter Try.func5, Try.ntmps5
  go_wp2
  go_quiet (fail)
  go_wp2_with (first
    | (go_at_call 9; (with_reducible refine (c1 _).mono ?_); rintro _ _ ⟨rfl, x1, rfl⟩)
    | (go_at_call 9; (with_reducible refine (later_of _ (c2 _)).mono ?_); rintro _ _ ⟨rfl, x1, rfl⟩)
    | (go_at_call 17; (with_reducible refine (later_of _ (live_any _)).mono ?_); rintro _ _ ⟨rfl, xl, rfl⟩))
  go_ret
  exact Ret.mk rfl xl.boxedN

set_option maxHeartbeats 1000000 in
theorem hapart_gen (s g n A B : Int) (w : World) (c1 : ∀ W : World, Calls Try.prog 9 #[.int .i64 s, .int .i64 g] W (Ret W (.tuple #[.int .i64 A, .int .i64 0]))) (c2 : ∀ W : World, Calls Try.prog 9 #[.int .i64 s, .int .i64 n] W (Ret W (.tuple #[.int .i64 B, .int .i64 0]))) (h1 : (A == B) = false) (h2 : (g == n) = false) : Calls Try.prog 5 #[.agg #[.int .i64 s, .int .i64 g, .int .i64 s, .int .i64 n]] w (Ret w (.bool true)) := by
  go_enter Try.func5, Try.ntmps5
  go_wp2
  go_quiet (fail)
  go_wp2_with (first
    | (go_at_call 9; (with_reducible refine (c1 _).mono ?_); rintro _ _ ⟨rfl, x1, rfl⟩)
    | (go_at_call 9; (with_reducible refine (later_of _ (c2 _)).mono ?_); rintro _ _ ⟨rfl, x1, rfl⟩)
    | (go_at_call 17; (with_reducible refine (later_of _ (live_any _)).mono ?_); rintro _ _ ⟨rfl, xl, rfl⟩))
  go_ret
  exact Ret.mk rfl xl.boxedN

theorem HandleApart_walk (s g h n : Int) (w : World) : Calls Try.prog 5 #[.agg #[.int .i64 s, .int .i64 g, .int .i64 h, .int .i64 n]] w (Ret w (.bool true)) := by
  cases hp : mkP s g
  · exact hapart_a s g h n _ _ w (fun W => Make_at s g (mkV_bad hp) (mkE_bad hp) W) (fun W => Make_at h n rfl rfl W)
  · cases hq : mkP h n
    · exact hapart_b s g h n _ w (fun W => Make_at s g rfl (mkE_ok hp) W) (fun W => Make_at h n (mkV_bad hq) (mkE_bad hq) W)
    · have hi := made_inj hp hq
      have c1 := fun W => Make_at s g rfl (mkE_ok hp) W
      have c2 := fun W => Make_at h n rfl (mkE_ok hq) W
      by_cases h1 : s = h
      · subst h1
        by_cases h2 : g = n
        · subst h2
          exact hapart_same s g _ w c1
        · exact hapart_gen s g n _ _ w c1 c2 (by simpa using fun k => h2 (hi.1 k).2) (by simpa using h2)
      · exact hapart_slot s g h n _ _ w c1 c2 (by simpa using fun k => h1 (hi.1 k).1) (by simpa using h1)

set_option maxHeartbeats 1000000 in
theorem HandleTells_walk (s g h n : Int) (w : World) : Calls Try.prog 3 #[.agg #[.int .i64 s, .int .i64 g, .int .i64 h, .int .i64 n]] w (Ret w (.bool true)) := by
  have c1 := Make_any s g
  have c2 := refMake_any s g
  have c3 := Split_any h
  have c4 := refSplit_any h
  have c5 := Of_any h n
  have c6 := refOf_any h n
  have c7 := Round_any n
  have c8 := refRound_any n
  generalize mkV s g = v1 at c1 c2
  generalize mkE s g = v2 at c1 c2
  generalize spS h = v3 at c3 c4
  generalize spG h = v4 at c3 c4
  generalize isH h = v5 at c3 c4
  generalize ofS h n = v6 at c5 c6
  generalize ofG h n = v7 at c5 c6
  generalize ofE h n = v8 at c5 c6
  generalize rdV n = v9 at c7 c8
  generalize rdE n = v10 at c7 c8
  go_enter Try.func3, Try.ntmps3
  go_wp2
  go_quiet (fail)
  go_wp2_with (first
    | (go_at_call 9; (with_reducible refine (c1 _).mono ?_); rintro _ _ ⟨rfl, x1, rfl⟩)
    | (go_at_call 10; (with_reducible refine (c2 _).mono ?_); rintro _ _ ⟨rfl, rfl⟩)
    | (go_at_call 11; (with_reducible refine (later_of _ (c3 _)).mono ?_); rintro _ _ ⟨rfl, x1, rfl⟩)
    | (go_at_call 12; (with_reducible refine (c4 _).mono ?_); rintro _ _ ⟨rfl, rfl⟩)
    | (go_at_call 13; (with_reducible refine (later_of _ (c5 _)).mono ?_); rintro _ _ ⟨rfl, x1, rfl⟩)
    | (go_at_call 14; (with_reducible refine (c6 _).mono ?_); rintro _ _ ⟨rfl, rfl⟩)
    | (go_at_call 15; (with_reducible refine (later_of _ (c7 _)).mono ?_); rintro _ _ ⟨rfl, x1, rfl⟩)
    | (go_at_call 16; (with_reducible refine (c8 _).mono ?_); rintro _ _ ⟨rfl, rfl⟩)
    | (go_at_call 17; (with_reducible refine (later_of _ (live_any _)).mono ?_); rintro _ _ ⟨rfl, xl, rfl⟩))
  go_ret
  exact Ret.mk rfl xl.boxedN
end Go.Proofs.Ytmicpfilklmbkaa
