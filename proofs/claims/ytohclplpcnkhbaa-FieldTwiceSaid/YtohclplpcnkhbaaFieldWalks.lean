/-
  What each call of package field answers, at every input, and that it leaves alone all that was there.
  Conditions: of the methods that shift, that the field may be and the word is one; the package's own calls have none.
-/
import Derived.Test.YtohclplpcnkhbaaProg
import Derived.Test.YtohclplpcnkhbaaLater
import Derived.Test.YtohclplpcnkhbaaFieldMath
import Derived.WalkKit
import Derived.WalkSpells
import Derived.WalkLawsBesides
import Derived.Lib.Hide
import Derived.BigQuiet
import Derived.Deep.DrawnRows
namespace Go.Proofs.Ytohclplpcnkhbaa
open Go.RowKit
attribute [local go_sem] Later.cell Later.frozen Later.lt Later.le
attribute [local go_sem ↓] Go.wp_at_zero Go.wp_at_succ

theorem int_eq {k : IntKind} {a b : Int} (h : a = b) : Value.int k a = .int k b := by rw [h]
theorem two_eq {k : IntKind} {a b c d : Int} (h : a = b) (h' : c = d) : Value.tuple #[.int k a, .int k c] = .tuple #[.int k b, .int k d] := by rw [h, h']
theorem bool_eq {a b : Bool} (h : a = b) : Value.bool a = .bool b := by rw [h]

theorem isWord_any (x : Int) (w : World) :
    Calls Try.prog 19 #[.int .i64 x] w fun e w' => e = .returned (.bool (isw x)) ∧ w = w' := by
  by_cases h0 : 0 ≤ x
  · by_cases h1 : x ≤ 4611686018427387903
    · go_enter Try.func19, Try.ntmps19
      go_wp2
      go_ret
      exact ⟨by rw [isw_true h0 h1]; rfl, rfl⟩
    · go_enter Try.func19, Try.ntmps19
      go_wp2
      go_ret
      exact ⟨by rw [isw_false (by omega)]; rfl, rfl⟩
  · go_enter Try.func19, Try.ntmps19
    go_wp2
    go_ret
    exact ⟨by rw [isw_false (by omega)]; rfl, rfl⟩

theorem mayBe_any (a b : Int) (w : World) :
    Calls Try.prog 20 #[.agg #[.int .i64 a, .int .i64 b]] w (Ret w (.bool (fok a b))) := by
  by_cases h1 : 1 ≤ b
  · by_cases h2 : b ≤ 32
    · by_cases h3 : 0 ≤ a
      · by_cases h4 : a ≤ 62 - b
        · go_enter Try.func20, Try.ntmps20
          go_wp2
          go_ret
          exact Ret.mk (bool_eq (by rw [fok_true h1 h2 h3 h4])) ((Below.refl _ _).alloc (Nat.le_refl _) _)
        · go_enter Try.func20, Try.ntmps20
          go_wp2
          go_ret
          exact Ret.mk (bool_eq (by rw [fok_false (by omega)])) ((Below.refl _ _).alloc (Nat.le_refl _) _)
      · go_enter Try.func20, Try.ntmps20
        go_wp2
        go_ret
        exact Ret.mk (bool_eq (by rw [fok_false (by omega)])) ((Below.refl _ _).alloc (Nat.le_refl _) _)
    · go_enter Try.func20, Try.ntmps20
      go_wp2
      go_ret
      exact Ret.mk (bool_eq (by rw [fok_false (by omega)])) ((Below.refl _ _).alloc (Nat.le_refl _) _)
  · go_enter Try.func20, Try.ntmps20
    go_wp2
    go_ret
    exact Ret.mk (bool_eq (by rw [fok_false (by omega)])) ((Below.refl _ _).alloc (Nat.le_refl _) _)

theorem most_any (a b : Int) (w : World) (h1 : 1 ≤ b) (h2 : b ≤ 32) :
    Calls Try.prog 24 #[.agg #[.int .i64 a, .int .i64 b]] w (Ret w (.int .i64 (tw b - 1))) := by
  go_enter Try.func24, Try.ntmps24
  go_wp2
  go_ret
  exact Ret.mk (int_eq (tw_most (by omega))) ((Below.refl _ _).alloc (Nat.le_refl _) _)

theorem get_any (a b x : Int) (w : World) (h1 : 1 ≤ b) (h2 : b ≤ 32) (h3 : 0 ≤ a) (h4 : a ≤ 62 - b) (h5 : 0 ≤ x) (h6 : x ≤ 4611686018427387903) :
    Calls Try.prog 21 #[.agg #[.int .i64 a, .int .i64 b], .int .i64 x] w (Ret w (.int .i64 (fget x a b))) := by
  have hm := tw_b h2
  go_enter Try.func21, Try.ntmps21
  go_wp2
  refine wp_region_later (by kernel_rfl) (by kernel_rfl) ?_
  repeat (go_big_quiet_step ((go_at_call 24; exact later_of _ (most_any a b _ h1 h2))))
  refine wpQuiet_nil ?_
  rintro _ ⟨x1, rfl⟩
  go_wp2
  go_ret
  exact Ret.mk (int_eq (and_mask h2 h5 h6 (by omega) h3)) x1.boxed

theorem below_any (a b x n : Int) (w : World) (h1 : 1 ≤ b) (h2 : b ≤ 32) (h3 : 0 ≤ a) (h4 : a ≤ 62 - b) (h5 : 0 ≤ x) (h6 : x ≤ 4611686018427387903) :
    Calls Try.prog 29 #[.agg #[.int .i64 a, .int .i64 b], .int .i64 x, .int .i64 n] w (Ret w (.bool (decide (n < -fget x a b)))) := by
  have hm := tw_b h2
  have hg := fget_bd x a b
  go_enter Try.func29, Try.ntmps29
  go_wp2_with (go_at_call 21; refine (get_any a b x _ h1 h2 h3 h4 h5 h6).mono ?_; rintro _ _ ⟨rfl, x1, rfl⟩)
  go_ret
  exact Ret.mk rfl x1.boxed

theorem above_any (a b x n : Int) (w : World) (h1 : 1 ≤ b) (h2 : b ≤ 32) (h3 : 0 ≤ a) (h4 : a ≤ 62 - b) (h5 : 0 ≤ x) (h6 : x ≤ 4611686018427387903) :
    Calls Try.prog 30 #[.agg #[.int .i64 a, .int .i64 b], .int .i64 x, .int .i64 n] w (Ret w (.bool (decide (tw b - 1 - fget x a b < n)))) := by
  have hm := tw_b h2
  have hg := fget_bd x a b
  go_enter Try.func30, Try.ntmps30
  go_wp2
  refine wp_region_later (by kernel_rfl) (by kernel_rfl) ?_
  repeat (go_big_quiet_step ((first
    | (go_at_call 24; exact later_of _ (most_any a b _ h1 h2))
    | (go_at_call 21; exact later_of _ (get_any a b x _ h1 h2 h3 h4 h5 h6)))))
  refine wpQuiet_nil ?_
  rintro _ ⟨x1, rfl⟩
  go_wp2
  go_ret
  exact Ret.mk rfl x1.boxed

theorem put_any (a b x n : Int) (w : World) (h1 : 1 ≤ b) (h2 : b ≤ 32) (h3 : 0 ≤ a) (h4 : a ≤ 62 - b) (h5 : 0 ≤ x) (h6 : x ≤ 4611686018427387903) :
    Calls Try.prog 26 #[.agg #[.int .i64 a, .int .i64 b], .int .i64 x, .int .i64 n] w (Ret w (.tuple #[.int .i64 (putV x a b n), .int .i64 (putE b n)])) := by
  have hm := tw_b h2
  by_cases hn : n < 0
  · go_enter Try.func26, Try.ntmps26
    go_wp2
    go_ret2
    exact Ret.mk (two_eq (putV_neg (by omega)).symm (putE_neg (by omega)).symm) ((Below.refl _ _).alloc (Nat.le_refl _) _)
  · by_cases ho : tw b - 1 < n
    · go_enter Try.func26, Try.ntmps26
      go_wp2_with (go_at_call 24; refine (most_any a b _ h1 h2).mono ?_; rintro _ _ ⟨rfl, x1, rfl⟩)
      go_ret2
      exact Ret.mk (two_eq (putV_over (by omega) (by omega)).symm (putE_over (by omega) (by omega)).symm) x1.boxed
    · go_enter Try.func26, Try.ntmps26
      go_wp2_with (go_at_call 24; refine (most_any a b _ h1 h2).mono ?_; rintro _ _ ⟨rfl, x1, rfl⟩)
      refine wp_region_later' x1 (by kernel_rfl) (by kernel_rfl) ?_
      repeat (go_big_quiet_step ((go_at_call 24; exact later_of _ (most_any a b _ h1 h2))))
      refine wpQuiet_nil ?_
      rintro _ ⟨x2, rfl⟩
      go_wp2
      go_ret2
      exact Ret.mk (two_eq ((or_put h1 h2 h3 h4 h5 h6 (by omega) (by omega)).trans (putV_ok (by omega) (by omega)).symm) (putE_ok (by omega) (by omega)).symm) x2.boxed

theorem add_any (a b x n : Int) (w : World) (h1 : 1 ≤ b) (h2 : b ≤ 32) (h3 : 0 ≤ a) (h4 : a ≤ 62 - b) (h5 : 0 ≤ x) (h6 : x ≤ 4611686018427387903) :
    Calls Try.prog 27 #[.agg #[.int .i64 a, .int .i64 b], .int .i64 x, .int .i64 n] w (Ret w (.tuple #[.int .i64 (addV x a b n), .int .i64 (addE x a b n)])) := by
  have hm := tw_b h2
  have hg := fget_bd x a b
  by_cases hn : n < -fget x a b
  · go_enter Try.func27, Try.ntmps27
    go_wp2_with (go_at_call 29; refine (below_any a b x n _ h1 h2 h3 h4 h5 h6).mono ?_; rintro _ _ ⟨rfl, x1, rfl⟩)
    go_ret2
    exact Ret.mk (two_eq (addV_low (by omega)).symm (addE_low (by omega)).symm) x1.boxed
  · by_cases ho : tw b - 1 - fget x a b < n
    · go_enter Try.func27, Try.ntmps27
      go_wp2_with (first | (go_at_call 29; refine (below_any a b x n _ h1 h2 h3 h4 h5 h6).mono ?_; rintro _ _ ⟨rfl, x1, rfl⟩) | (go_at_call 30; refine (later_of _ (above_any a b x n _ h1 h2 h3 h4 h5 h6)).mono ?_; rintro _ _ ⟨rfl, x2, rfl⟩))
      go_ret2
      exact Ret.mk (two_eq (addV_over (by omega) (by omega)).symm (addE_over (by omega) (by omega)).symm) x2.boxed
    · go_enter Try.func27, Try.ntmps27
      go_wp2_with (first | (go_at_call 29; refine (below_any a b x n _ h1 h2 h3 h4 h5 h6).mono ?_; rintro _ _ ⟨rfl, x1, rfl⟩) | (go_at_call 30; refine (later_of _ (above_any a b x n _ h1 h2 h3 h4 h5 h6)).mono ?_; rintro _ _ ⟨rfl, x2, rfl⟩))
      refine wp_region_later' x2 (by kernel_rfl) (by kernel_rfl) ?_
      repeat (go_big_quiet_step ((first
        | (go_at_call 21; exact later_of _ (get_any a b x _ h1 h2 h3 h4 h5 h6))
        | (go_at_call 26; exact later_of _ (put_any a b x _ _ h1 h2 h3 h4 h5 h6)))))
      refine wpQuiet_nil ?_
      rintro _ ⟨x3, rfl⟩
      go_wp2
      go_ret2
      exact Ret.mk (two_eq ((putV_ok (by omega) (by omega)).trans (addV_ok (by omega) (by omega)).symm) ((putE_ok (by omega) (by omega)).trans (addE_ok (by omega) (by omega)).symm)) x3.boxed

theorem top_any (a b x n : Int) (w : World) (h1 : 1 ≤ b) (h2 : b ≤ 32) (h3 : 0 ≤ a) (h4 : a ≤ 62 - b) (h5 : 0 ≤ x) (h6 : x ≤ 4611686018427387903) :
    Calls Try.prog 28 #[.agg #[.int .i64 a, .int .i64 b], .int .i64 x, .int .i64 n] w (Ret w (.tuple #[.int .i64 (topV x a b n), .int .i64 0])) := by
  have hm := tw_b h2
  have hg := fget_bd x a b
  by_cases hn : n < -fget x a b
  · go_enter Try.func28, Try.ntmps28
    go_wp2_with (first | (go_at_call 29; refine (below_any a b x n _ h1 h2 h3 h4 h5 h6).mono ?_; rintro _ _ ⟨rfl, x1, rfl⟩) | (go_at_call 26; refine (later_of _ (put_any a b x 0 _ h1 h2 h3 h4 h5 h6)).mono ?_; rintro _ _ ⟨rfl, x2, rfl⟩))
    go_ret2
    exact Ret.mk (two_eq ((putV_ok (by omega) (by omega)).trans (topV_low (by omega)).symm) (putE_ok (by omega) (by omega))) x2.boxed
  · by_cases ho : tw b - 1 - fget x a b < n
    · go_enter Try.func28, Try.ntmps28
      go_wp2_with (first | (go_at_call 29; refine (below_any a b x n _ h1 h2 h3 h4 h5 h6).mono ?_; rintro _ _ ⟨rfl, x1, rfl⟩) | (go_at_call 30; refine (later_of _ (above_any a b x n _ h1 h2 h3 h4 h5 h6)).mono ?_; rintro _ _ ⟨rfl, x2, rfl⟩))
      refine wp_region_later' x2 (by kernel_rfl) (by kernel_rfl) ?_
      repeat (go_big_quiet_step ((first
        | (go_at_call 24; exact later_of _ (most_any a b _ h1 h2))
        | (go_at_call 26; exact later_of _ (put_any a b x _ _ h1 h2 h3 h4 h5 h6)))))
      refine wpQuiet_nil ?_
      rintro _ ⟨x3, rfl⟩
      go_wp2
      go_ret2
      exact Ret.mk (two_eq ((putV_ok (by omega) (by omega)).trans (topV_over (by omega) (by omega)).symm) (putE_ok (by omega) (by omega))) x3.boxed
    · go_enter Try.func28, Try.ntmps28
      go_wp2_with (first | (go_at_call 29; refine (below_any a b x n _ h1 h2 h3 h4 h5 h6).mono ?_; rintro _ _ ⟨rfl, x1, rfl⟩) | (go_at_call 30; refine (later_of _ (above_any a b x n _ h1 h2 h3 h4 h5 h6)).mono ?_; rintro _ _ ⟨rfl, x2, rfl⟩))
      refine wp_region_later' x2 (by kernel_rfl) (by kernel_rfl) ?_
      repeat (go_big_quiet_step ((first
        | (go_at_call 21; exact later_of _ (get_any a b x _ h1 h2 h3 h4 h5 h6))
        | (go_at_call 26; exact later_of _ (put_any a b x _ _ h1 h2 h3 h4 h5 h6)))))
      refine wpQuiet_nil ?_
      rintro _ ⟨x3, rfl⟩
      go_wp2
      go_ret2
      exact Ret.mk (two_eq ((putV_ok (by omega) (by omega)).trans (topV_ok (by omega) (by omega)).symm) (putE_ok (by omega) (by omega))) x3.boxed

theorem change_put (a b x n : Int) (w : World) :
    Calls Try.prog 25 #[.int .i64 x, .agg #[.int .i64 a, .int .i64 b], .int .i64 n, .func (.func 26) #[] #[]] w (Ret w (.tuple #[.int .i64 (putFV x a b n), .int .i64 (putFE x a b n)])) := by
  by_cases hw : isw x = true
  · by_cases hf : fok a b = true
    · obtain ⟨h1, h2, h3, h4⟩ := fok_of hf
      obtain ⟨h5, h6⟩ := isw_of hw
      go_enter Try.func25, Try.ntmps25
      go_wp2_with (first | (go_at_call 19; refine (isWord_any x _).mono ?_; rintro _ _ ⟨rfl, rfl⟩) | (go_at_call 20; refine (mayBe_any a b _).mono ?_; rintro _ _ ⟨rfl, x1, rfl⟩) | (go_at_call 26; refine (later_of _ (put_any a b x n _ h1 h2 h3 h4 h5 h6)).mono ?_; rintro _ _ ⟨rfl, x2, rfl⟩))
      go_ret2
      exact Ret.mk (two_eq (putV_both hw hf).symm (putE_both hw hf).symm) x2.boxed
    · have hf' : fok a b = false := by simpa using hf
      go_enter Try.func25, Try.ntmps25
      go_wp2_with (first | (go_at_call 19; refine (isWord_any x _).mono ?_; rintro _ _ ⟨rfl, rfl⟩) | (go_at_call 20; refine (mayBe_any a b _).mono ?_; rintro _ _ ⟨rfl, x1, rfl⟩))
      go_ret2
      exact Ret.mk (two_eq (putV_bad (.inr hf')).symm (putE_bad (.inr hf')).symm) x1.boxed
  · have hw' : isw x = false := by simpa using hw
    go_enter Try.func25, Try.ntmps25
    go_wp2_with ((go_at_call 19; refine (isWord_any x _).mono ?_; rintro _ _ ⟨rfl, rfl⟩))
    go_ret2
    exact Ret.mk (two_eq (putV_bad (.inl hw')).symm (putE_bad (.inl hw')).symm) ((Below.refl _ _).alloc (Nat.le_refl _) _)

theorem change_add (a b x n : Int) (w : World) :
    Calls Try.prog 25 #[.int .i64 x, .agg #[.int .i64 a, .int .i64 b], .int .i64 n, .func (.func 27) #[] #[]] w (Ret w (.tuple #[.int .i64 (addFV x a b n), .int .i64 (addFE x a b n)])) := by
  by_cases hw : isw x = true
  · by_cases hf : fok a b = true
    · obtain ⟨h1, h2, h3, h4⟩ := fok_of hf
      obtain ⟨h5, h6⟩ := isw_of hw
      go_enter Try.func25, Try.ntmps25
      go_wp2_with (first | (go_at_call 19; refine (isWord_any x _).mono ?_; rintro _ _ ⟨rfl, rfl⟩) | (go_at_call 20; refine (mayBe_any a b _).mono ?_; rintro _ _ ⟨rfl, x1, rfl⟩) | (go_at_call 27; refine (later_of _ (add_any a b x n _ h1 h2 h3 h4 h5 h6)).mono ?_; rintro _ _ ⟨rfl, x2, rfl⟩))
      go_ret2
      exact Ret.mk (two_eq (addV_both hw hf).symm (addE_both hw hf).symm) x2.boxed
    · have hf' : fok a b = false := by simpa using hf
      go_enter Try.func25, Try.ntmps25
      go_wp2_with (first | (go_at_call 19; refine (isWord_any x _).mono ?_; rintro _ _ ⟨rfl, rfl⟩) | (go_at_call 20; refine (mayBe_any a b _).mono ?_; rintro _ _ ⟨rfl, x1, rfl⟩))
      go_ret2
      exact Ret.mk (two_eq (addV_bad (.inr hf')).symm (addE_bad (.inr hf')).symm) x1.boxed
  · have hw' : isw x = false := by simpa using hw
    go_enter Try.func25, Try.ntmps25
    go_wp2_with ((go_at_call 19; refine (isWord_any x _).mono ?_; rintro _ _ ⟨rfl, rfl⟩))
    go_ret2
    exact Ret.mk (two_eq (addV_bad (.inl hw')).symm (addE_bad (.inl hw')).symm) ((Below.refl _ _).alloc (Nat.le_refl _) _)

theorem change_top (a b x n : Int) (w : World) :
    Calls Try.prog 25 #[.int .i64 x, .agg #[.int .i64 a, .int .i64 b], .int .i64 n, .func (.func 28) #[] #[]] w (Ret w (.tuple #[.int .i64 (topF x a b n), .int .i64 (topFE x a b)])) := by
  by_cases hw : isw x = true
  · by_cases hf : fok a b = true
    · obtain ⟨h1, h2, h3, h4⟩ := fok_of hf
      obtain ⟨h5, h6⟩ := isw_of hw
      go_enter Try.func25, Try.ntmps25
      go_wp2_with (first | (go_at_call 19; refine (isWord_any x _).mono ?_; rintro _ _ ⟨rfl, rfl⟩) | (go_at_call 20; refine (mayBe_any a b _).mono ?_; rintro _ _ ⟨rfl, x1, rfl⟩) | (go_at_call 28; refine (later_of _ (top_any a b x n _ h1 h2 h3 h4 h5 h6)).mono ?_; rintro _ _ ⟨rfl, x2, rfl⟩))
      go_ret2
      exact Ret.mk (two_eq (topV_both hw hf).symm (topE_both hw hf).symm) x2.boxed
    · have hf' : fok a b = false := by simpa using hf
      go_enter Try.func25, Try.ntmps25
      go_wp2_with (first | (go_at_call 19; refine (isWord_any x _).mono ?_; rintro _ _ ⟨rfl, rfl⟩) | (go_at_call 20; refine (mayBe_any a b _).mono ?_; rintro _ _ ⟨rfl, x1, rfl⟩))
      go_ret2
      exact Ret.mk (two_eq (topV_bad (.inr hf')).symm (topE_bad (.inr hf')).symm) x1.boxed
  · have hw' : isw x = false := by simpa using hw
    go_enter Try.func25, Try.ntmps25
    go_wp2_with ((go_at_call 19; refine (isWord_any x _).mono ?_; rintro _ _ ⟨rfl, rfl⟩))
    go_ret2
    exact Ret.mk (two_eq (topV_bad (.inl hw')).symm (topE_bad (.inl hw')).symm) ((Below.refl _ _).alloc (Nat.le_refl _) _)

theorem Put_any (a b x n : Int) (w : World) :
    Calls Try.prog 16 #[.int .i64 x, .agg #[.int .i64 a, .int .i64 b], .int .i64 n] w (Ret w (.tuple #[.int .i64 (putFV x a b n), .int .i64 (putFE x a b n)])) := by
  go_enter Try.func16, Try.ntmps16
  go_wp2_with (go_at_call 25; refine (change_put a b x n _).mono ?_; rintro _ _ ⟨rfl, x1, rfl⟩)
  go_ret2
  exact Ret.mk rfl x1.boxed

theorem Add_any (a b x n : Int) (w : World) :
    Calls Try.prog 17 #[.int .i64 x, .agg #[.int .i64 a, .int .i64 b], .int .i64 n] w (Ret w (.tuple #[.int .i64 (addFV x a b n), .int .i64 (addFE x a b n)])) := by
  go_enter Try.func17, Try.ntmps17
  go_wp2_with (go_at_call 25; refine (change_add a b x n _).mono ?_; rintro _ _ ⟨rfl, x1, rfl⟩)
  go_ret2
  exact Ret.mk rfl x1.boxed

theorem Top_any (a b x n : Int) (w : World) :
    Calls Try.prog 18 #[.int .i64 x, .agg #[.int .i64 a, .int .i64 b], .int .i64 n] w (Ret w (.int .i64 (topF x a b n))) := by
  go_enter Try.func18, Try.ntmps18
  go_wp2_with (go_at_call 25; refine (change_top a b x n _).mono ?_; rintro _ _ ⟨rfl, x1, rfl⟩)
  go_ret
  exact Ret.mk rfl x1.boxed

theorem Check_any (a b : Int) (w : World) : Calls Try.prog 13 #[.agg #[.int .i64 a, .int .i64 b]] w (Ret w (.int .i64 (checkF a b))) := by
  by_cases hf : fok a b = true
  · go_enter Try.func13, Try.ntmps13
    go_wp2_with (go_at_call 20; refine (mayBe_any a b _).mono ?_; rintro _ _ ⟨rfl, x1, rfl⟩)
    go_ret
    exact Ret.mk (int_eq (checkF_ok hf).symm) x1.boxed
  · have hf' : fok a b = false := by simpa using hf
    go_enter Try.func13, Try.ntmps13
    go_wp2_with (go_at_call 20; refine (mayBe_any a b _).mono ?_; rintro _ _ ⟨rfl, x1, rfl⟩)
    go_ret
    exact Ret.mk (int_eq (checkF_bad hf').symm) x1.boxed

theorem Most_any (a b : Int) (w : World) : Calls Try.prog 11 #[.agg #[.int .i64 a, .int .i64 b]] w (Ret w (.int .i64 (mostF a b))) := by
  by_cases hf : fok a b = true
  · obtain ⟨h1, h2, h3, h4⟩ := fok_of hf
    go_enter Try.func11, Try.ntmps11
    go_wp2_with (first | (go_at_call 20; refine (mayBe_any a b _).mono ?_; rintro _ _ ⟨rfl, x1, rfl⟩) | (go_at_call 24; refine (later_of _ (most_any a b _ h1 h2)).mono ?_; rintro _ _ ⟨rfl, x2, rfl⟩))
    go_ret
    exact Ret.mk (int_eq (mostF_ok hf).symm) x2.boxed
  · have hf' : fok a b = false := by simpa using hf
    go_enter Try.func11, Try.ntmps11
    go_wp2_with (go_at_call 20; refine (mayBe_any a b _).mono ?_; rintro _ _ ⟨rfl, x1, rfl⟩)
    go_ret
    exact Ret.mk (int_eq (mostF_bad hf').symm) x1.boxed

theorem Get_any (a b x : Int) (w : World) : Calls Try.prog 8 #[.int .i64 x, .agg #[.int .i64 a, .int .i64 b]] w (Ret w (.int .i64 (getF x a b))) := by
  by_cases hw : isw x = true
  · by_cases hf : fok a b = true
    · obtain ⟨h1, h2, h3, h4⟩ := fok_of hf
      obtain ⟨h5, h6⟩ := isw_of hw
      go_enter Try.func8, Try.ntmps8
      go_wp2_with (first | (go_at_call 19; refine (isWord_any x _).mono ?_; rintro _ _ ⟨rfl, rfl⟩) | (go_at_call 20; refine (mayBe_any a b _).mono ?_; rintro _ _ ⟨rfl, x1, rfl⟩) | (go_at_call 21; refine (later_of _ (get_any a b x _ h1 h2 h3 h4 h5 h6)).mono ?_; rintro _ _ ⟨rfl, x2, rfl⟩))
      go_ret
      exact Ret.mk (int_eq (getF_both hw hf).symm) x2.boxed
    · have hf' : fok a b = false := by simpa using hf
      go_enter Try.func8, Try.ntmps8
      go_wp2_with (first | (go_at_call 19; refine (isWord_any x _).mono ?_; rintro _ _ ⟨rfl, rfl⟩) | (go_at_call 20; refine (mayBe_any a b _).mono ?_; rintro _ _ ⟨rfl, x1, rfl⟩))
      go_ret
      exact Ret.mk (int_eq (getF_bad (.inr hf')).symm) x1.boxed
  · have hw' : isw x = false := by simpa using hw
    go_enter Try.func8, Try.ntmps8
    go_wp2_with ((go_at_call 19; refine (isWord_any x _).mono ?_; rintro _ _ ⟨rfl, rfl⟩))
    go_ret
    exact Ret.mk (int_eq (getF_bad (.inl hw')).symm) ((Below.refl _ _).alloc (Nat.le_refl _) _)
end Go.Proofs.Ytohclplpcnkhbaa
