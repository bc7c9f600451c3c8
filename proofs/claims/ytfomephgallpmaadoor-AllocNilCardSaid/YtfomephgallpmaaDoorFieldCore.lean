/-
  What each call of package field answers, at every input, and that it leaves alone all that was there.
  Conditions: of the methods that shift, that the field may be and the word is one; the package's own calls have none.
-/
import Derived.Test.YtfomephgallpmaaDoorProg
import Derived.Test.YtfomephgallpmaaDoorLater
import Derived.Test.YtfomephgallpmaaDoorFieldMath
import Derived.WalkKit
import Derived.WalkSpells
import Derived.WalkLawsBesides
import Derived.Lib.Hide
import Derived.BigQuiet
import Derived.Deep.DrawnRows
namespace Go.Proofs.YtfomephgallpmaaDoor
open Go.RowKit
attribute [local go_sem] Later.cell Later.frozen Later.lt Later.le
attribute [local go_sem ↓] Go.wp_at_zero Go.wp_at_succ

theorem int_eq {k : IntKind} {a b : Int} (h : a = b) : Value.int k a = .int k b := by rw [h]
theorem two_eq {k : IntKind} {a b c d : Int} (h : a = b) (h' : c = d) : Value.tuple #[.int k a, .int k c] = .tuple #[.int k b, .int k d] := by rw [h, h']
theorem bool_eq {a b : Bool} (h : a = b) : Value.bool a = .bool b := by rw [h]

theorem isWord_any (x : Int) (w : World) :
    Calls Tryd.prog 96 #[.int .i64 x] w fun e w' => e = .returned (.bool (isw x)) ∧ w = w' := by
  by_cases h0 : 0 ≤ x
  · by_cases h1 : x ≤ 4611686018427387903
    · go_enter Tryd.func96, Tryd.ntmps96
      go_wp2
      go_ret
      exact ⟨by rw [isw_true h0 h1]; rfl, rfl⟩
    · go_enter Tryd.func96, Tryd.ntmps96
      go_wp2
      go_ret
      exact ⟨by rw [isw_false (by omega)]; rfl, rfl⟩
  · go_enter Tryd.func96, Tryd.ntmps96
    go_wp2
    go_ret
    exact ⟨by rw [isw_false (by omega)]; rfl, rfl⟩

theorem mayBe_any (a b : Int) (w : World) :
    Calls Tryd.prog 97 #[.agg #[.int .i64 a, .int .i64 b]] w (Ret w (.bool (fok a b))) := by
  by_cases h1 : 1 ≤ b
  · by_cases h2 : b ≤ 32
    · by_cases h3 : 0 ≤ a
      · by_cases h4 : a ≤ 62 - b
        · go_enter Tryd.func97, Tryd.ntmps97
          go_wp2
          go_ret
          exact Ret.mk (bool_eq (by rw [fok_true h1 h2 h3 h4])) ((Below.refl _ _).alloc (Nat.le_refl _) _)
        · go_enter Tryd.func97, Tryd.ntmps97
          go_wp2
          go_ret
          exact Ret.mk (bool_eq (by rw [fok_false (by omega)])) ((Below.refl _ _).alloc (Nat.le_refl _) _)
      · go_enter Tryd.func97, Tryd.ntmps97
        go_wp2
        go_ret
        exact Ret.mk (bool_eq (by rw [fok_false (by omega)])) ((Below.refl _ _).alloc (Nat.le_refl _) _)
    · go_enter Tryd.func97, Tryd.ntmps97
      go_wp2
      go_ret
      exact Ret.mk (bool_eq (by rw [fok_false (by omega)])) ((Below.refl _ _).alloc (Nat.le_refl _) _)
  · go_enter Tryd.func97, Tryd.ntmps97
    go_wp2
    go_ret
    exact Ret.mk (bool_eq (by rw [fok_false (by omega)])) ((Below.refl _ _).alloc (Nat.le_refl _) _)

theorem most_any (a b : Int) (w : World) (h1 : 1 ≤ b) (h2 : b ≤ 32) :
    Calls Tryd.prog 99 #[.agg #[.int .i64 a, .int .i64 b]] w (Ret w (.int .i64 (tw b - 1))) := by
  go_enter Tryd.func99, Tryd.ntmps99
  go_wp2
  go_ret
  exact Ret.mk (int_eq (tw_most (by omega))) ((Below.refl _ _).alloc (Nat.le_refl _) _)

theorem get_any (a b x : Int) (w : World) (h1 : 1 ≤ b) (h2 : b ≤ 32) (h3 : 0 ≤ a) (h4 : a ≤ 62 - b) (h5 : 0 ≤ x) (h6 : x ≤ 4611686018427387903) :
    Calls Tryd.prog 98 #[.agg #[.int .i64 a, .int .i64 b], .int .i64 x] w (Ret w (.int .i64 (fget x a b))) := by
  have hm := tw_b h2
  go_enter Tryd.func98, Tryd.ntmps98
  go_wp2
  refine wp_region_later (by kernel_rfl) (by kernel_rfl) ?_
  repeat (go_big_quiet_step ((go_at_call 99; exact later_of _ (most_any a b _ h1 h2))))
  refine wpQuiet_nil ?_
  rintro _ ⟨x1, rfl⟩
  go_wp2
  go_ret
  exact Ret.mk (int_eq (and_mask h2 h5 h6 (by omega) h3)) x1.boxed

theorem put_any (a b x n : Int) (w : World) (h1 : 1 ≤ b) (h2 : b ≤ 32) (h3 : 0 ≤ a) (h4 : a ≤ 62 - b) (h5 : 0 ≤ x) (h6 : x ≤ 4611686018427387903) :
    Calls Tryd.prog 93 #[.agg #[.int .i64 a, .int .i64 b], .int .i64 x, .int .i64 n] w (Ret w (.tuple #[.int .i64 (putV x a b n), .int .i64 (putE b n)])) := by
  have hm := tw_b h2
  by_cases hn : n < 0
  · go_enter Tryd.func93, Tryd.ntmps93
    go_wp2
    go_ret2
    exact Ret.mk (two_eq (putV_neg (by omega)).symm (putE_neg (by omega)).symm) ((Below.refl _ _).alloc (Nat.le_refl _) _)
  · by_cases ho : tw b - 1 < n
    · go_enter Tryd.func93, Tryd.ntmps93
      go_wp2_with (go_at_call 99; refine (most_any a b _ h1 h2).mono ?_; rintro _ _ ⟨rfl, x1, rfl⟩)
      go_ret2
      exact Ret.mk (two_eq (putV_over (by omega) (by omega)).symm (putE_over (by omega) (by omega)).symm) x1.boxed
    · go_enter Tryd.func93, Tryd.ntmps93
      go_wp2_with (go_at_call 99; refine (most_any a b _ h1 h2).mono ?_; rintro _ _ ⟨rfl, x1, rfl⟩)
      refine wp_region_later' x1 (by kernel_rfl) (by kernel_rfl) ?_
      repeat (go_big_quiet_step ((go_at_call 99; exact later_of _ (most_any a b _ h1 h2))))
      refine wpQuiet_nil ?_
      rintro _ ⟨x2, rfl⟩
      go_wp2
      go_ret2
      exact Ret.mk (two_eq ((or_put h1 h2 h3 h4 h5 h6 (by omega) (by omega)).trans (putV_ok (by omega) (by omega)).symm) (putE_ok (by omega) (by omega)).symm) x2.boxed

theorem change_put (a b x n : Int) (w : World) :
    Calls Tryd.prog 92 #[.int .i64 x, .agg #[.int .i64 a, .int .i64 b], .int .i64 n, .func (.func 93) #[] #[]] w (Ret w (.tuple #[.int .i64 (putFV x a b n), .int .i64 (putFE x a b n)])) := by
  by_cases hw : isw x = true
  · by_cases hf : fok a b = true
    · obtain ⟨h1, h2, h3, h4⟩ := fok_of hf
      obtain ⟨h5, h6⟩ := isw_of hw
      go_enter Tryd.func92, Tryd.ntmps92
      go_wp2_with (first | (go_at_call 96; refine (isWord_any x _).mono ?_; rintro _ _ ⟨rfl, rfl⟩) | (go_at_call 97; refine (mayBe_any a b _).mono ?_; rintro _ _ ⟨rfl, x1, rfl⟩) | (go_at_call 93; refine (later_of _ (put_any a b x n _ h1 h2 h3 h4 h5 h6)).mono ?_; rintro _ _ ⟨rfl, x2, rfl⟩))
      go_ret2
      exact Ret.mk (two_eq (putV_both hw hf).symm (putE_both hw hf).symm) x2.boxed
    · have hf' : fok a b = false := by simpa using hf
      go_enter Tryd.func92, Tryd.ntmps92
      go_wp2_with (first | (go_at_call 96; refine (isWord_any x _).mono ?_; rintro _ _ ⟨rfl, rfl⟩) | (go_at_call 97; refine (mayBe_any a b _).mono ?_; rintro _ _ ⟨rfl, x1, rfl⟩))
      go_ret2
      exact Ret.mk (two_eq (putV_bad (.inr hf')).symm (putE_bad (.inr hf')).symm) x1.boxed
  · have hw' : isw x = false := by simpa using hw
    go_enter Tryd.func92, Tryd.ntmps92
    go_wp2_with ((go_at_call 96; refine (isWord_any x _).mono ?_; rintro _ _ ⟨rfl, rfl⟩))
    go_ret2
    exact Ret.mk (two_eq (putV_bad (.inl hw')).symm (putE_bad (.inl hw')).symm) ((Below.refl _ _).alloc (Nat.le_refl _) _)

theorem Put_any (a b x n : Int) (w : World) :
    Calls Tryd.prog 79 #[.int .i64 x, .agg #[.int .i64 a, .int .i64 b], .int .i64 n] w (Ret w (.tuple #[.int .i64 (putFV x a b n), .int .i64 (putFE x a b n)])) := by
  go_enter Tryd.func79, Tryd.ntmps79
  go_wp2_with (go_at_call 92; refine (change_put a b x n _).mono ?_; rintro _ _ ⟨rfl, x1, rfl⟩)
  go_ret2
  exact Ret.mk rfl x1.boxed

theorem Get_any (a b x : Int) (w : World) : Calls Tryd.prog 89 #[.int .i64 x, .agg #[.int .i64 a, .int .i64 b]] w (Ret w (.int .i64 (getF x a b))) := by
  by_cases hw : isw x = true
  · by_cases hf : fok a b = true
    · obtain ⟨h1, h2, h3, h4⟩ := fok_of hf
      obtain ⟨h5, h6⟩ := isw_of hw
      go_enter Tryd.func89, Tryd.ntmps89
      go_wp2_with (first | (go_at_call 96; refine (isWord_any x _).mono ?_; rintro _ _ ⟨rfl, rfl⟩) | (go_at_call 97; refine (mayBe_any a b _).mono ?_; rintro _ _ ⟨rfl, x1, rfl⟩) | (go_at_call 98; refine (later_of _ (get_any a b x _ h1 h2 h3 h4 h5 h6)).mono ?_; rintro _ _ ⟨rfl, x2, rfl⟩))
      go_ret
      exact Ret.mk (int_eq (getF_both hw hf).symm) x2.boxed
    · have hf' : fok a b = false := by simpa using hf
      go_enter Tryd.func89, Tryd.ntmps89
      go_wp2_with (first | (go_at_call 96; refine (isWord_any x _).mono ?_; rintro _ _ ⟨rfl, rfl⟩) | (go_at_call 97; refine (mayBe_any a b _).mono ?_; rintro _ _ ⟨rfl, x1, rfl⟩))
      go_ret
      exact Ret.mk (int_eq (getF_bad (.inr hf')).symm) x1.boxed
  · have hw' : isw x = false := by simpa using hw
    go_enter Tryd.func89, Tryd.ntmps89
    go_wp2_with ((go_at_call 96; refine (isWord_any x _).mono ?_; rintro _ _ ⟨rfl, rfl⟩))
    go_ret
    exact Ret.mk (int_eq (getF_bad (.inl hw')).symm) ((Below.refl _ _).alloc (Nat.le_refl _) _)
theorem Put_at (a b x n : Int) {v e : Int} (hv : putFV x a b n = v) (he : putFE x a b n = e) (w : World) :
    Calls Tryd.prog 79 #[.int .i64 x, .agg #[.int .i64 a, .int .i64 b], .int .i64 n] w (Ret w (.tuple #[.int .i64 v, .int .i64 e])) := by rw [← hv, ← he]; exact Put_any a b x n w
end Go.Proofs.YtfomephgallpmaaDoor
