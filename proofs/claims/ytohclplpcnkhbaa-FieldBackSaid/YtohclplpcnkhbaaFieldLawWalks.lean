/-
  What the statements' own helpers answer for layer 1: the document's own functions, and the sample answers.
  Conditions: of the power of two, that its number is 0 to 62; else none.
-/
import Derived.Test.YtohclplpcnkhbaaFieldWalks
import Derived.LoopTactic
namespace Go.Proofs.Ytohclplpcnkhbaa
open Go.RowKit
attribute [local go_sem] Later.cell Later.frozen Later.lt Later.le
attribute [local go_sem ↓] Go.wp_at_zero Go.wp_at_succ

theorem own_any (a b : Int) (w : World) : Calls Try.prog 9 #[.agg #[.int .i64 a, .int .i64 b]] w (Ret w (.agg #[.int .i64 a, .int .i64 b])) := by
  go_enter Try.func9, Try.ntmps9
  go_wp2
  refine bodyPost_ret (v := .agg #[.int .i64 a, .int .i64 b]) (by simp [results, Try.results9, go_sem]) rfl (Ret.mk rfl ?_)
  exact ((Below.refl _ _).alloc (Nat.le_refl _) _).alloc (by simp) _

theorem refWord_any (x : Int) (w : World) : Calls Try.prog 22 #[.int .i64 x] w fun e w' => e = .returned (.bool (isw x)) ∧ w = w' := by
  by_cases h0 : 0 ≤ x
  · by_cases h1 : x < 4611686018427387904
    · go_enter Try.func22, Try.ntmps22
      go_wp2
      go_ret
      exact ⟨by rw [isw_true h0 (by omega)]; rfl, rfl⟩
    · go_enter Try.func22, Try.ntmps22
      go_wp2
      go_ret
      exact ⟨by rw [isw_false (by omega)]; rfl, rfl⟩
  · go_enter Try.func22, Try.ntmps22
    go_wp2
    go_ret
    exact ⟨by rw [isw_false (by omega)]; rfl, rfl⟩

theorem power_any (n : Int) (w : World) (h0 : 0 ≤ n) (h1 : n ≤ 62) : Calls Try.prog 23 #[.int .i64 n] w fun e w' => e = .returned (.int .i64 (tw n)) ∧ w = w' := by
  go_enter Try.func23, Try.ntmps23
  go_wp2
  go_loop [3, 4] (fun t i => ∃ k : Int, 0 ≤ k ∧ k ≤ n ∧ i = .int .i64 k ∧ t = .int .i64 (tw k)) (fun _ i => (n - intOf i).toNat)
  case atStart => exact ⟨0, by omega, by omega, rfl, rfl⟩
  case round =>
    obtain ⟨k, hk0, hk1, rfl, rfl⟩ := hrel
    by_cases hlt : k < n
    · have hb := tw_a (b := k + 1) (by omega)
      have hs := tw_succ hk0
      rw [hs] at hb
      have HS := Lib.hid hs
      clear hs
      go_wp2
      go_round
      case rel => exact ⟨k + 1, by omega, by omega, rfl, by rw [HS.out]⟩
      case measure => simp [intOf]; omega
    · obtain rfl : k = n := by omega
      go_wp2
      go_ret
      exact ⟨rfl, rfl⟩

theorem refCheck_any (a b : Int) (w : World) : Calls Try.prog 14 #[.agg #[.int .i64 a, .int .i64 b]] w (Ret w (.int .i64 (checkF a b))) := by
  by_cases h3 : a < 0
  · go_enter Try.func14, Try.ntmps14
    go_wp2
    go_ret
    exact Ret.mk (int_eq (checkF_bad (fok_false (by omega))).symm) ((Below.refl _ _).alloc (Nat.le_refl _) _)
  · by_cases h1 : b < 1
    · go_enter Try.func14, Try.ntmps14
      go_wp2
      go_ret
      exact Ret.mk (int_eq (checkF_bad (fok_false (by omega))).symm) ((Below.refl _ _).alloc (Nat.le_refl _) _)
    · by_cases h2 : 32 < b
      · go_enter Try.func14, Try.ntmps14
        go_wp2
        go_ret
        exact Ret.mk (int_eq (checkF_bad (fok_false (by omega))).symm) ((Below.refl _ _).alloc (Nat.le_refl _) _)
      · by_cases h4 : 62 - b < a
        · go_enter Try.func14, Try.ntmps14
          go_wp2
          go_ret
          exact Ret.mk (int_eq (checkF_bad (fok_false (by omega))).symm) ((Below.refl _ _).alloc (Nat.le_refl _) _)
        · go_enter Try.func14, Try.ntmps14
          go_wp2
          go_ret
          exact Ret.mk (int_eq (checkF_ok (fok_true (by omega) (by omega) (by omega) (by omega))).symm) ((Below.refl _ _).alloc (Nat.le_refl _) _)

theorem refMost_any (a b : Int) (w : World) : Calls Try.prog 12 #[.agg #[.int .i64 a, .int .i64 b]] w (Ret w (.int .i64 (mostF a b))) := by
  by_cases hf : fok a b = true
  · obtain ⟨h1, h2, h3, h4⟩ := fok_of hf
    have hc := checkF_ok hf
    have hb := tw_b h2
    go_enter Try.func12, Try.ntmps12
    go_wp2_with (first | (go_at_call 14; refine (refCheck_any a b _).mono ?_; rintro _ _ ⟨rfl, x1, rfl⟩) | (go_at_call 23; refine (power_any b _ (by omega) (by omega)).mono ?_; rintro _ _ ⟨rfl, rfl⟩))
    go_ret
    exact Ret.mk (int_eq (mostF_ok hf).symm) x1.boxed
  · have hf' : fok a b = false := by simpa using hf
    have hc := checkF_bad hf'
    go_enter Try.func12, Try.ntmps12
    go_wp2_with (go_at_call 14; refine (refCheck_any a b _).mono ?_; rintro _ _ ⟨rfl, x1, rfl⟩)
    go_ret
    exact Ret.mk (int_eq (mostF_bad hf').symm) x1.boxed

theorem refGet_any (a b x : Int) (w : World) : Calls Try.prog 10 #[.int .i64 x, .agg #[.int .i64 a, .int .i64 b]] w (Ret w (.int .i64 (getF x a b))) := by
  by_cases hw : isw x = true
  · by_cases hf : fok a b = true
    · obtain ⟨h1, h2, h3, h4⟩ := fok_of hf
      obtain ⟨h5, h6⟩ := isw_of hw
      have hc := checkF_ok hf
      have hb := tw_b h2
      have ha := tw_a (b := a) (by omega)
      have hb0 : (tw b == 0) = false := by simp; omega
      have ha0 : (tw a == 0) = false := by simp; omega
      have hq : 0 ≤ x / tw a := Int.ediv_nonneg h5 (by omega)
      go_enter Try.func10, Try.ntmps10
      go_wp2_with (first | (go_at_call 22; refine (refWord_any x _).mono ?_; rintro _ _ ⟨rfl, rfl⟩) | (go_at_call 14; refine (refCheck_any a b _).mono ?_; rintro _ _ ⟨rfl, x1, rfl⟩))
      refine wp_region_later' x1 (by kernel_rfl) (by kernel_rfl) ?_
      repeat (go_big_quiet_step ((first
        | (go_at_call_of 23 (Value.int IntKind.i64 a); exact later_same _ (power_any a _ (by omega) (by omega)))
        | (go_at_call_of 23 (Value.int IntKind.i64 b); exact later_same _ (power_any b _ (by omega) (by omega))))))
      refine wpQuiet_nil ?_
      rintro _ ⟨x3, rfl⟩
      go_wp2
      go_ret
      exact Ret.mk (int_eq (getF_both hw hf).symm) x3.boxed
    · have hf' : fok a b = false := by simpa using hf
      have hc := checkF_bad hf'
      go_enter Try.func10, Try.ntmps10
      go_wp2_with (first | (go_at_call 22; refine (refWord_any x _).mono ?_; rintro _ _ ⟨rfl, rfl⟩) | (go_at_call 14; refine (refCheck_any a b _).mono ?_; rintro _ _ ⟨rfl, x1, rfl⟩))
      go_ret
      exact Ret.mk (int_eq (getF_bad (.inr hf')).symm) x1.boxed
  · have hw' : isw x = false := by simpa using hw
    go_enter Try.func10, Try.ntmps10
    go_wp2_with (go_at_call 22; refine (refWord_any x _).mono ?_; rintro _ _ ⟨rfl, rfl⟩)
    go_ret
    exact Ret.mk (int_eq (getF_bad (.inl hw')).symm) ((Below.refl _ _).alloc (Nat.le_refl _) _)

theorem Put_at (a b x n : Int) {v e : Int} (hv : putFV x a b n = v) (he : putFE x a b n = e) (w : World) :
    Calls Try.prog 16 #[.int .i64 x, .agg #[.int .i64 a, .int .i64 b], .int .i64 n] w (Ret w (.tuple #[.int .i64 v, .int .i64 e])) := by rw [← hv, ← he]; exact Put_any a b x n w
theorem Add_at (a b x n : Int) {v e : Int} (hv : addFV x a b n = v) (he : addFE x a b n = e) (w : World) :
    Calls Try.prog 17 #[.int .i64 x, .agg #[.int .i64 a, .int .i64 b], .int .i64 n] w (Ret w (.tuple #[.int .i64 v, .int .i64 e])) := by rw [← hv, ← he]; exact Add_any a b x n w
theorem Top_at (a b x n : Int) {v : Int} (hv : topF x a b n = v) (w : World) :
    Calls Try.prog 18 #[.int .i64 x, .agg #[.int .i64 a, .int .i64 b], .int .i64 n] w (Ret w (.int .i64 v)) := by rw [← hv]; exact Top_any a b x n w
theorem Get_at (a b x : Int) {v : Int} (hv : getF x a b = v) (w : World) :
    Calls Try.prog 8 #[.int .i64 x, .agg #[.int .i64 a, .int .i64 b]] w (Ret w (.int .i64 v)) := by rw [← hv]; exact Get_any a b x w
theorem Most_at (a b : Int) {v : Int} (hv : mostF a b = v) (w : World) :
    Calls Try.prog 11 #[.agg #[.int .i64 a, .int .i64 b]] w (Ret w (.int .i64 v)) := by rw [← hv]; exact Most_any a b w
theorem Check_at (a b : Int) {v : Int} (hv : checkF a b = v) (w : World) :
    Calls Try.prog 13 #[.agg #[.int .i64 a, .int .i64 b]] w (Ret w (.int .i64 v)) := by rw [← hv]; exact Check_any a b w

theorem live_put5 (w : World) : Calls Try.prog 16 #[.int .i64 0, .agg #[.int .i64 4, .int .i64 4], .int .i64 5] w (Ret w (.tuple #[.int .i64 80, .int .i64 0])) := Put_at 4 4 0 5 (v := 80) (e := 0) (by decide) (by decide) w
theorem live_put16 (w : World) : Calls Try.prog 16 #[.int .i64 0, .agg #[.int .i64 4, .int .i64 4], .int .i64 16] w (Ret w (.tuple #[.int .i64 0, .int .i64 3])) := Put_at 4 4 0 16 (v := 0) (e := 3) (by decide) (by decide) w
theorem live_putm (w : World) : Calls Try.prog 16 #[.int .i64 (-1), .agg #[.int .i64 4, .int .i64 4], .int .i64 1] w (Ret w (.tuple #[.int .i64 0, .int .i64 1])) := Put_at 4 4 (-1) 1 (v := 0) (e := 1) (by decide) (by decide) w
theorem live_add10 (w : World) : Calls Try.prog 17 #[.int .i64 80, .agg #[.int .i64 4, .int .i64 4], .int .i64 10] w (Ret w (.tuple #[.int .i64 240, .int .i64 0])) := Add_at 4 4 80 10 (v := 240) (e := 0) (by decide) (by decide) w
theorem live_add11 (w : World) : Calls Try.prog 17 #[.int .i64 80, .agg #[.int .i64 4, .int .i64 4], .int .i64 11] w (Ret w (.tuple #[.int .i64 0, .int .i64 3])) := Add_at 4 4 80 11 (v := 0) (e := 3) (by decide) (by decide) w
theorem live_get (w : World) : Calls Try.prog 8 #[.int .i64 80, .agg #[.int .i64 4, .int .i64 4]] w (Ret w (.int .i64 5)) := Get_at 4 4 80 (v := 5) (by decide) w
theorem live_top (w : World) : Calls Try.prog 18 #[.int .i64 80, .agg #[.int .i64 4, .int .i64 4], .int .i64 99] w (Ret w (.int .i64 240)) := Top_at 4 4 80 99 (v := 240) (by decide) w
theorem live_topm (w : World) : Calls Try.prog 18 #[.int .i64 80, .agg #[.int .i64 4, .int .i64 4], .int .i64 (-99)] w (Ret w (.int .i64 0)) := Top_at 4 4 80 (-99) (v := 0) (by decide) w
theorem live_most (w : World) : Calls Try.prog 11 #[.agg #[.int .i64 4, .int .i64 4]] w (Ret w (.int .i64 15)) := Most_at 4 4 (v := 15) (by decide) w
theorem live_check (w : World) : Calls Try.prog 13 #[.agg #[.int .i64 60, .int .i64 3]] w (Ret w (.int .i64 1)) := Check_at 60 3 (v := 1) (by decide) w

set_option maxHeartbeats 1000000 in
theorem live_any (w : World) : Calls Try.prog 15 #[] w (Ret w (.bool true)) := by
  go_enter Try.func15, Try.ntmps15
  go_wp2_with (first
    | (go_at_call 16; (with_reducible refine (live_put5 _).mono ?_); rintro _ _ ⟨rfl, x1, rfl⟩)
    | (go_at_call 16; (with_reducible refine (later_of _ (live_put16 _)).mono ?_); rintro _ _ ⟨rfl, x2, rfl⟩)
    | (go_at_call 16; (with_reducible refine (later_of _ (live_putm _)).mono ?_); rintro _ _ ⟨rfl, x2, rfl⟩)
    | (go_at_call 17; (with_reducible refine (later_of _ (live_add10 _)).mono ?_); rintro _ _ ⟨rfl, x2, rfl⟩)
    | (go_at_call 17; (with_reducible refine (later_of _ (live_add11 _)).mono ?_); rintro _ _ ⟨rfl, x2, rfl⟩)
    | (go_at_call 8; (with_reducible refine (later_of _ (live_get _)).mono ?_); rintro _ _ ⟨rfl, x2, rfl⟩)
    | (go_at_call 18; (with_reducible refine (later_of _ (live_top _)).mono ?_); rintro _ _ ⟨rfl, x2, rfl⟩)
    | (go_at_call 18; (with_reducible refine (later_of _ (live_topm _)).mono ?_); rintro _ _ ⟨rfl, x2, rfl⟩)
    | (go_at_call 11; (with_reducible refine (later_of _ (live_most _)).mono ?_); rintro _ _ ⟨rfl, x2, rfl⟩)
    | (go_at_call 13; (with_reducible refine (later_of _ (live_check _)).mono ?_); rintro _ _ ⟨rfl, x2, rfl⟩))
  go_ret
  exact Ret.mk rfl x2.boxed
end Go.Proofs.Ytohclplpcnkhbaa
