/-
  What Pack of package head answers, at every input.
  Conditions: that a word is no more than an int holds; that the package's two fields read as they are laid.
-/
import Derived.Test.YtnojemmpgaibkaaDoorHeadMath
import Derived.Test.YtnojemmpgaibkaaDoorFieldPut
import Derived.Test.YtnojemmpgaibkaaDoorFloat
import Derived.OwnWalk
namespace Go.Proofs.YtnojemmpgaibkaaDoor
open Go.RowKit
attribute [local go_sem] Later.cell Later.frozen Later.lt Later.le
set_option linter.unusedVariables false

/-- The package's two fields read as its text lays them. -/
structure HasHead (w : World) : Prop where
  lt0 : 1 < w.heap.size
  lt1 : 2 < w.heap.size
  c0 : w.cell? ⟨1, 0, none⟩ = some (.int .i64 0)
  c1 : w.cell? ⟨1, 1, none⟩ = some (.int .i64 20)
  c2 : w.cell? ⟨2, 0, none⟩ = some (.int .i64 20)
  c3 : w.cell? ⟨2, 1, none⟩ = some (.int .i64 32)

theorem HasHead.below {w w' : World} (h : HasHead w) (hb : Below w.heap.size w w') : HasHead w' :=
  ⟨Nat.lt_of_lt_of_le h.lt0 hb.size, Nat.lt_of_lt_of_le h.lt1 hb.size, (hb.cell h.lt0).trans h.c0, (hb.cell h.lt0).trans h.c1, (hb.cell h.lt1).trans h.c2, (hb.cell h.lt1).trans h.c3⟩
theorem Later.heads {w : World} (x : Later w) (h : HasHead w) : HasHead x.at' := h.below x.below

theorem hwithin_any (n m : Int) (w : World) : Calls Tryd.prog 100 #[.int .i64 n, .int .i64 m] w fun e w' => e = .returned (.bool (decide (0 ≤ n ∧ n ≤ m))) ∧ w = w' := by
  by_cases h0 : 0 ≤ n
  · by_cases h1 : n ≤ m
    · go_enter Tryd.func100, Tryd.ntmps100
      go_wp2
      go_ret
      exact ⟨by simp [h0, h1], rfl⟩
    · go_enter Tryd.func100, Tryd.ntmps100
      go_wp2
      go_ret
      exact ⟨by simp [h1], rfl⟩
  · go_enter Tryd.func100, Tryd.ntmps100
    go_wp2
    go_ret
    exact ⟨by simp; omega, rfl⟩
theorem isTop_any (n : Int) (w : World) : Calls Tryd.prog 99 #[.int .i64 n] w fun e w' => e = .returned (.bool (topP n)) ∧ w = w' := by
  go_enter Tryd.func99, Tryd.ntmps99
  go_wp2_with (go_at_call 100; refine (hwithin_any _ _ _).mono ?_; rintro _ _ ⟨rfl, rfl⟩)
  go_ret
  exact ⟨by simp [topP, Bool.decide_and], rfl⟩

/-- The number whose real part is t, and whose imaginary one is g. -/
def cx (t g : Int) : Value := .complex .f64 (floatOfInt .f64 t) (floatOfInt .f64 g)

theorem frontOf_any (t g : Int) (w : World) : Calls Tryd.prog 101 #[.int .i64 t, .int .i64 g] w fun e w' => e = .returned (cx t g) ∧ w = w' := by
  go_enter Tryd.func101, Tryd.ntmps101
  go_wp2
  go_ret
  exact ⟨rfl, rfl⟩
theorem ftop_any (t g : Int) (h0 : 0 ≤ t) (h1 : t < 9007199254740992) (w : World) : Calls Tryd.prog 109 #[cx t g] w fun e w' => e = .returned (.int .i64 t) ∧ w = w' := by
  have hc : ∀ w, (convert 137 3 (.float .f64 (floatOfInt .f64 t))).run Tryd.prog w = .ok (.int .i64 t) w := fun w =>
    run_convert_float_int w 137 3 .f64 .i64 _ t (by kernel_rfl) (by kernel_rfl) (float_back t h0 h1)
  unfold cx
  go_enter Tryd.func109, Tryd.ntmps109
  go_wp2
  go_ret
  exact ⟨rfl, rfl⟩
theorem ftag_any (t g : Int) (h0 : 0 ≤ g) (h1 : g < 9007199254740992) (w : World) : Calls Tryd.prog 110 #[cx t g] w fun e w' => e = .returned (.int .i64 g) ∧ w = w' := by
  have hc : ∀ w, (convert 137 3 (.float .f64 (floatOfInt .f64 g))).run Tryd.prog w = .ok (.int .i64 g) w := fun w =>
    run_convert_float_int w 137 3 .f64 .i64 _ g (by kernel_rfl) (by kernel_rfl) (float_back g h0 h1)
  unfold cx
  go_enter Tryd.func110, Tryd.ntmps110
  go_wp2
  go_ret
  exact ⟨rfl, rfl⟩
theorem put_top {t : Int} (h0 : 0 ≤ t) (h1 : t < 1048576) : putFV 0 0 20 t = t := by
  rw [putV_both (by decide) (by decide)]
  have e : tw 20 = 1048576 := by decide
  rw [putV_ok h0 (by omega)]
  simp [fput, fget, tw]
theorem put_tag {t g : Int} (h0 : 0 ≤ t) (h1 : t < 1048576) (h2 : 0 ≤ g) (h3 : g ≤ 4294967295) : putFV t 20 32 g = t + g * 1048576 := by
  rw [putV_both (isw_true h0 (by omega)) (by decide)]
  have e : tw 20 = 1048576 := by decide
  have e' : tw 32 = 4294967296 := by decide
  rw [putV_ok h2 (by omega)]
  unfold fput fget
  rw [e, e']
  omega

theorem fword_any (t g : Int) (h0 : 0 ≤ t) (h1 : t < 1048576) (h2 : 0 ≤ g) (h3 : g ≤ 4294967295) (w : World) (hF : HasHead w) : Calls Tryd.prog 102 #[cx t g] w (Ret w (.int .i64 (t + g * 1048576))) := by
  have ct := ftop_any t g h0 (by omega)
  have cg := ftag_any t g h2 (by omega)
  have p1 := fun W => Put_at 0 20 0 t (put_top h0 h1) rfl W
  have p2 := fun W => Put_at 20 32 t g (put_tag h0 h1 h2 h3) rfl W
  obtain ⟨l0, l1, c0, c1, c2, c3⟩ := hF
  generalize cx t g = f at ct cg
  generalize putFE 0 0 20 t = e1 at p1
  generalize putFE t 20 32 g = e2 at p2
  go_enter Tryd.func102, Tryd.ntmps102
  go_wp2
  refine wp_region_later (by kernel_rfl) (by kernel_rfl) ?_
  repeat (go_big_quiet_step (first
    | (go_at_call 109; exact later_same _ (ct _))
    | (go_at_call 108; exact later_of _ (p1 _))))
  refine wpQuiet_nil ?_
  rintro _ ⟨x1, rfl⟩
  go_wp2
  refine wp_region_later' x1 (by kernel_rfl) (by kernel_rfl) ?_
  repeat (go_big_quiet_step (first
    | (go_at_call 110; exact later_same _ (cg _))
    | (go_at_call 108; exact later_of _ (p2 _))))
  refine wpQuiet_nil ?_
  rintro _ ⟨x2, rfl⟩
  go_wp2
  go_ret
  exact Ret.mk rfl x2.below

theorem HdPack_any (t g : Int) (w : World) (hF : HasHead w) : Calls Tryd.prog 86 #[.int .i64 t, .int .i64 g] w (Ret w (.tuple #[.int .i64 (hpV t g), .int .i64 (hpE t g)])) := by
  have ht := isTop_any t
  cases kt : topP t
  · have k : hpB t g = false := by
      cases h : hpB t g
      · rfl
      · have := hpB_of h
        rw [topP_true ⟨this.1, this.2.1⟩] at kt
        cases kt
    rw [hpV_bad k, hpE_bad k]
    rw [kt] at ht
    clear k
    go_enter Tryd.func86, Tryd.ntmps86
    go_wp2_with (go_at_call 99; refine (ht _).mono ?_; rintro _ _ ⟨rfl, rfl⟩)
    go_ret2
    exact Ret.mk rfl (Below.refl _ _)
  · obtain ⟨t0, t1⟩ := topP_of kt
    rw [kt] at ht
    by_cases hg : 0 ≤ g ∧ g ≤ 4294967295
    · have k : hpB t g = true := hpB_true ⟨t0, t1, hg.1, hg.2⟩
      rw [hpV_ok k, hpE_ok k]
      have kg : decide (0 ≤ g ∧ g ≤ 4294967295) = true := by simpa using hg
      have cf := frontOf_any t g
      have cw := fword_any t g t0 (by omega) hg.1 hg.2 w hF
      generalize cx t g = f at *
      clear k
      go_enter Tryd.func86, Tryd.ntmps86
      go_wp2_with (first
        | (go_at_call 99; refine (ht _).mono ?_; rintro _ _ ⟨rfl, rfl⟩)
        | (go_at_call 100; refine (hwithin_any _ _ _).mono ?_; rintro _ _ ⟨rfl, rfl⟩)
        | (go_at_call 101; refine (cf _).mono ?_; rintro _ _ ⟨rfl, rfl⟩)
        | (go_at_call 102; refine cw.mono ?_; rintro _ _ ⟨rfl, x2, rfl⟩))
      go_ret2
      exact Ret.mk rfl x2.below
    · have k : hpB t g = false := hpB_false (by omega)
      rw [hpV_bad k, hpE_bad k]
      have kg : decide (0 ≤ g ∧ g ≤ 4294967295) = false := by simpa using hg
      clear k
      go_enter Tryd.func86, Tryd.ntmps86
      go_wp2_with (first
        | (go_at_call 99; refine (ht _).mono ?_; rintro _ _ ⟨rfl, rfl⟩)
        | (go_at_call 100; refine (hwithin_any _ _ _).mono ?_; rintro _ _ ⟨rfl, rfl⟩))
      go_ret2
      exact Ret.mk rfl (Below.refl _ _)
end Go.Proofs.YtnojemmpgaibkaaDoor
