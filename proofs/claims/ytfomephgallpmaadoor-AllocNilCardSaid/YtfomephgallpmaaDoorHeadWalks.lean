/-
  What each call of package head answers, at every input.
  Conditions: that a word is no more than an int holds; that the package's two fields read as they are laid.
-/
import Derived.Test.YtfomephgallpmaaDoorHeadRef
import Derived.Test.YtfomephgallpmaaDoorFieldCore
import Derived.Test.YtfomephgallpmaaDoorFloat
import Derived.OwnWalk
namespace Go.Proofs.YtfomephgallpmaaDoor
open Go.RowKit
attribute [local go_sem] Later.cell Later.frozen Later.lt Later.le
set_option linter.unusedVariables false

/-- The package's two fields read as its text lays them. -/
structure HasHead (w : World) : Prop where
  lt0 : 1 < w.heap.size
  lt1 : 2 < w.heap.size
  c0 : w.cell? ⟨1, 0, none⟩ = some (.int .i64 0)
  c1 : w.cell? ⟨1, 1, none⟩ = some (.int .i64 20)
  c2 : w.cell? ⟨2, 0, none⟩ = some (.int .i64 20)
  c3 : w.cell? ⟨2, 1, none⟩ = some (.int .i64 32)

theorem HasHead.below {w w' : World} (h : HasHead w) (hb : Below w.heap.size w w') : HasHead w' :=
  ⟨Nat.lt_of_lt_of_le h.lt0 hb.size, Nat.lt_of_lt_of_le h.lt1 hb.size, (hb.cell h.lt0).trans h.c0, (hb.cell h.lt0).trans h.c1, (hb.cell h.lt1).trans h.c2, (hb.cell h.lt1).trans h.c3⟩
theorem Later.heads {w : World} (x : Later w) (h : HasHead w) : HasHead x.at' := h.below x.below

theorem hwithin_any (n m : Int) (w : World) : Calls Tryd.prog 66 #[.int .i64 n, .int .i64 m] w fun e w' => e = .returned (.bool (decide (0 ≤ n ∧ n ≤ m))) ∧ w = w' := by
  by_cases h0 : 0 ≤ n
  · by_cases h1 : n ≤ m
    · go_enter Tryd.func66, Tryd.ntmps66
      go_wp2
      go_ret
      exact ⟨by simp [h0, h1], rfl⟩
    · go_enter Tryd.func66, Tryd.ntmps66
      go_wp2
      go_ret
      exact ⟨by simp [h1], rfl⟩
  · go_enter Tryd.func66, Tryd.ntmps66
    go_wp2
    go_ret
    exact ⟨by simp; omega, rfl⟩
theorem isTop_any (n : Int) (w : World) : Calls Tryd.prog 65 #[.int .i64 n] w fun e w' => e = .returned (.bool (topP n)) ∧ w = w' := by
  go_enter Tryd.func65, Tryd.ntmps65
  go_wp2_with (go_at_call 66; refine (hwithin_any _ _ _).mono ?_; rintro _ _ ⟨rfl, rfl⟩)
  go_ret
  exact ⟨by simp [topP, Bool.decide_and], rfl⟩

/-- The number whose real part is t, and whose imaginary one is g. -/
def cx (t g : Int) : Value := .complex .f64 (floatOfInt .f64 t) (floatOfInt .f64 g)

theorem frontOf_any (t g : Int) (w : World) : Calls Tryd.prog 67 #[.int .i64 t, .int .i64 g] w fun e w' => e = .returned (cx t g) ∧ w = w' := by
  go_enter Tryd.func67, Tryd.ntmps67
  go_wp2
  go_ret
  exact ⟨rfl, rfl⟩
theorem ftop_any (t g : Int) (h0 : 0 ≤ t) (h1 : t < 9007199254740992) (w : World) : Calls Tryd.prog 80 #[cx t g] w fun e w' => e = .returned (.int .i64 t) ∧ w = w' := by
  have hc : ∀ w, (convert 104 3 (.float .f64 (floatOfInt .f64 t))).run Tryd.prog w = .ok (.int .i64 t) w := fun w =>
    run_convert_float_int w 104 3 .f64 .i64 _ t (by kernel_rfl) (by kernel_rfl) (float_back t h0 h1)
  unfold cx
  go_enter Tryd.func80, Tryd.ntmps80
  go_wp2
  go_ret
  exact ⟨rfl, rfl⟩
theorem ftag_any (t g : Int) (h0 : 0 ≤ g) (h1 : g < 9007199254740992) (w : World) : Calls Tryd.prog 81 #[cx t g] w fun e w' => e = .returned (.int .i64 g) ∧ w = w' := by
  have hc : ∀ w, (convert 104 3 (.float .f64 (floatOfInt .f64 g))).run Tryd.prog w = .ok (.int .i64 g) w := fun w =>
    run_convert_float_int w 104 3 .f64 .i64 _ g (by kernel_rfl) (by kernel_rfl) (float_back g h0 h1)
  unfold cx
  go_enter Tryd.func81, Tryd.ntmps81
  go_wp2
  go_ret
  exact ⟨rfl, rfl⟩
theorem fnext_any (t g t' : Int) (h0 : 0 ≤ g) (h1 : g ≤ 4294967295) (w : World) : Calls Tryd.prog 95 #[cx t g, .int .i64 t'] w fun e w' => e = .returned (cx t' (nx g)) ∧ w = w' := by
  have ct := ftag_any t g h0 (by omega)
  generalize cx t g = f at ct
  by_cases h : g = 4294967295
  · have e : nx g = 0 := by unfold nx; omega
    rw [e]
    subst h
    go_enter Tryd.func95, Tryd.ntmps95
    go_wp2_with (first
      | (go_at_call 81; refine (ct _).mono ?_; rintro _ _ ⟨rfl, rfl⟩)
      | (go_at_call 67; refine (frontOf_any _ _ _).mono ?_; rintro _ _ ⟨rfl, rfl⟩))
    go_ret
    exact ⟨rfl, rfl⟩
  · have e : nx g = g + 1 := by unfold nx; omega
    rw [e]
    go_enter Tryd.func95, Tryd.ntmps95
    go_wp2_with (first
      | (go_at_call 81; refine (ct _).mono ?_; rintro _ _ ⟨rfl, rfl⟩)
      | (go_at_call 67; refine (frontOf_any _ _ _).mono ?_; rintro _ _ ⟨rfl, rfl⟩))
    go_ret
    exact ⟨rfl, rfl⟩

theorem put_top {t : Int} (h0 : 0 ≤ t) (h1 : t < 1048576) : putFV 0 0 20 t = t := by
  rw [putV_both (by decide) (by decide)]
  have e : tw 20 = 1048576 := by decide
  rw [putV_ok h0 (by omega)]
  simp [fput, fget, tw]
theorem put_tag {t g : Int} (h0 : 0 ≤ t) (h1 : t < 1048576) (h2 : 0 ≤ g) (h3 : g ≤ 4294967295) : putFV t 20 32 g = t + g * 1048576 := by
  rw [putV_both (isw_true h0 (by omega)) (by decide)]
  have e : tw 20 = 1048576 := by decide
  have e' : tw 32 = 4294967296 := by decide
  rw [putV_ok h2 (by omega)]
  unfold fput fget
  rw [e, e']
  omega

theorem fword_any (t g : Int) (h0 : 0 ≤ t) (h1 : t < 1048576) (h2 : 0 ≤ g) (h3 : g ≤ 4294967295) (w : World) (hF : HasHead w) : Calls Tryd.prog 68 #[cx t g] w (Ret w (.int .i64 (t + g * 1048576))) := by
  have ct := ftop_any t g h0 (by omega)
  have cg := ftag_any t g h2 (by omega)
  have p1 := fun W => Put_at 0 20 0 t (put_top h0 h1) rfl W
  have p2 := fun W => Put_at 20 32 t g (put_tag h0 h1 h2 h3) rfl W
  obtain ⟨l0, l1, c0, c1, c2, c3⟩ := hF
  generalize cx t g = f at ct cg
  generalize putFE 0 0 20 t = e1 at p1
  generalize putFE t 20 32 g = e2 at p2
  go_enter Tryd.func68, Tryd.ntmps68
  go_wp2
  refine wp_region_later (by kernel_rfl) (by kernel_rfl) ?_
  repeat (go_big_quiet_step (first
    | (go_at_call 80; exact later_same _ (ct _))
    | (go_at_call 79; exact later_of _ (p1 _))))
  refine wpQuiet_nil ?_
  rintro _ ⟨x1, rfl⟩
  go_wp2
  refine wp_region_later' x1 (by kernel_rfl) (by kernel_rfl) ?_
  repeat (go_big_quiet_step (first
    | (go_at_call 81; exact later_same _ (cg _))
    | (go_at_call 79; exact later_of _ (p2 _))))
  refine wpQuiet_nil ?_
  rintro _ ⟨x2, rfl⟩
  go_wp2
  go_ret
  exact Ret.mk rfl x2.below

/-- What stands in a word's two fields. -/
theorem get_parts (x : Int) : 0 ≤ getF x 0 20 ∧ getF x 0 20 < 1048576 ∧ 0 ≤ getF x 20 32 ∧ getF x 20 32 ≤ 4294967295 := by
  have e : tw 20 = 1048576 := by decide
  have e' : tw 32 = 4294967296 := by decide
  cases h : isw x
  · rw [getF_bad (.inl h), getF_bad (.inl h)]
    decide
  · rw [getF_both h (by decide), getF_both h (by decide)]
    have h1 := fget_bd x 0 20
    have h2 := fget_bd x 20 32
    omega
theorem heB_parts (x : Int) : heB x = (topP (getF x 0 20) && (getF x 0 20 + getF x 20 32 * 1048576 == x)) ∧ (heB x = true → getF x 0 20 = x % 1048576 ∧ getF x 20 32 = x / 1048576) := by
  have e0 : tw 0 = 1 := by decide
  have e : tw 20 = 1048576 := by decide
  have e' : tw 32 = 4294967296 := by decide
  have key : heB x = true → isw x = true ∧ getF x 0 20 = x % 1048576 ∧ getF x 20 32 = x / 1048576 := by
    intro h
    obtain ⟨h0, h1, h2⟩ := heB_of h
    have hw : isw x = true := isw_true h0 (by omega)
    refine ⟨hw, ?_⟩
    rw [getF_both hw (by decide), getF_both hw (by decide)]
    unfold fget
    rw [e0, e, e']
    omega
  refine ⟨?_, fun h => (key h).2⟩
  cases h : heB x
  · symm
    cases hw : isw x
    · rw [getF_bad (.inl hw), getF_bad (.inl hw)]
      have : (0 + 0 * 1048576 == x) = false := by
        have : x ≠ 0 := by
          intro hx
          subst hx
          cases hw
        simpa using fun hx => this hx.symm
      rw [this]
      simp
    · rw [getF_both hw (by decide), getF_both hw (by decide)]
      obtain ⟨h0, h1⟩ := isw_of hw
      by_cases ht : topP (fget x 0 20) = true
      · rw [ht]
        have ht' := topP_of ht
        unfold fget at ht'
        rw [e0, e] at ht'
        have hn : ¬ (x / 1048576 ≤ 4294967295) := by
          intro hle
          rw [heB_true ⟨h0, by omega, hle⟩] at h
          cases h
        unfold fget
        rw [e0, e, e']
        have : (x / 1 % 1048576 + x / 1048576 % 4294967296 * 1048576 == x) = false := by simp; omega
        rw [this]
        rfl
      · rw [show topP (fget x 0 20) = false by simpa using ht]
        rfl
  · obtain ⟨hw, h1, h2⟩ := key h
    obtain ⟨k0, k1, k2⟩ := heB_of h
    rw [h1, h2, topP_true ⟨by omega, k1⟩]
    have : (x % 1048576 + x / 1048576 * 1048576 == x) = true := by simp; omega
    rw [this]
    rfl

/-- What a word unpacks to within. -/
def unV (x : Int) : Value := if heB x then cx (x % 1048576) (x / 1048576) else .complex .f64 0 0
theorem unV_ok {x : Int} (h : heB x = true) : unV x = cx (x % 1048576) (x / 1048576) := if_pos h
theorem unV_bad {x : Int} (h : heB x = false) : unV x = .complex .f64 0 0 := if_neg (by rw [h]; decide)

theorem hunpacked_any (x : Int) (w : World) (hF : HasHead w) : Calls Tryd.prog 94 #[.int .i64 x] w (Ret w (.tuple #[unV x, .int .i64 (heE x)])) := by
  obtain ⟨t0, t1, g0, g1⟩ := get_parts x
  obtain ⟨hB, hP⟩ := heB_parts x
  have p1 := fun W => Get_any 0 20 x W
  have p2 := fun W => Get_any 20 32 x W
  have HV : heB x = true → unV x = cx (getF x 0 20) (getF x 20 32) := fun h => by rw [unV_ok h, (hP h).1, (hP h).2]
  have HB := fun h => unV_bad (x := x) h
  have EV := fun h => heE_ok (w := x) h
  have EB := fun h => heE_bad (w := x) h
  clear hP
  generalize getF x 0 20 = T at *
  generalize getF x 20 32 = G at *
  have cf := frontOf_any T G
  have cw := fun (W : World) (hW : HasHead W) => fword_any T G t0 t1 g0 g1 W hW
  generalize cx T G = f at *
  generalize unV x = uv at *
  generalize heE x = ue at *
  obtain ⟨l0, l1, c0, c1, c2, c3⟩ := id hF
  have ht := isTop_any T
  cases kt : topP T
  · rw [kt] at hB ht
    simp only [Bool.false_and] at hB
    rw [HB hB, EB hB]
    clear HB EB EV HV hB
    go_enter Tryd.func94, Tryd.ntmps94
    go_wp2
    refine wp_region_later (by kernel_rfl) (by kernel_rfl) ?_
    repeat (go_big_quiet_step (first
      | (go_at_call 89; with_reducible exact later_of _ (p1 _))
      | (go_at_call 89; with_reducible exact later_of _ (p2 _))))
    refine wpQuiet_nil ?_
    rintro _ ⟨x1, rfl⟩
    go_wp2_with (first
      | (go_at_call 67; refine (cf _).mono ?_; rintro _ _ ⟨rfl, rfl⟩)
      | (go_at_call 65; refine (ht _).mono ?_; rintro _ _ ⟨rfl, rfl⟩))
    go_ret2
    exact Ret.mk rfl x1.below
  · rw [kt] at hB ht
    simp only [Bool.true_and] at hB
    cases kw : (T + G * 1048576 == x)
    · have kw' : (T + G * 1048576 != x) = true := by simp only [bne, kw]; rfl
      rw [kw] at hB
      rw [HB hB, EB hB]
      clear HB EB EV HV hB
      go_enter Tryd.func94, Tryd.ntmps94
      go_wp2
      refine wp_region_later (by kernel_rfl) (by kernel_rfl) ?_
      repeat (go_big_quiet_step (first
        | (go_at_call 89; with_reducible exact later_of _ (p1 _))
        | (go_at_call 89; with_reducible exact later_of _ (p2 _))))
      refine wpQuiet_nil ?_
      rintro _ ⟨x1, rfl⟩
      go_wp2_with (first
        | (go_at_call 67; refine (cf _).mono ?_; rintro _ _ ⟨rfl, rfl⟩)
        | (go_at_call 65; refine (ht _).mono ?_; rintro _ _ ⟨rfl, rfl⟩)
        | (go_at_call 68; refine (later_of _ (cw _ (x1.heads hF))).mono ?_; rintro _ _ ⟨rfl, x2, rfl⟩))
      go_ret2
      exact Ret.mk rfl x2.below
    · have kw' : (T + G * 1048576 != x) = false := by simp only [bne, kw]; rfl
      rw [kw] at hB
      rw [HV hB, EV hB]
      clear HB EB EV HV hB
      go_enter Tryd.func94, Tryd.ntmps94
      go_wp2
      refine wp_region_later (by kernel_rfl) (by kernel_rfl) ?_
      repeat (go_big_quiet_step (first
        | (go_at_call 89; with_reducible exact later_of _ (p1 _))
        | (go_at_call 89; with_reducible exact later_of _ (p2 _))))
      refine wpQuiet_nil ?_
      rintro _ ⟨x1, rfl⟩
      go_wp2_with (first
        | (go_at_call 67; refine (cf _).mono ?_; rintro _ _ ⟨rfl, rfl⟩)
        | (go_at_call 65; refine (ht _).mono ?_; rintro _ _ ⟨rfl, rfl⟩)
        | (go_at_call 68; refine (later_of _ (cw _ (x1.heads hF))).mono ?_; rintro _ _ ⟨rfl, x2, rfl⟩))
      go_ret2
      exact Ret.mk rfl x2.below

theorem HdPack_any (t g : Int) (w : World) (hF : HasHead w) : Calls Tryd.prog 50 #[.int .i64 t, .int .i64 g] w (Ret w (.tuple #[.int .i64 (hpV t g), .int .i64 (hpE t g)])) := by
  have ht := isTop_any t
  cases kt : topP t
  · have k : hpB t g = false := by
      cases h : hpB t g
      · rfl
      · have := hpB_of h
        rw [topP_true ⟨this.1, this.2.1⟩] at kt
        cases kt
    rw [hpV_bad k, hpE_bad k]
    rw [kt] at ht
    clear k
    go_enter Tryd.func50, Tryd.ntmps50
    go_wp2_with (go_at_call 65; refine (ht _).mono ?_; rintro _ _ ⟨rfl, rfl⟩)
    go_ret2
    exact Ret.mk rfl (Below.refl _ _)
  · obtain ⟨t0, t1⟩ := topP_of kt
    rw [kt] at ht
    by_cases hg : 0 ≤ g ∧ g ≤ 4294967295
    · have k : hpB t g = true := hpB_true ⟨t0, t1, hg.1, hg.2⟩
      rw [hpV_ok k, hpE_ok k]
      have kg : decide (0 ≤ g ∧ g ≤ 4294967295) = true := by simpa using hg
      have cf := frontOf_any t g
      have cw := fword_any t g t0 (by omega) hg.1 hg.2 w hF
      generalize cx t g = f at *
      clear k
      go_enter Tryd.func50, Tryd.ntmps50
      go_wp2_with (first
        | (go_at_call 65; refine (ht _).mono ?_; rintro _ _ ⟨rfl, rfl⟩)
        | (go_at_call 66; refine (hwithin_any _ _ _).mono ?_; rintro _ _ ⟨rfl, rfl⟩)
        | (go_at_call 67; refine (cf _).mono ?_; rintro _ _ ⟨rfl, rfl⟩)
        | (go_at_call 68; refine cw.mono ?_; rintro _ _ ⟨rfl, x2, rfl⟩))
      go_ret2
      exact Ret.mk rfl x2.below
    · have k : hpB t g = false := hpB_false (by omega)
      rw [hpV_bad k, hpE_bad k]
      have kg : decide (0 ≤ g ∧ g ≤ 4294967295) = false := by simpa using hg
      clear k
      go_enter Tryd.func50, Tryd.ntmps50
      go_wp2_with (first
        | (go_at_call 65; refine (ht _).mono ?_; rintro _ _ ⟨rfl, rfl⟩)
        | (go_at_call 66; refine (hwithin_any _ _ _).mono ?_; rintro _ _ ⟨rfl, rfl⟩))
      go_ret2
      exact Ret.mk rfl (Below.refl _ _)

theorem HdUnpack_any (x : Int) (hm : x ≤ 9223372036854775807) (w : World) (hF : HasHead w) : Calls Tryd.prog 82 #[.int .i64 x] w (Ret w (.tuple #[.int .i64 (heT x), .int .i64 (heG x), .int .i64 (heE x)])) := by
  have cu := hunpacked_any x w hF
  cases k : heB x
  · rw [heT_bad k, heG_bad k, heE_bad k]
    rw [unV_bad k, heE_bad k] at cu
    go_enter Tryd.func82, Tryd.ntmps82
    go_wp2_with (go_at_call 94; refine cu.mono ?_; rintro _ _ ⟨rfl, x1, rfl⟩)
    go_ret3
    exact Ret.mk rfl x1.below
  · rw [heT_ok k, heG_ok k, heE_ok k]
    rw [unV_ok k, heE_ok k] at cu
    obtain ⟨h0, h1, h2⟩ := heB_of k
    have ct := ftop_any (x % 1048576) (x / 1048576) (by omega) (by omega)
    have cg := ftag_any (x % 1048576) (x / 1048576) (by omega) (by omega)
    generalize cx (x % 1048576) (x / 1048576) = f at *
    go_enter Tryd.func82, Tryd.ntmps82
    go_wp2_with (first
      | (go_at_call 94; refine cu.mono ?_; rintro _ _ ⟨rfl, x1, rfl⟩)
      | (go_at_call 80; refine (ct _).mono ?_; rintro _ _ ⟨rfl, rfl⟩)
      | (go_at_call 81; refine (cg _).mono ?_; rintro _ _ ⟨rfl, rfl⟩))
    go_ret3
    exact Ret.mk rfl x1.below

theorem HdPop_any (x l : Int) (hm : x ≤ 9223372036854775807) (w : World) (hF : HasHead w) : Calls Tryd.prog 85 #[.int .i64 x, .int .i64 l] w (Ret w (.tuple #[.int .i64 (popV x l), .int .i64 (popS x l), .int .i64 (popE x l)])) := by
  have cu := hunpacked_any x w hF
  cases k : heB x
  · have e := popE_form (l := l) k
    rw [popV_bad (by rw [e]; decide), popS_bad (by rw [e]; decide), e]
    rw [unV_bad k, heE_bad k] at cu
    clear e
    go_enter Tryd.func85, Tryd.ntmps85
    go_wp2_with (go_at_call 94; refine cu.mono ?_; rintro _ _ ⟨rfl, x1, rfl⟩)
    go_ret3
    exact Ret.mk rfl x1.below
  · rw [unV_ok k, heE_ok k] at cu
    obtain ⟨h0, h1, h2⟩ := heB_of k
    have ct := ftop_any (x % 1048576) (x / 1048576) (by omega) (by omega)
    have cn := fnext_any (x % 1048576) (x / 1048576) l (by omega) h2
    have hl := isTop_any l
    cases kl : topP l
    · have e := popE_arg (l := l) k kl
      rw [popV_bad (by rw [e]; decide), popS_bad (by rw [e]; decide), e]
      rw [kl] at hl
      generalize cx (x % 1048576) (x / 1048576) = f at *
      clear e
      go_enter Tryd.func85, Tryd.ntmps85
      go_wp2_with (first
        | (go_at_call 94; refine cu.mono ?_; rintro _ _ ⟨rfl, x1, rfl⟩)
        | (go_at_call 65; refine (hl _).mono ?_; rintro _ _ ⟨rfl, rfl⟩))
      go_ret3
      exact Ret.mk rfl x1.below
    · rw [kl] at hl
      by_cases hz : x % 1048576 = 0
      · have e := popE_none k kl hz
        rw [popV_bad (by rw [e]; decide), popS_bad (by rw [e]; decide), e]
        rw [hz] at ct cu
        clear cn
        generalize cx 0 (x / 1048576) = f at *
        clear e
        go_enter Tryd.func85, Tryd.ntmps85
        go_wp2_with (first
          | (go_at_call 94; refine cu.mono ?_; rintro _ _ ⟨rfl, x1, rfl⟩)
          | (go_at_call 65; refine (hl _).mono ?_; rintro _ _ ⟨rfl, rfl⟩)
          | (go_at_call 80; refine (ct _).mono ?_; rintro _ _ ⟨rfl, rfl⟩))
        go_ret3
        exact Ret.mk rfl x1.below
      · have e := popE_ok k kl hz
        rw [popV_ok e, popS_ok e, e]
        obtain ⟨l0, l1⟩ := topP_of kl
        obtain ⟨n0, n1⟩ := nx_bd (x / 1048576)
        have hz' : (x % 1048576 == 0) = false := by simpa using hz
        have hb : 0 ≤ x % 1048576 ∧ x % 1048576 < 1048576 := by omega
        generalize nx (x / 1048576) = N at *
        have cw := fun (W : World) (hW : HasHead W) => fword_any l N l0 (by omega) n0 n1 W hW
        generalize cx (x % 1048576) (x / 1048576) = f at *
        generalize cx l N = f' at *
        generalize x % 1048576 = T at *
        clear e
        go_enter Tryd.func85, Tryd.ntmps85
        go_wp2_with (first
          | (go_at_call 94; refine cu.mono ?_; rintro _ _ ⟨rfl, x1, rfl⟩)
          | (go_at_call 65; refine (hl _).mono ?_; rintro _ _ ⟨rfl, rfl⟩)
          | (go_at_call 80; refine (ct _).mono ?_; rintro _ _ ⟨rfl, rfl⟩)
          | (go_at_call 95; refine (cn _).mono ?_; rintro _ _ ⟨rfl, rfl⟩)
          | (go_at_call 68; refine (later_of _ (cw _ (x1.heads hF))).mono ?_; rintro _ _ ⟨rfl, x2, rfl⟩))
        go_ret3
        exact Ret.mk rfl x2.below

theorem HdPush_any (x s : Int) (hm : x ≤ 9223372036854775807) (w : World) (hF : HasHead w) : Calls Tryd.prog 88 #[.int .i64 x, .int .i64 s] w (Ret w (.tuple #[.int .i64 (pushV x s), .int .i64 (pushL x s), .int .i64 (pushE x s)])) := by
  have cu := hunpacked_any x w hF
  cases k : heB x
  · have e := pushE_form (s := s) k
    rw [pushV_bad (by rw [e]; decide), pushL_bad (by rw [e]; decide), e]
    rw [unV_bad k, heE_bad k] at cu
    clear e
    go_enter Tryd.func88, Tryd.ntmps88
    go_wp2_with (go_at_call 94; refine cu.mono ?_; rintro _ _ ⟨rfl, x1, rfl⟩)
    go_ret3
    exact Ret.mk rfl x1.below
  · rw [unV_ok k, heE_ok k] at cu
    obtain ⟨h0, h1, h2⟩ := heB_of k
    have ct := ftop_any (x % 1048576) (x / 1048576) (by omega) (by omega)
    have cn := fnext_any (x % 1048576) (x / 1048576) (s + 1) (by omega) h2
    by_cases hs : 0 ≤ s ∧ s ≤ 63
    · have e := pushE_ok k (slotP_true hs)
      rw [pushV_ok e, pushL_ok e, e]
      have ks : decide (0 ≤ s ∧ s ≤ 63) = true := by simpa using hs
      obtain ⟨n0, n1⟩ := nx_bd (x / 1048576)
      have hb : 0 ≤ x % 1048576 ∧ x % 1048576 < 1048576 := by omega
      generalize nx (x / 1048576) = N at *
      have cw := fun (W : World) (hW : HasHead W) => fword_any (s + 1) N (by omega) (by omega) n0 n1 W hW
      generalize cx (x % 1048576) (x / 1048576) = f at *
      generalize cx (s + 1) N = f' at *
      generalize x % 1048576 = T at *
      clear e
      go_enter Tryd.func88, Tryd.ntmps88
      go_wp2_with (first
        | (go_at_call 94; refine cu.mono ?_; rintro _ _ ⟨rfl, x1, rfl⟩)
        | (go_at_call 66; refine (hwithin_any _ _ _).mono ?_; rintro _ _ ⟨rfl, rfl⟩)
        | (go_at_call 80; refine (ct _).mono ?_; rintro _ _ ⟨rfl, rfl⟩)
        | (go_at_call 95; refine (cn _).mono ?_; rintro _ _ ⟨rfl, rfl⟩)
        | (go_at_call 68; refine (later_of _ (cw _ (x1.heads hF))).mono ?_; rintro _ _ ⟨rfl, x2, rfl⟩))
      go_ret3
      exact Ret.mk rfl x2.below
    · have e := pushE_arg k (slotP_false hs)
      rw [pushV_bad (by rw [e]; decide), pushL_bad (by rw [e]; decide), e]
      have ks : decide (0 ≤ s ∧ s ≤ 63) = false := by simpa using hs
      generalize cx (x % 1048576) (x / 1048576) = f at *
      clear e
      go_enter Tryd.func88, Tryd.ntmps88
      go_wp2_with (first
        | (go_at_call 94; refine cu.mono ?_; rintro _ _ ⟨rfl, x1, rfl⟩)
        | (go_at_call 66; refine (hwithin_any _ _ _).mono ?_; rintro _ _ ⟨rfl, rfl⟩))
      go_ret3
      exact Ret.mk rfl x1.below

end Go.Proofs.YtfomephgallpmaaDoor
