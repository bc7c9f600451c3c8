/-
  What the document's own functions answer for layer 4.
  Conditions: none.
-/
import Derived.Test.YtlidoicpfomfcaaDoorProg
import Derived.Test.YtlidoicpfomfcaaDoorLater
import Derived.Test.YtlidoicpfomfcaaDoorHeadMath
import Derived.WalkSpells
import Derived.WalkLawsBesides
import Derived.Lib.Hide
import Derived.BigQuiet
import Derived.LoopTactic
namespace Go.Proofs.YtlidoicpfomfcaaDoor
open Go.RowKit
attribute [local go_sem] Later.cell Later.frozen Later.lt Later.le

theorem hret_two {k : IntKind} {a b c d : Int} (h : a = b) (h' : c = d) : Ending.returned (.tuple #[.int k a, .int k c]) = .returned (.tuple #[.int k b, .int k d]) := by rw [h, h']
theorem hret_three {k : IntKind} {a b c d e f : Int} (h : a = b) (h' : c = d) (h'' : e = f) : Ending.returned (.tuple #[.int k a, .int k c, .int k e]) = .returned (.tuple #[.int k b, .int k d, .int k f]) := by rw [h, h', h'']

theorem refTop_any (t : Int) (w : World) : Calls Tryd.prog 64 #[.int .i64 t] w fun e w' => e = .returned (.bool (topP t)) ∧ w = w' := by
  by_cases h0 : 0 ≤ t
  · by_cases h1 : t ≤ 64
    · go_enter Tryd.func64, Tryd.ntmps64
      go_wp2
      go_ret
      exact ⟨by rw [topP_true ⟨h0, h1⟩]; rfl, rfl⟩
    · go_enter Tryd.func64, Tryd.ntmps64
      go_wp2
      go_ret
      exact ⟨by rw [topP_false (by omega)]; rfl, rfl⟩
  · go_enter Tryd.func64, Tryd.ntmps64
    go_wp2
    go_ret
    exact ⟨by rw [topP_false (by omega)]; rfl, rfl⟩

theorem refHPack_any (t g : Int) (w : World) : Calls Tryd.prog 82 #[.int .i64 t, .int .i64 g] w fun e w' => e = .returned (.tuple #[.int .i64 (hpV t g), .int .i64 (hpE t g)]) ∧ w = w' := by
  cases ht : topP t
  · have k : hpB t g = false := by
      cases h : hpB t g
      · rfl
      · have := hpB_of h
        rw [topP_true ⟨this.1, this.2.1⟩] at ht
        cases ht
    rw [hpV_bad k, hpE_bad k]
    clear k
    go_enter Tryd.func82, Tryd.ntmps82
    go_wp2_with (go_at_call 64; refine (refTop_any _ _).mono ?_; rintro _ _ ⟨rfl, rfl⟩)
    go_ret2
    exact ⟨rfl, rfl⟩
  · have ht' := topP_of ht
    by_cases h0 : g < 0
    · have k : hpB t g = false := hpB_false (by omega)
      rw [hpV_bad k, hpE_bad k]
      clear k
      go_enter Tryd.func82, Tryd.ntmps82
      go_wp2_with (go_at_call 64; refine (refTop_any _ _).mono ?_; rintro _ _ ⟨rfl, rfl⟩)
      go_ret2
      exact ⟨rfl, rfl⟩
    · by_cases h1 : 4294967295 < g
      · have k : hpB t g = false := hpB_false (by omega)
        rw [hpV_bad k, hpE_bad k]
        clear k
        go_enter Tryd.func82, Tryd.ntmps82
        go_wp2_with (go_at_call 64; refine (refTop_any _ _).mono ?_; rintro _ _ ⟨rfl, rfl⟩)
        go_ret2
        exact ⟨rfl, rfl⟩
      · have k : hpB t g = true := hpB_true (by omega)
        rw [hpV_ok k, hpE_ok k]
        clear k
        go_enter Tryd.func82, Tryd.ntmps82
        go_wp2_with (go_at_call 64; refine (refTop_any _ _).mono ?_; rintro _ _ ⟨rfl, rfl⟩)
        go_ret2
        exact ⟨hret_two (by omega) rfl, rfl⟩

theorem refHUnpack_any (x : Int) (hm : x ≤ 9223372036854775807) (w : World) : Calls Tryd.prog 42 #[.int .i64 x] w fun e w' => e = .returned (.tuple #[.int .i64 (heT x), .int .i64 (heG x), .int .i64 (heE x)]) ∧ w = w' := by
  by_cases h0 : x < 0
  · have k : heB x = false := heB_false (by omega)
    rw [heT_bad k, heG_bad k, heE_bad k]
    clear k
    go_enter Tryd.func42, Tryd.ntmps42
    go_wp2
    go_ret3
    exact ⟨rfl, rfl⟩
  · cases ht : topP (x % 1048576)
    · have k : heB x = false := by
        cases h : heB x
        · rfl
        · have := heB_of h
          rw [topP_true ⟨by omega, this.2.1⟩] at ht
          cases ht
      rw [heT_bad k, heG_bad k, heE_bad k]
      clear k
      go_enter Tryd.func42, Tryd.ntmps42
      go_wp2_with (go_at_call 64; refine (refTop_any _ _).mono ?_; rintro _ _ ⟨rfl, rfl⟩)
      go_ret3
      exact ⟨rfl, rfl⟩
    · have ht' := topP_of ht
      by_cases h1 : 4294967295 < x / 1048576
      · have k : heB x = false := heB_false (by omega)
        rw [heT_bad k, heG_bad k, heE_bad k]
        clear k
        go_enter Tryd.func42, Tryd.ntmps42
        go_wp2_with (go_at_call 64; refine (refTop_any _ _).mono ?_; rintro _ _ ⟨rfl, rfl⟩)
        go_ret3
        exact ⟨rfl, rfl⟩
      · have k : heB x = true := heB_true (by omega)
        rw [heT_ok k, heG_ok k, heE_ok k]
        clear k
        go_enter Tryd.func42, Tryd.ntmps42
        go_wp2_with (go_at_call 64; refine (refTop_any _ _).mono ?_; rintro _ _ ⟨rfl, rfl⟩)
        go_ret3
        exact ⟨rfl, rfl⟩

/-- What Unpack and Pack tell of a word that is a head's. -/
theorem refUnp_ok {x : Int} (hm : x ≤ 9223372036854775807) (k : heB x = true) (w : World) : Calls Tryd.prog 42 #[.int .i64 x] w fun e w' => e = .returned (.tuple #[.int .i64 (x % 1048576), .int .i64 (x / 1048576), .int .i64 (0)]) ∧ w = w' := by
  have h := refHUnpack_any x hm w
  rw [heT_ok k, heG_ok k, heE_ok k] at h
  exact h
theorem refUnp_bad {x : Int} (hm : x ≤ 9223372036854775807) (k : heB x = false) (w : World) : Calls Tryd.prog 42 #[.int .i64 x] w fun e w' => e = .returned (.tuple #[.int .i64 (0), .int .i64 (0), .int .i64 (2)]) ∧ w = w' := by
  have h := refHUnpack_any x hm w
  rw [heT_bad k, heG_bad k, heE_bad k] at h
  exact h
theorem refPck_ok {t g : Int} (k : hpB t g = true) (w : World) : Calls Tryd.prog 82 #[.int .i64 t, .int .i64 g] w fun e w' => e = .returned (.tuple #[.int .i64 (t + g * 1048576), .int .i64 (0)]) ∧ w = w' := by
  have h := refHPack_any t g w
  rw [hpV_ok k, hpE_ok k] at h
  exact h

theorem refPop_any (x l : Int) (hm : x ≤ 9223372036854775807) (w : World) : Calls Tryd.prog 75 #[.int .i64 x, .int .i64 l] w fun e w' => e = .returned (.tuple #[.int .i64 (popV x l), .int .i64 (popS x l), .int .i64 (popE x l)]) ∧ w = w' := by
  cases hx : heB x
  · have k := popE_form (l := l) hx
    rw [popV_bad (by rw [k]; decide), popS_bad (by rw [k]; decide), k]
    clear k
    have c := refUnp_bad hm hx
    go_enter Tryd.func75, Tryd.ntmps75
    go_wp2_with (go_at_call 42; (with_reducible refine (c _).mono ?_); rintro _ _ ⟨rfl, rfl⟩)
    go_ret3
    exact ⟨rfl, rfl⟩
  · have c := refUnp_ok hm hx
    have hx' := heB_of hx
    cases ht : topP l
    · have k := popE_arg hx ht
      rw [popV_bad (by rw [k]; decide), popS_bad (by rw [k]; decide), k]
      clear k
      go_enter Tryd.func75, Tryd.ntmps75
      go_wp2_with (first
        | (go_at_call 42; (with_reducible refine (c _).mono ?_); rintro _ _ ⟨rfl, rfl⟩)
        | (go_at_call 64; refine (refTop_any _ _).mono ?_; rintro _ _ ⟨rfl, rfl⟩))
      go_ret3
      exact ⟨rfl, rfl⟩
    · by_cases h0 : x % 1048576 = 0
      · have k := popE_none hx ht h0
        rw [popV_bad (by rw [k]; decide), popS_bad (by rw [k]; decide), k]
        clear k
        rw [h0] at c
        go_enter Tryd.func75, Tryd.ntmps75
        go_wp2_with (first
          | (go_at_call 42; (with_reducible refine (c _).mono ?_); rintro _ _ ⟨rfl, rfl⟩)
          | (go_at_call 64; refine (refTop_any _ _).mono ?_; rintro _ _ ⟨rfl, rfl⟩))
        go_ret3
        exact ⟨rfl, rfl⟩
      · have k := popE_ok hx ht h0
        rw [popV_ok k, popS_ok k, k]
        clear k
        have h0' : (x % 1048576 == 0) = false := by simpa using h0
        have cp := refPck_ok (hp_nx (topP_of ht) (x / 1048576))
        unfold nx at cp ⊢
        go_enter Tryd.func75, Tryd.ntmps75
        go_wp2_with (first
          | (go_at_call 42; (with_reducible refine (c _).mono ?_); rintro _ _ ⟨rfl, rfl⟩)
          | (go_at_call 82; (with_reducible refine (cp _).mono ?_); rintro _ _ ⟨rfl, rfl⟩)
          | (go_at_call 64; refine (refTop_any _ _).mono ?_; rintro _ _ ⟨rfl, rfl⟩))
        go_ret3
        exact ⟨rfl, rfl⟩

theorem refPush_any (x s : Int) (hm : x ≤ 9223372036854775807) (w : World) : Calls Tryd.prog 74 #[.int .i64 x, .int .i64 s] w fun e w' => e = .returned (.tuple #[.int .i64 (pushV x s), .int .i64 (pushL x s), .int .i64 (pushE x s)]) ∧ w = w' := by
  cases hx : heB x
  · have k := pushE_form (s := s) hx
    rw [pushV_bad (by rw [k]; decide), pushL_bad (by rw [k]; decide), k]
    clear k
    have c := refUnp_bad hm hx
    go_enter Tryd.func74, Tryd.ntmps74
    go_wp2_with (go_at_call 42; (with_reducible refine (c _).mono ?_); rintro _ _ ⟨rfl, rfl⟩)
    go_ret3
    exact ⟨rfl, rfl⟩
  · have c := refUnp_ok hm hx
    have hx' := heB_of hx
    by_cases h0 : s < 0
    · have k := pushE_arg hx (slotP_false (t := s) (by omega))
      rw [pushV_bad (by rw [k]; decide), pushL_bad (by rw [k]; decide), k]
      clear k
      go_enter Tryd.func74, Tryd.ntmps74
      go_wp2_with (go_at_call 42; (with_reducible refine (c _).mono ?_); rintro _ _ ⟨rfl, rfl⟩)
      go_ret3
      exact ⟨rfl, rfl⟩
    · by_cases h1 : 63 < s
      · have k := pushE_arg hx (slotP_false (t := s) (by omega))
        rw [pushV_bad (by rw [k]; decide), pushL_bad (by rw [k]; decide), k]
        clear k
        go_enter Tryd.func74, Tryd.ntmps74
        go_wp2_with (go_at_call 42; (with_reducible refine (c _).mono ?_); rintro _ _ ⟨rfl, rfl⟩)
        go_ret3
        exact ⟨rfl, rfl⟩
      · have k := pushE_ok hx (slotP_true (t := s) (by omega))
        rw [pushV_ok k, pushL_ok k, k]
        clear k
        have cp := refPck_ok (hp_nx (t := s + 1) (by omega) (x / 1048576))
        unfold nx at cp ⊢
        go_enter Tryd.func74, Tryd.ntmps74
        go_wp2_with (first
          | (go_at_call 42; (with_reducible refine (c _).mono ?_); rintro _ _ ⟨rfl, rfl⟩)
          | (go_at_call 82; (with_reducible refine (cp _).mono ?_); rintro _ _ ⟨rfl, rfl⟩))
        go_ret3
        exact ⟨rfl, rfl⟩
end Go.Proofs.YtlidoicpfomfcaaDoor
