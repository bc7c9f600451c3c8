/-
  The statement FieldTop of layer 1, walked: it answers true, and leaves alone all that was there.
  Conditions: none.
-/
import Derived.Test.YtohclplpcnkhbaaFieldLawWalks
namespace Go.Proofs.Ytohclplpcnkhbaa
open Go.RowKit
attribute [local go_sem] Later.cell Later.frozen Later.lt Later.le
attribute [local go_sem ↓] Go.wp_at_zero Go.wp_at_succ

theorem tops (x a b n : Int) (hw : isw x = true) (hf : fok a b = true) : ∃ T G, topF x a b n = T ∧ getF x a b = G ∧ 0 ≤ G ∧ G ≤ tw b - 1 ∧ ((G + n < 0 ∧ getF T a b = 0) ∨ (0 ≤ G + n ∧ tw b - 1 < G + n ∧ getF T a b = tw b - 1) ∨ (0 ≤ G + n ∧ G + n ≤ tw b - 1 ∧ getF T a b = G + n)) := by
  obtain ⟨h1, h2, h3, h4⟩ := fok_of hf
  obtain ⟨h5, h6⟩ := isw_of hw
  have hg := fget_bd x a b
  have hb := tw_b h2
  refine ⟨topV x a b n, fget x a b, topV_both hw hf, getF_both hw hf, hg.1, hg.2, ?_⟩
  have key : ∀ k : Int, 0 ≤ k → k ≤ tw b - 1 → getF (fput x a b k) a b = k := fun k k0 k1 => by
    have hbd := fput_bd (x := x) (n := k) (by omega) h3 h4 h5 h6 k0 k1
    rw [getF_both (isw_true hbd.1 hbd.2) hf, fget_fput (by omega) h3 k0 k1]
  by_cases k : n < -fget x a b
  · rw [topV_low k, key 0 (by omega) (by omega)]; omega
  · by_cases k' : tw b - 1 - fget x a b < n
    · rw [topV_over (by omega) k', key _ (by omega) (by omega)]; omega
    · rw [topV_ok (by omega) (by omega), key _ (by omega) (by omega)]; omega

theorem FieldTop_walk (a b x n : Int) (w : World) :
    Calls Try.prog 7 #[.int .i64 x, .agg #[.int .i64 a, .int .i64 b], .int .i64 n] w (Ret w (.bool true)) := by
  by_cases hf : fok a b = true
  · have hc := checkF_ok hf
    by_cases hx0 : x < 0
    · go_enter Try.func7, Try.ntmps7
      go_wp2_with (first
        | (go_at_call 9; refine (later_of _ (own_any a b _)).mono ?_; rintro _ _ ⟨rfl, xo, rfl⟩)
        | (go_at_call 9; refine (own_any a b _).mono ?_; rintro _ _ ⟨rfl, xo, rfl⟩)
        | (go_at_call 13; refine (later_of _ (Check_any a b _)).mono ?_; rintro _ _ ⟨rfl, xc, rfl⟩)
        | (go_at_call 15; refine (later_of _ (live_any _)).mono ?_; rintro _ _ ⟨rfl, xl, rfl⟩))
      go_ret
      exact Ret.mk rfl xl.boxed
    · by_cases hx1 : 4611686018427387904 ≤ x
      · go_enter Try.func7, Try.ntmps7
        go_wp2_with (first
          | (go_at_call 9; refine (later_of _ (own_any a b _)).mono ?_; rintro _ _ ⟨rfl, xo, rfl⟩)
          | (go_at_call 9; refine (own_any a b _).mono ?_; rintro _ _ ⟨rfl, xo, rfl⟩)
          | (go_at_call 13; refine (later_of _ (Check_any a b _)).mono ?_; rintro _ _ ⟨rfl, xc, rfl⟩)
          | (go_at_call 15; refine (later_of _ (live_any _)).mono ?_; rintro _ _ ⟨rfl, xl, rfl⟩))
        go_ret
        exact Ret.mk rfl xl.boxed
      · by_cases hlo : n < -1099511627776
        · go_enter Try.func7, Try.ntmps7
          go_wp2_with (first
            | (go_at_call 9; refine (later_of _ (own_any a b _)).mono ?_; rintro _ _ ⟨rfl, xo, rfl⟩)
            | (go_at_call 9; refine (own_any a b _).mono ?_; rintro _ _ ⟨rfl, xo, rfl⟩)
            | (go_at_call 13; refine (later_of _ (Check_any a b _)).mono ?_; rintro _ _ ⟨rfl, xc, rfl⟩)
            | (go_at_call 15; refine (later_of _ (live_any _)).mono ?_; rintro _ _ ⟨rfl, xl, rfl⟩))
          go_ret
          exact Ret.mk rfl xl.boxed
        · by_cases hhi : 1099511627776 < n
          · go_enter Try.func7, Try.ntmps7
            go_wp2_with (first
              | (go_at_call 9; refine (later_of _ (own_any a b _)).mono ?_; rintro _ _ ⟨rfl, xo, rfl⟩)
              | (go_at_call 9; refine (own_any a b _).mono ?_; rintro _ _ ⟨rfl, xo, rfl⟩)
              | (go_at_call 13; refine (later_of _ (Check_any a b _)).mono ?_; rintro _ _ ⟨rfl, xc, rfl⟩)
              | (go_at_call 15; refine (later_of _ (live_any _)).mono ?_; rintro _ _ ⟨rfl, xl, rfl⟩))
            go_ret
            exact Ret.mk rfl xl.boxed
          · have hw := isw_true (x := x) (by omega) (by omega)
            have hb := tw_b (fok_of hf).2.1
            have hm := mostF_ok hf
            obtain ⟨T, G, k1, k2, k3, k4, k5⟩ := tops x a b n hw hf
            have K1 := Lib.hid k1
            have K2 := Lib.hid k2
            have KM := Lib.hid hm
            clear k1 k2 hw hm
            rcases k5 with ⟨k6, k5⟩ | ⟨k6, k7, k5⟩ | ⟨k6, k7, k5⟩
            all_goals
              have K5 := Lib.hid k5
              clear k5
              go_enter Try.func7, Try.ntmps7
              go_wp2_with (first
                | (go_at_call 9; refine (later_of _ (own_any a b _)).mono ?_; rintro _ _ ⟨rfl, xo, rfl⟩)
                | (go_at_call 9; refine (own_any a b _).mono ?_; rintro _ _ ⟨rfl, xo, rfl⟩)
                | (go_at_call 13; refine (later_of _ (Check_any a b _)).mono ?_; rintro _ _ ⟨rfl, xc, rfl⟩))
              refine wp_region_later' xc (by kernel_rfl) (by kernel_rfl) ?_
              repeat (go_big_quiet_step ((first
                | (go_at_call 9; exact later_of _ (own_any a b _))
                | (go_at_call 18; exact later_of _ (Top_at a b x n K1.out _))
                | (go_at_call 8; exact later_of _ (Get_at a b T K5.out _)))))
              refine wpQuiet_nil ?_
              rintro _ ⟨x5, rfl⟩
              go_wp2_with (first
                | (go_at_call 9; refine (later_of _ (own_any a b _)).mono ?_; rintro _ _ ⟨rfl, xo, rfl⟩)
                | (go_at_call 9; refine (own_any a b _).mono ?_; rintro _ _ ⟨rfl, xo, rfl⟩)
                | (go_at_call 8; refine (later_of _ (Get_at a b x K2.out _)).mono ?_; rintro _ _ ⟨rfl, xg, rfl⟩)
                | (go_at_call 15; refine (later_of _ (live_any _)).mono ?_; rintro _ _ ⟨rfl, xl, rfl⟩)
                | (go_at_call 11; refine (later_of _ (Most_at a b KM.out _)).mono ?_; rintro _ _ ⟨rfl, xm, rfl⟩))
              go_ret
              exact Ret.mk rfl xl.boxed
  · have hc := checkF_bad (a := a) (b := b) (by simpa using hf)
    go_enter Try.func7, Try.ntmps7
    go_wp2_with (first
      | (go_at_call 9; refine (later_of _ (own_any a b _)).mono ?_; rintro _ _ ⟨rfl, xo, rfl⟩)
      | (go_at_call 9; refine (own_any a b _).mono ?_; rintro _ _ ⟨rfl, xo, rfl⟩)
      | (go_at_call 13; refine (later_of _ (Check_any a b _)).mono ?_; rintro _ _ ⟨rfl, xc, rfl⟩)
      | (go_at_call 15; refine (later_of _ (live_any _)).mono ?_; rintro _ _ ⟨rfl, xl, rfl⟩))
    go_ret
    exact Ret.mk rfl xl.boxed

end Go.Proofs.Ytohclplpcnkhbaa
