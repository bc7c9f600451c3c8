/-
  Each statement of layer 1, walked: it answers true, and leaves alone all that was there.
  Conditions: none.
-/
import Derived.Test.YtohclplpcnkhbaaFieldLawWalks
namespace Go.Proofs.Ytohclplpcnkhbaa
open Go.RowKit
attribute [local go_sem] Later.cell Later.frozen Later.lt Later.le
attribute [local go_sem ↓] Go.wp_at_zero Go.wp_at_succ

theorem FieldTells_walk (a b x : Int) (w : World) : Calls Try.prog 3 #[.int .i64 x, .agg #[.int .i64 a, .int .i64 b]] w (Ret w (.bool true)) := by
  go_enter Try.func3, Try.ntmps3
  go_wp2
  refine wp_region_later (by kernel_rfl) (by kernel_rfl) ?_
  repeat (go_big_quiet_step ((first
    | (go_at_call 9; exact later_of _ (own_any a b _))
    | (go_at_call 8; exact later_of _ (Get_any a b x _))
    | (go_at_call 10; exact later_of _ (refGet_any a b x _))
    | (go_at_call 11; exact later_of _ (Most_any a b _))
    | (go_at_call 12; exact later_of _ (refMost_any a b _))
    | (go_at_call 13; exact later_of _ (Check_any a b _))
    | (go_at_call 14; exact later_of _ (refCheck_any a b _))
    | (go_at_call 15; exact later_of _ (live_any _)))))
  refine wpQuiet_nil ?_
  rintro _ ⟨x1, rfl⟩
  go_wp2
  go_ret
  exact Ret.mk rfl x1.boxed

theorem addE_three (x a b n : Int) : addFE x a b n = 0 ∨ addFE x a b n = 1 ∨ addFE x a b n = 3 := by
  unfold addFE addE
  repeat' split
  all_goals simp

/-- What is added, and taken away again. -/
theorem adds (x a b n : Int) (h : addFE x a b n = 0) : ∃ V G, addFV x a b n = V ∧ addFV V a b (-n) = x ∧ addFE V a b (-n) = 0 ∧ getF V a b = G + n ∧ getF x a b = G ∧ topF x a b n = V ∧ 0 ≤ G ∧ G ≤ 4294967295 := by
  by_cases hw : isw x = true
  · by_cases hf : fok a b = true
    · obtain ⟨h1, h2, h3, h4⟩ := fok_of hf
      obtain ⟨h5, h6⟩ := isw_of hw
      have hg := fget_bd x a b
      have hb := tw_b h2
      rw [addE_both hw hf] at h
      have hlo : -fget x a b ≤ n := by
        by_cases k : n < -fget x a b
        · rw [addE_low k] at h; omega
        · omega
      have hhi : n ≤ tw b - 1 - fget x a b := by
        by_cases k : tw b - 1 - fget x a b < n
        · rw [addE_over hlo k] at h; omega
        · omega
      have e1 : fget (fput x a b (fget x a b + n)) a b = fget x a b + n := fget_fput (by omega) h3 (by omega) (by omega)
      have hbd := fput_bd (x := x) (n := fget x a b + n) (by omega) h3 h4 h5 h6 (by omega) (by omega)
      have hw2 := isw_true hbd.1 hbd.2
      refine ⟨fput x a b (fget x a b + n), fget x a b, ?_, ?_, ?_, ?_, ?_, ?_, hg.1, by omega⟩
      · rw [addV_both hw hf, addV_ok hlo hhi]
      · rw [addV_both hw2 hf, addV_ok (by rw [e1]; omega) (by rw [e1]; omega), e1, fput_fput (by omega) h3 (by omega) (by omega), show fget x a b + n + -n = fget x a b by omega, fput_same]
      · rw [addE_both hw2 hf, addE_ok (by rw [e1]; omega) (by rw [e1]; omega)]
      · rw [getF_both hw2 hf, e1]
      · rw [getF_both hw hf]
      · rw [topV_both hw hf, topV_ok hlo hhi]
    · rw [addE_bad (.inr (by simpa using hf))] at h; omega
  · rw [addE_bad (.inl (by simpa using hw))] at h; omega

theorem FieldAdds_walk (a b x n : Int) (w : World) :
    Calls Try.prog 5 #[.int .i64 x, .agg #[.int .i64 a, .int .i64 b], .int .i64 n] w (Ret w (.bool true)) := by
  rcases addE_three x a b n with h | h | h
  · by_cases hlo : n < -1099511627776
    · have H := Lib.hid h
      clear h
      go_enter Try.func5, Try.ntmps5
      go_wp2_with (first
        | (go_at_call 9; refine (own_any a b _).mono ?_; rintro _ _ ⟨rfl, x1, rfl⟩)
        | (go_at_call 17; refine (later_of _ (Add_at a b x n rfl H.out _)).mono ?_; rintro _ _ ⟨rfl, x2, rfl⟩)
        | (go_at_call 15; refine (later_of _ (live_any _)).mono ?_; rintro _ _ ⟨rfl, x3, rfl⟩))
      go_ret
      exact Ret.mk rfl x3.boxed
    · by_cases hhi : 1099511627776 < n
      · have H := Lib.hid h
        clear h
        go_enter Try.func5, Try.ntmps5
        go_wp2_with (first
          | (go_at_call 9; refine (own_any a b _).mono ?_; rintro _ _ ⟨rfl, x1, rfl⟩)
          | (go_at_call 17; refine (later_of _ (Add_at a b x n rfl H.out _)).mono ?_; rintro _ _ ⟨rfl, x2, rfl⟩)
          | (go_at_call 15; refine (later_of _ (live_any _)).mono ?_; rintro _ _ ⟨rfl, x3, rfl⟩))
        go_ret
        exact Ret.mk rfl x3.boxed
      · obtain ⟨V, G, k1, k2, k3, k4, k5, k6, k7, k8⟩ := adds x a b n h
        have H := Lib.hid h
        have K1 := Lib.hid k1
        have K2 := Lib.hid k2
        have K3 := Lib.hid k3
        have K4 := Lib.hid k4
        have K5 := Lib.hid k5
        have K6 := Lib.hid k6
        clear h k1 k2 k3 k4 k5 k6
        go_enter Try.func5, Try.ntmps5
        go_wp2_with (first
          | (go_at_call 9; refine (own_any a b (w.alloc _)).mono ?_; rintro _ _ ⟨rfl, x1, rfl⟩)
          | (go_at_call 9; refine (later_of _ (own_any a b _)).mono ?_; rintro _ _ ⟨rfl, x3, rfl⟩)
          | (go_at_call_of 17 (Value.int IntKind.i64 x); refine (later_of _ (Add_at a b x n K1.out H.out _)).mono ?_; rintro _ _ ⟨rfl, x2, rfl⟩)
          | (go_at_call_of 17 (Value.int IntKind.i64 V); refine (later_of _ (Add_at a b V (-n) K2.out K3.out _)).mono ?_; rintro _ _ ⟨rfl, x4, rfl⟩))
        refine wp_region_later' x4 (by kernel_rfl) (by kernel_rfl) ?_
        repeat (go_big_quiet_step ((first
          | (go_at_call 9; exact later_of _ (own_any a b _))
          | (go_at_call_of 8 (Value.int IntKind.i64 x); exact later_of _ (Get_at a b x K5.out _))
          | (go_at_call_of 8 (Value.int IntKind.i64 V); exact later_of _ (Get_at a b V K4.out _))
          | (go_at_call 18; exact later_of _ (Top_at a b x n K6.out _))
          | (go_at_call 15; exact later_of _ (live_any _)))))
        refine wpQuiet_nil ?_
        rintro _ ⟨x5, rfl⟩
        go_wp2
        go_ret
        exact Ret.mk rfl x5.boxed
  all_goals
    have H := Lib.hid h
    clear h
    go_enter Try.func5, Try.ntmps5
    go_wp2_with (first
      | (go_at_call 9; refine (own_any a b _).mono ?_; rintro _ _ ⟨rfl, x1, rfl⟩)
      | (go_at_call 17; refine (later_of _ (Add_at a b x n rfl H.out _)).mono ?_; rintro _ _ ⟨rfl, x2, rfl⟩)
      | (go_at_call 15; refine (later_of _ (live_any _)).mono ?_; rintro _ _ ⟨rfl, x3, rfl⟩))
    go_ret
    exact Ret.mk rfl x3.boxed
end Go.Proofs.Ytohclplpcnkhbaa
