/-
  The statement EntryGuards of layer 2, walked: guards that are laid, and taken away, leave the word as it was.
  Conditions: that the package's table of fields reads as it is laid.
-/
import Derived.Test.YtohclplpcnkhbaaDoorEntryHelp
namespace Go.Proofs.YtohclplpcnkhbaaDoor
open Go.RowKit
attribute [local go_sem] Later.cell Later.frozen Later.lt Later.le
attribute [local go_sem ↓] Go.wp_at_zero Go.wp_at_succ

theorem guards (x n : Int) (n0 : -9223372036854775808 ≤ n) (n1 : n ≤ 9223372036854775807) : (∃ c, guardC n x = c ∧ guardV n x = 0 ∧ (c = 1 ∨ c = 2)) ∨
    (∃ A, guardV n x = A ∧ guardC n x = 0 ∧ guardV (-n) A = x ∧ guardC (-n) A = 0 ∧ -15 ≤ n ∧ n ≤ 15) := by
  unfold guardC guardV
  cases h : uok x
  · exact .inl ⟨2, chE_form h, chV_form h, by omega⟩
  · have hu := uok_of h
    have hm := may_of hu.1
    cases he : unp x with
    | mk o g p q lk lv =>
    rw [he] at hu hm
    cases lv
    · have hl : (unp x).lv = false := by rw [he]
      exact .inl ⟨1, chE_dead h hl, chV_dead h hl, by omega⟩
    · have hl : (unp x).lv = true := by rw [he]
      rw [chV_ok h hl, chE_ok h hl]
      cases hn : En.may (guardN n ⟨o, g, p, q, lk, true⟩)
      · exact .inl ⟨1, packE_bad hn, packV_bad hn, by omega⟩
      · obtain ⟨m1, m2, m3, m4, m5, m6, m7, m8, _⟩ := hm
        obtain ⟨k1, k2, k3, k4, k5, k6, k7, k8, _⟩ := may_of hn
        simp only [guardN] at m1 m2 m3 m4 m5 m6 m7 m8 k7 k8
        have hb : wrap64 (q + n) = q + n := by
          unfold wrap64 at k7 k8 ⊢
          omega
        rw [hb] at k7 k8
        have hw := uok_word hn
        have hp := unp_word hn
        have hv : (unp (En.word (guardN n ⟨o, g, p, q, lk, true⟩))).lv = true := by rw [hp]; rfl
        have e2 : guardN (-n) (guardN n ⟨o, g, p, q, lk, true⟩) = ⟨o, g, p, q, lk, true⟩ := by
          unfold guardN
          simp only [En.mk.injEq, hb]
          refine ⟨trivial, trivial, trivial, ?_, trivial, trivial⟩
          unfold wrap64
          omega
        refine .inr ⟨En.word (guardN n ⟨o, g, p, q, lk, true⟩), packV_ok hn, packE_ok hn, ?_, ?_, by omega, by omega⟩
        · rw [hp, chV_ok hw hv, e2, packV_ok hu.1, hu.2]
        · rw [hp, chE_ok hw hv, e2, packE_ok hu.1]

set_option maxHeartbeats 1000000 in
theorem EntryGuards_walk (x n : Int) (w : World) (hF : HasFields w) (n0 : -9223372036854775808 ≤ n) (n1 : n ≤ 9223372036854775807) : Calls Tryd.prog 8 #[.int .i64 x, .int .i64 n] w (Ret w (.bool true)) := by
  rcases guards x n n0 n1 with ⟨c, h1, h2, h3⟩ | ⟨A, h1, h2, h3, h4, h5, h6⟩
  · have cp := fun W => Guard_at x n h2 h1 W
    clear h1 h2
    rcases h3 with rfl | rfl
    all_goals
      go_enter Tryd.func8, Tryd.ntmps8
      go_wp2_with (first
        | (go_at_call 21; (with_reducible refine (cp _ hF).mono ?_); rintro _ _ ⟨rfl, x1, rfl⟩)
        | (go_at_call 15; (with_reducible refine (later_of _ (live_any _ (x1.fields hF))).mono ?_); rintro _ _ ⟨rfl, x2, rfl⟩))
      go_ret
      exact Ret.mk rfl x2.below
  · have c1 := fun W => Guard_at x n h1 h2 W
    have c2 := fun W => Guard_at A (-n) h3 h4 W
    clear h1 h2 h3 h4
    go_enter Tryd.func8, Tryd.ntmps8
    go_wp2_with (first
      | (go_at_call 21; (with_reducible refine (c1 _ hF).mono ?_); rintro _ _ ⟨rfl, x1, rfl⟩)
      | (go_at_call 21; (with_reducible refine (later_of _ (c2 _ (x1.fields hF))).mono ?_); rintro _ _ ⟨rfl, x2, rfl⟩)
      | (go_at_call 15; (with_reducible refine (later_of _ (live_any _ (x2.fields hF))).mono ?_); rintro _ _ ⟨rfl, x5, rfl⟩))
    go_ret
    exact Ret.mk rfl x5.below
end Go.Proofs.YtohclplpcnkhbaaDoor
