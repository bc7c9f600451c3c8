/-
  The statement EntryPins of layer 2, walked: what is pinned, and unpinned again, is as it was; it is not locked, nor freed, meanwhile.
  Conditions: that the package's table of fields reads as it is laid.
-/
import Derived.Test.YtohclplpcnkhbaaDoorEntryHelp
namespace Go.Proofs.YtohclplpcnkhbaaDoor
open Go.RowKit
attribute [local go_sem] Later.cell Later.frozen Later.lt Later.le
attribute [local go_sem ↓] Go.wp_at_zero Go.wp_at_succ

theorem packE_two (e : En) : (packE e = 0 ∧ e.may = true) ∨ (packE e = 1 ∧ e.may = false ∧ packV e = 0) := by
  cases h : e.may
  · exact .inr ⟨packE_bad h, rfl, packV_bad h⟩
  · exact .inl ⟨packE_ok h, rfl⟩

theorem pins (x : Int) : (∃ c, pinC x = c ∧ pinV x = 0 ∧ (c = 1 ∨ c = 2 ∨ c = 7)) ∨
    (∃ A, pinV x = A ∧ pinC x = 0 ∧ unpinV A = x ∧ unpinC A = 0 ∧ lockC true A = 1 ∧ nextC A = 1) := by
  unfold pinC pinV
  cases h : uok x
  · exact .inl ⟨2, chE_form h, chV_form h, by omega⟩
  · have hu := uok_of h
    have hm := may_of hu.1
    cases he : unp x with
    | mk o g p q lk lv =>
    rw [he] at hu hm
    cases lv
    · have hl : (unp x).lv = false := by rw [he]
      exact .inl ⟨1, chE_dead h hl, chV_dead h hl, by omega⟩
    · have hl : (unp x).lv = true := by rw [he]
      cases lk
      · by_cases h7 : p = 7
        · subst h7
          exact .inl ⟨7, chE_err h hl rfl, chV_err h hl rfl, by omega⟩
        · have e0 : pinE ⟨o, g, p, q, false, true⟩ = 0 := by unfold pinE; rw [if_neg (fun k => by cases k), if_neg (by simpa using h7)]
          rw [e0, chV_ok h hl, chE_ok h hl]
          obtain ⟨m1, m2, m3, m4, m5, m6, m7, m8, _⟩ := hm
          simp only at m1 m2 m3 m4 m5 m6 m7 m8
          have hn : En.may ⟨o, g, p + 1, q, false, true⟩ = true := may_live ⟨m1, m2⟩ ⟨m3, m4⟩ ⟨by omega, by omega⟩ ⟨m7, m8⟩
          have hw := uok_word hn
          have hp := unp_word hn
          have hv : (unp (En.word ⟨o, g, p + 1, q, false, true⟩)).lv = true := by rw [hp]
          refine .inr ⟨En.word ⟨o, g, p + 1, q, false, true⟩, packV_ok hn, packE_ok hn, ?_, ?_, ?_, ?_⟩
          · have e1 : unpinE ⟨o, g, p + 1, q, false, true⟩ = 0 := by unfold unpinE; rw [if_neg (by simp; omega)]
            have e2 : unpinN ⟨o, g, p + 1, q, false, true⟩ = ⟨o, g, p, q, false, true⟩ := by unfold unpinN; simp only [En.mk.injEq]; exact ⟨trivial, trivial, by omega, trivial, trivial, trivial⟩
            unfold unpinV
            rw [hp, e1, chV_ok hw hv, e2, packV_ok hu.1, hu.2]
          · have e1 : unpinE ⟨o, g, p + 1, q, false, true⟩ = 0 := by unfold unpinE; rw [if_neg (by simp; omega)]
            have e2 : unpinN ⟨o, g, p + 1, q, false, true⟩ = ⟨o, g, p, q, false, true⟩ := by unfold unpinN; simp only [En.mk.injEq]; exact ⟨trivial, trivial, by omega, trivial, trivial, trivial⟩
            unfold unpinC
            rw [hp, e1, chE_ok hw hv, e2, packE_ok hu.1]
          · unfold lockC
            rw [hp, chE_ok hw hv]
            refine packE_bad (may_false fun k => ?_)
            have := (k.2.2.2.2.2.2.2.2.2 rfl).1
            simp only [lockN] at this
            omega
          · unfold nextC
            have e1 : nextE ⟨o, g, p + 1, q, false, true⟩ = 1 := by unfold nextE; rw [if_pos (by simp; omega)]
            rw [hp, e1, chE_err hw hv rfl]
      · exact .inl ⟨1, chE_err h hl rfl, chV_err h hl rfl, by omega⟩

set_option maxHeartbeats 1000000 in
theorem EntryPins_walk (x : Int) (w : World) (hF : HasFields w) : Calls Tryd.prog 5 #[.int .i64 x] w (Ret w (.bool true)) := by
  rcases pins x with ⟨c, h1, h2, h3⟩ | ⟨A, h1, h2, h3, h4, h5, h6⟩
  · have cp := fun W => Pin_at x h2 h1 W
    clear h1 h2
    rcases h3 with rfl | rfl | rfl
    all_goals
      go_enter Tryd.func5, Tryd.ntmps5
      go_wp2_with (first
        | (go_at_call 16; (with_reducible refine (cp _ hF).mono ?_); rintro _ _ ⟨rfl, x1, rfl⟩)
        | (go_at_call 15; (with_reducible refine (later_of _ (live_any _ (x1.fields hF))).mono ?_); rintro _ _ ⟨rfl, x2, rfl⟩))
      go_ret
      exact Ret.mk rfl x2.below
  · have c1 := fun W => Pin_at x h1 h2 W
    have c2 := fun W => Unpin_at A h3 h4 W
    have c3 := fun W => Lock_at A true rfl h5 W
    have c4 := fun W => Next_at A rfl rfl h6 W
    clear h1 h2 h3 h4 h5 h6
    go_enter Tryd.func5, Tryd.ntmps5
    go_wp2_with (first
      | (go_at_call 16; (with_reducible refine (c1 _ hF).mono ?_); rintro _ _ ⟨rfl, x1, rfl⟩)
      | (go_at_call 17; (with_reducible refine (later_of _ (c2 _ (x1.fields hF))).mono ?_); rintro _ _ ⟨rfl, x2, rfl⟩)
      | (go_at_call 18; (with_reducible refine (later_of _ (c3 _ (x2.fields hF))).mono ?_); rintro _ _ ⟨rfl, x3, rfl⟩)
      | (go_at_call 19; (with_reducible refine (later_of _ (c4 _ (x3.fields hF))).mono ?_); rintro _ _ ⟨rfl, x4, rfl⟩)
      | (go_at_call 15; (with_reducible refine (later_of _ (live_any _ (x4.fields hF))).mono ?_); rintro _ _ ⟨rfl, x5, rfl⟩))
    go_ret
    exact Ret.mk rfl x5.below
end Go.Proofs.YtohclplpcnkhbaaDoor
