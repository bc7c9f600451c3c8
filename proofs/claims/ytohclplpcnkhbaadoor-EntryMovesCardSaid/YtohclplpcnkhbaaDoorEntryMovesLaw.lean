/-
  The statement EntryMoves of layer 2, walked: what is locked, and moved, has its new place, and no lock; pins and guards keep it from being locked.
  Conditions: that the package's table of fields reads as it is laid.
-/
import Derived.Test.YtohclplpcnkhbaaDoorEntryHelp
namespace Go.Proofs.YtohclplpcnkhbaaDoor
open Go.RowKit
attribute [local go_sem] Later.cell Later.frozen Later.lt Later.le
attribute [local go_sem ↓] Go.wp_at_zero Go.wp_at_succ

theorem locked_parts {o g p q : Int} {lk : Bool} (h : En.may ⟨o, g, p, q, lk, true⟩ = true) : (p = 0 ∧ q = 0 ∧ En.may (lockN true ⟨o, g, p, q, lk, true⟩) = true) ∨ (0 < p + q ∧ En.may (lockN true ⟨o, g, p, q, lk, true⟩) = false) := by
  obtain ⟨m1, m2, m3, m4, m5, m6, m7, m8, _⟩ := may_of h
  simp only at m1 m2 m3 m4 m5 m6 m7 m8
  by_cases hp : p = 0 ∧ q = 0
  · obtain ⟨rfl, rfl⟩ := hp
    exact .inl ⟨rfl, rfl, may_locked ⟨m1, m2⟩ ⟨m3, m4⟩⟩
  · refine .inr ⟨by omega, may_false fun k => hp ?_⟩
    have := k.2.2.2.2.2.2.2.2.2 rfl
    simpa [lockN] using this

set_option maxHeartbeats 1000000 in
theorem moves_form (x n : Int) (w : World) (hF : HasFields w) (h : uok x = false) : Calls Tryd.prog 7 #[.int .i64 x, .int .i64 n] w (Ret w (.bool true)) := by
  have c1 := fun W => Unpack_at x (upV_bad h) (upE_bad h) W
  have c2 := fun W => Lock_at x true (v := 0) (e := 2) (chV_form h) (chE_form h) W
  clear h
  go_enter Tryd.func7, Tryd.ntmps7
  go_wp2_with (first
    | (go_at_call 12; (with_reducible refine (c1 _ hF).mono ?_); rintro _ _ ⟨rfl, x1, rfl⟩)
    | (go_at_call 18; (with_reducible refine (c2 _ ((x1.fields hF).alloc _)).mono ?_); rintro _ _ ⟨rfl, x2, rfl⟩)
    | (go_at_call 15; (with_reducible refine (later_of _ (live_any _ (x2.fields ((x1.fields hF).alloc _)))).mono ?_); rintro _ _ ⟨rfl, x3, rfl⟩))
  go_ret
  exact Ret.mk rfl (x1.on x3.boxed).below

set_option maxHeartbeats 1000000 in
theorem moves_err (x n o g p q : Int) (lk lv : Bool) (w : World) (hF : HasFields w) (h : uok x = true) (hu : unp x = ⟨o, g, p, q, lk, lv⟩) (c2 : ∀ W : World, HasFields W → Calls Tryd.prog 18 #[.int .i64 x, .bool true] W (Ret W (.tuple #[.int .i64 0, .int .i64 1])))
    (hm : 0 ≤ p ∧ p ≤ 7 ∧ 0 ≤ q ∧ q ≤ 15) (hd : lv = true → 0 < p + q) : Calls Tryd.prog 7 #[.int .i64 x, .int .i64 n] w (Ret w (.bool true)) := by
  have c1 := fun W => Unpack_at x ((upV_ok h).trans hu) (upE_ok h) W
  obtain ⟨m1, m2, m3, m4⟩ := hm
  clear h hu
  cases lv
  · clear hd
    go_enter Tryd.func7, Tryd.ntmps7
    go_wp2_with (first
      | (go_at_call 12; (with_reducible refine (c1 _ hF).mono ?_); rintro _ _ ⟨rfl, x1, rfl⟩)
      | (go_at_call 18; (with_reducible refine (c2 _ ((x1.fields hF).alloc _)).mono ?_); rintro _ _ ⟨rfl, x2, rfl⟩)
      | (go_at_call 15; (with_reducible refine (later_of _ (live_any _ (x2.fields ((x1.fields hF).alloc _)))).mono ?_); rintro _ _ ⟨rfl, x3, rfl⟩))
    go_ret
    exact Ret.mk rfl (x1.on x3.boxed).below
  · have hd' := hd rfl
    clear hd
    go_enter Tryd.func7, Tryd.ntmps7
    go_wp2_with (first
      | (go_at_call 12; (with_reducible refine (c1 _ hF).mono ?_); rintro _ _ ⟨rfl, x1, rfl⟩)
      | (go_at_call 18; (with_reducible refine (c2 _ ((x1.fields hF).alloc _)).mono ?_); rintro _ _ ⟨rfl, x2, rfl⟩)
      | (go_at_call 15; (with_reducible refine (later_of _ (live_any _ (x2.fields ((x1.fields hF).alloc _)))).mono ?_); rintro _ _ ⟨rfl, x3, rfl⟩))
    go_ret
    exact Ret.mk rfl (x1.on x3.boxed).below

set_option maxHeartbeats 1000000 in
theorem moves_far (x n o g A : Int) (lk : Bool) (w : World) (hF : HasFields w) (h : uok x = true) (hu : unp x = ⟨o, g, 0, 0, lk, true⟩) (c2 : ∀ W : World, HasFields W → Calls Tryd.prog 18 #[.int .i64 x, .bool true] W (Ret W (.tuple #[.int .i64 A, .int .i64 0])))
    (c3 : ∀ W : World, HasFields W → Calls Tryd.prog 20 #[.int .i64 A, .int .i64 n] W (Ret W (.tuple #[.int .i64 0, .int .i64 1]))) (hn : ¬ (0 ≤ n ∧ n ≤ 4096)) : Calls Tryd.prog 7 #[.int .i64 x, .int .i64 n] w (Ret w (.bool true)) := by
  have c1 := fun W => Unpack_at x ((upV_ok h).trans hu) (upE_ok h) W
  clear h hu
  by_cases h0 : n < 0
  · clear hn
    go_enter Tryd.func7, Tryd.ntmps7
    go_wp2_with (first
      | (go_at_call 12; (with_reducible refine (c1 _ hF).mono ?_); rintro _ _ ⟨rfl, x1, rfl⟩)
      | (go_at_call 18; (with_reducible refine (c2 _ ((x1.fields hF).alloc _)).mono ?_); rintro _ _ ⟨rfl, x2, rfl⟩)
      | (go_at_call 20; (with_reducible refine (later_of _ (c3 _ (x2.fields ((x1.fields hF).alloc _)))).mono ?_); rintro _ _ ⟨rfl, x3, rfl⟩)
      | (go_at_call 15; (with_reducible refine (later_of _ (live_any _ (x3.fields ((x1.fields hF).alloc _)))).mono ?_); rintro _ _ ⟨rfl, x4, rfl⟩))
    go_ret
    exact Ret.mk rfl (x1.on x4.boxed).below
  · have h1 : 4096 < n := by omega
    clear hn
    go_enter Tryd.func7, Tryd.ntmps7
    go_wp2_with (first
      | (go_at_call 12; (with_reducible refine (c1 _ hF).mono ?_); rintro _ _ ⟨rfl, x1, rfl⟩)
      | (go_at_call 18; (with_reducible refine (c2 _ ((x1.fields hF).alloc _)).mono ?_); rintro _ _ ⟨rfl, x2, rfl⟩)
      | (go_at_call 20; (with_reducible refine (later_of _ (c3 _ (x2.fields ((x1.fields hF).alloc _)))).mono ?_); rintro _ _ ⟨rfl, x3, rfl⟩)
      | (go_at_call 15; (with_reducible refine (later_of _ (live_any _ (x3.fields ((x1.fields hF).alloc _)))).mono ?_); rintro _ _ ⟨rfl, x4, rfl⟩))
    go_ret
    exact Ret.mk rfl (x1.on x4.boxed).below

set_option maxHeartbeats 1000000 in
theorem moves_there (x n o g A B : Int) (lk : Bool) (w : World) (hF : HasFields w) (h : uok x = true) (hu : unp x = ⟨o, g, 0, 0, lk, true⟩) (c2 : ∀ W : World, HasFields W → Calls Tryd.prog 18 #[.int .i64 x, .bool true] W (Ret W (.tuple #[.int .i64 A, .int .i64 0])))
    (c3 : ∀ W : World, HasFields W → Calls Tryd.prog 20 #[.int .i64 A, .int .i64 n] W (Ret W (.tuple #[.int .i64 B, .int .i64 0])))
    (c4 : ∀ W : World, HasFields W → Calls Tryd.prog 12 #[.int .i64 B] W (Ret W (.tuple #[.agg #[.int .i64 n, .int .i64 g, .int .i64 0, .int .i64 0, .bool false, .bool true], .int .i64 0]))) : Calls Tryd.prog 7 #[.int .i64 x, .int .i64 n] w (Ret w (.bool true)) := by
  have c1 := fun W => Unpack_at x ((upV_ok h).trans hu) (upE_ok h) W
  clear h hu
  go_enter Tryd.func7, Tryd.ntmps7
  go_wp2_with (first
    | (go_at_call 12; (with_reducible refine (c1 _ hF).mono ?_); rintro _ _ ⟨rfl, x1, rfl⟩)
    | (go_at_call 18; (with_reducible refine (c2 _ ((x1.fields hF).alloc _)).mono ?_); rintro _ _ ⟨rfl, x2, rfl⟩)
    | (go_at_call 20; (with_reducible refine (later_of _ (c3 _ (x2.fields ((x1.fields hF).alloc _)))).mono ?_); rintro _ _ ⟨rfl, x3, rfl⟩)
    | (go_at_call 12; (with_reducible refine (later_of _ (c4 _ (x3.fields ((x1.fields hF).alloc _)))).mono ?_); rintro _ _ ⟨rfl, x4, rfl⟩)
    | (go_at_call 15; (with_reducible refine (live_any _ ((((x4.fields ((x1.fields hF).alloc _)).setCell (x1.lt _ hF.lt) _).setCell (x1.lt _ hF.lt) _).alloc _)).mono ?_); rintro _ _ ⟨rfl, x5, rfl⟩))
  go_ret
  have hs : w.heap.size ≤ x4.at'.heap.size := (x1.on x4.boxed).below.size
  have h1 : Below w.heap.size w x4.at' := (x1.on x4.boxed).below
  have h2 := (h1.setCell (p := ⟨x1.at'.heap.size, 0, none⟩) x1.below.size (.int .i64 n)).setCell (p := ⟨x1.at'.heap.size, 4, none⟩) x1.below.size (.bool false)
  exact Ret.mk rfl ((h2.alloc (by simpa using hs) _).trans (x5.below.mono (by simp; omega)))

theorem EntryMoves_walk (x n : Int) (w : World) (hF : HasFields w) : Calls Tryd.prog 7 #[.int .i64 x, .int .i64 n] w (Ret w (.bool true)) := by
  cases h : uok x
  · exact moves_form x n w hF h
  · have hu := uok_of h
    have hm := may_of hu.1
    cases he : unp x with
    | mk o g p q lk lv =>
    rw [he] at hu hm
    obtain ⟨m1, m2, m3, m4, m5, m6, m7, m8, _⟩ := hm
    simp only at m1 m2 m3 m4 m5 m6 m7 m8
    cases lv
    · have hl : (unp x).lv = false := by rw [he]
      exact moves_err x n o g p q lk false w hF h he (fun W => Lock_at x true (v := 0) (e := 1) (chV_dead h hl) (chE_dead h hl) W) ⟨m5, m6, m7, m8⟩ (fun k => by cases k)
    · have hl : (unp x).lv = true := by rw [he]
      rcases locked_parts hu.1 with ⟨rfl, rfl, hn⟩ | ⟨hd, hn⟩
      · have hw := uok_word hn
        have hp := unp_word hn
        have hv : (unp (En.word (lockN true ⟨o, g, 0, 0, lk, true⟩))).lv = true := by rw [hp]; rfl
        have c2 := fun W => Lock_at x true (v := En.word (lockN true ⟨o, g, 0, 0, lk, true⟩)) (e := 0) ((chV_ok h hl).trans (by rw [he]; exact packV_ok hn)) ((chE_ok h hl).trans (by rw [he]; exact packE_ok hn)) W
        have em : moveN n (lockN true ⟨o, g, 0, 0, lk, true⟩) = ⟨n, g, 0, 0, false, true⟩ := rfl
        by_cases hr : 0 ≤ n ∧ n ≤ 4096
        · have hk : En.may ⟨n, g, 0, 0, false, true⟩ = true := may_live ⟨m1, m2⟩ hr (by decide) (by decide)
          have c3 := fun W => Move_at (En.word (lockN true ⟨o, g, 0, 0, lk, true⟩)) n (v := En.word ⟨n, g, 0, 0, false, true⟩) (e := 0) ((chV_ok hw hv).trans (by rw [hp, em]; exact packV_ok hk)) ((chE_ok hw hv).trans (by rw [hp, em]; exact packE_ok hk)) W
          exact moves_there x n o g _ _ lk w hF h he c2 c3 (fun W => Unpack_at _ ((upV_ok (uok_word hk)).trans (unp_word hk)) (upE_ok (uok_word hk)) W)
        · have hk : En.may ⟨n, g, 0, 0, false, true⟩ = false := may_false (fun k => hr ⟨k.2.2.1, k.2.2.2.1⟩)
          have c3 := fun W => Move_at (En.word (lockN true ⟨o, g, 0, 0, lk, true⟩)) n (v := 0) (e := 1) ((chV_ok hw hv).trans (by rw [hp, em]; exact packV_bad hk)) ((chE_ok hw hv).trans (by rw [hp, em]; exact packE_bad hk)) W
          exact moves_far x n o g _ lk w hF h he c2 c3 hr
      · exact moves_err x n o g p q lk true w hF h he (fun W => Lock_at x true (v := 0) (e := 1) ((chV_ok h hl).trans (by rw [he]; exact packV_bad hn)) ((chE_ok h hl).trans (by rw [he]; exact packE_bad hn)) W) ⟨m5, m6, m7, m8⟩ (fun _ => hd)
end Go.Proofs.YtohclplpcnkhbaaDoor
