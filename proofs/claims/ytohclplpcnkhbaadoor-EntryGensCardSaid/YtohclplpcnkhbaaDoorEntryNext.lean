/-
  What Next answers, at every word, where the table of fields reads as its text lays it.
  Conditions: that the package's table of fields reads as it is laid.
-/
import Derived.Test.YtohclplpcnkhbaaDoorEntryTurns
namespace Go.Proofs.YtohclplpcnkhbaaDoor
open Go.RowKit
attribute [local go_sem] Later.cell Later.frozen Later.lt Later.le
attribute [local go_sem ↓] Go.wp_at_zero Go.wp_at_succ

theorem held_any (o g p q : Int) (lk lv : Bool) (w : World) : Calls Tryd.prog 33 #[.agg #[.int .i64 o, .int .i64 g, .int .i64 p, .int .i64 q, .bool lk, .bool lv]] w (Ret w (.bool (heldB ⟨o, g, p, q, lk, lv⟩))) := by
  by_cases h : 0 < p
  · go_enter Tryd.func33, Tryd.ntmps33
    go_wp2
    go_ret
    exact Ret.mk (bool_eq (heldB_p h).symm) ((Below.refl _ _).alloc (Nat.le_refl _) _)
  · by_cases k : 0 < q
    · go_enter Tryd.func33, Tryd.ntmps33
      go_wp2
      go_ret
      exact Ret.mk (bool_eq (heldB_q (by omega) k).symm) ((Below.refl _ _).alloc (Nat.le_refl _) _)
    · rw [heldB_l h k]
      cases lk
      · go_enter Tryd.func33, Tryd.ntmps33
        go_wp2
        go_ret
        exact Ret.mk rfl ((Below.refl _ _).alloc (Nat.le_refl _) _)
      · go_enter Tryd.func33, Tryd.ntmps33
        go_wp2
        go_ret
        exact Ret.mk rfl ((Below.refl _ _).alloc (Nat.le_refl _) _)

theorem next_held (o g p q : Int) (lk : Bool) (m : Nat) (V : World) (h : heldB ⟨o, g, p, q, lk, true⟩ = true) : Calls Tryd.prog 32 #[.pointer (some ⟨V.heap.size, 0, none⟩), .pointer (some ⟨m, 0, none⟩)] (V.alloc (.cells #[.int .i64 o, .int .i64 g, .int .i64 p, .int .i64 q, .bool lk, .bool true] 27))
    (Ret (V.alloc (.cells #[.int .i64 o, .int .i64 g, .int .i64 p, .int .i64 q, .bool lk, .bool true] 27)) (.int .i64 1)) := by
  go_enter Tryd.func32, Tryd.ntmps32
  go_wp2_with (go_at_call 33; refine (held_any o g p q lk true _).mono ?_; rintro _ _ ⟨rfl, x1, rfl⟩)
  go_ret
  exact Ret.mk rfl x1.below

theorem next_last (o g p q : Int) (lk : Bool) (m : Nat) (V : World) (h : heldB ⟨o, g, p, q, lk, true⟩ = false) (hg : ¬ g < 1000) : Calls Tryd.prog 32 #[.pointer (some ⟨V.heap.size, 0, none⟩), .pointer (some ⟨m, 0, none⟩)] (V.alloc (.cells #[.int .i64 o, .int .i64 g, .int .i64 p, .int .i64 q, .bool lk, .bool true] 27))
    (Ret (V.alloc (.cells #[(.int .i64 0), (.int .i64 (g)), (.int .i64 0), (.int .i64 0), (.bool false), (.bool false)] 27)) (.int .i64 0)) := by
  go_enter Tryd.func32, Tryd.ntmps32
  go_wp2_with (go_at_call 33; refine (held_any o g p q lk true _).mono ?_; rintro _ _ ⟨rfl, x1, rfl⟩)
  obtain ⟨z0, hz0⟩ : ∃ y : Later (V.alloc (.cells #[(.int .i64 0), (.int .i64 g), (.int .i64 p), (.int .i64 q), (.bool lk), (.bool true)] 27)), x1.at'.setCell ⟨V.heap.size, 0, none⟩ (.int .i64 0) = y.at' := x1.put_last V.heap.size 0 (.int .i64 0) (by simp) rfl
  obtain ⟨z1, hz1⟩ : ∃ y : Later (V.alloc (.cells #[(.int .i64 0), (.int .i64 (g)), (.int .i64 p), (.int .i64 q), (.bool lk), (.bool true)] 27)), z0.at'.setCell ⟨V.heap.size, 1, none⟩ (.int .i64 (g)) = y.at' := z0.put_last V.heap.size 1 (.int .i64 (g)) (by simp) rfl
  obtain ⟨z2, hz2⟩ : ∃ y : Later (V.alloc (.cells #[(.int .i64 0), (.int .i64 (g)), (.int .i64 0), (.int .i64 q), (.bool lk), (.bool true)] 27)), z1.at'.setCell ⟨V.heap.size, 2, none⟩ (.int .i64 0) = y.at' := z1.put_last V.heap.size 2 (.int .i64 0) (by simp) rfl
  obtain ⟨z3, hz3⟩ : ∃ y : Later (V.alloc (.cells #[(.int .i64 0), (.int .i64 (g)), (.int .i64 0), (.int .i64 0), (.bool lk), (.bool true)] 27)), z2.at'.setCell ⟨V.heap.size, 3, none⟩ (.int .i64 0) = y.at' := z2.put_last V.heap.size 3 (.int .i64 0) (by simp) rfl
  obtain ⟨z4, hz4⟩ : ∃ y : Later (V.alloc (.cells #[(.int .i64 0), (.int .i64 (g)), (.int .i64 0), (.int .i64 0), (.bool false), (.bool true)] 27)), z3.at'.setCell ⟨V.heap.size, 4, none⟩ (.bool false) = y.at' := z3.put_last V.heap.size 4 (.bool false) (by simp) rfl
  obtain ⟨z5, hz5⟩ : ∃ y : Later (V.alloc (.cells #[(.int .i64 0), (.int .i64 (g)), (.int .i64 0), (.int .i64 0), (.bool false), (.bool false)] 27)), z4.at'.setCell ⟨V.heap.size, 5, none⟩ (.bool false) = y.at' := z4.put_last V.heap.size 5 (.bool false) (by simp) rfl
  rw [hz0, hz1, hz2, hz3, hz4, hz5]
  go_ret
  exact Ret.mk rfl z5.below

theorem next_more (o g p q : Int) (lk : Bool) (m : Nat) (V : World) (h : heldB ⟨o, g, p, q, lk, true⟩ = false) (hg : g < 1000) (hg0 : 0 ≤ g) (hlt : m < V.heap.size) (hcap : V.cell? ⟨m, 0, none⟩ = some (.bool false)) (hfz : V.frozen? ⟨m, 0, none⟩ = false) :
    Calls Tryd.prog 32 #[.pointer (some ⟨V.heap.size, 0, none⟩), .pointer (some ⟨m, 0, none⟩)] (V.alloc (.cells #[.int .i64 o, .int .i64 g, .int .i64 p, .int .i64 q, .bool lk, .bool true] 27))
    (Ret ((V.setCell ⟨m, 0, none⟩ (.bool true)).alloc (.cells #[(.int .i64 0), (.int .i64 (g + 1)), (.int .i64 0), (.int .i64 0), (.bool false), (.bool false)] 27)) (.int .i64 0)) := by
  have hne : m ≠ V.heap.size := by omega
  have hne' : V.heap.size ≠ m := by omega
  go_enter Tryd.func32, Tryd.ntmps32
  go_wp2_with (go_at_call 33; refine (held_any o g p q lk true _).mono ?_; rintro _ _ ⟨rfl, x1, rfl⟩)
  obtain ⟨z, hz⟩ : ∃ z : Later ((V.setCell ⟨m, 0, none⟩ (.bool true)).alloc (.cells #[.int .i64 o, .int .i64 g, .int .i64 p, .int .i64 q, .bool lk, .bool true] 27)), x1.at'.setCell ⟨m, 0, none⟩ (.bool true) = z.at' := by
    rw [← World.setCell_alloc_past _ m 0 (.bool true) hlt]
    exact ⟨x1.set _ _, rfl⟩
  obtain ⟨z0, hz0⟩ : ∃ y : Later ((V.setCell ⟨m, 0, none⟩ (.bool true)).alloc (.cells #[(.int .i64 0), (.int .i64 g), (.int .i64 p), (.int .i64 q), (.bool lk), (.bool true)] 27)), z.at'.setCell ⟨V.heap.size, 0, none⟩ (.int .i64 0) = y.at' := z.put_last V.heap.size 0 (.int .i64 0) (by simp) rfl
  obtain ⟨z1, hz1⟩ : ∃ y : Later ((V.setCell ⟨m, 0, none⟩ (.bool true)).alloc (.cells #[(.int .i64 0), (.int .i64 (g + 1)), (.int .i64 p), (.int .i64 q), (.bool lk), (.bool true)] 27)), z0.at'.setCell ⟨V.heap.size, 1, none⟩ (.int .i64 (g + 1)) = y.at' := z0.put_last V.heap.size 1 (.int .i64 (g + 1)) (by simp) rfl
  obtain ⟨z2, hz2⟩ : ∃ y : Later ((V.setCell ⟨m, 0, none⟩ (.bool true)).alloc (.cells #[(.int .i64 0), (.int .i64 (g + 1)), (.int .i64 0), (.int .i64 q), (.bool lk), (.bool true)] 27)), z1.at'.setCell ⟨V.heap.size, 2, none⟩ (.int .i64 0) = y.at' := z1.put_last V.heap.size 2 (.int .i64 0) (by simp) rfl
  obtain ⟨z3, hz3⟩ : ∃ y : Later ((V.setCell ⟨m, 0, none⟩ (.bool true)).alloc (.cells #[(.int .i64 0), (.int .i64 (g + 1)), (.int .i64 0), (.int .i64 0), (.bool lk), (.bool true)] 27)), z2.at'.setCell ⟨V.heap.size, 3, none⟩ (.int .i64 0) = y.at' := z2.put_last V.heap.size 3 (.int .i64 0) (by simp) rfl
  obtain ⟨z4, hz4⟩ : ∃ y : Later ((V.setCell ⟨m, 0, none⟩ (.bool true)).alloc (.cells #[(.int .i64 0), (.int .i64 (g + 1)), (.int .i64 0), (.int .i64 0), (.bool false), (.bool true)] 27)), z3.at'.setCell ⟨V.heap.size, 4, none⟩ (.bool false) = y.at' := z3.put_last V.heap.size 4 (.bool false) (by simp) rfl
  obtain ⟨z5, hz5⟩ : ∃ y : Later ((V.setCell ⟨m, 0, none⟩ (.bool true)).alloc (.cells #[(.int .i64 0), (.int .i64 (g + 1)), (.int .i64 0), (.int .i64 0), (.bool false), (.bool false)] 27)), z4.at'.setCell ⟨V.heap.size, 5, none⟩ (.bool false) = y.at' := z4.put_last V.heap.size 5 (.bool false) (by simp) rfl
  rw [hz, hz0, hz1, hz2, hz3, hz4, hz5]
  go_ret
  exact Ret.mk rfl z5.below

/-- What the change for Next leaves: all below m as it was, and what m holds. -/
def NextPost (w : World) (m : Nat) (v : Value) (b : Bool) (e : Ending) (w' : World) : Prop := e = .returned v ∧ Below m w w' ∧ m < w'.heap.size ∧ w'.cell? ⟨m, 0, none⟩ = some (.bool b)
theorem NextPost.of_ret {w w' : World} {m : Nat} {v : Value} {e : Ending} (hlt : m < w.heap.size) (hcap : w.cell? ⟨m, 0, none⟩ = some (.bool false)) (h : Ret w v e w') : NextPost w m v false e w' := by
  obtain ⟨he, x, rfl⟩ := h
  exact ⟨he, x.below.mono (Nat.le_of_lt hlt), x.lt m hlt, (x.cell m 0 none hlt).trans hcap⟩

theorem change_next_held (x o g p q : Int) (lk : Bool) (m : Nat) (w : World) (hF : HasFields w) (h : uok x = true) (hu : unp x = ⟨o, g, p, q, lk, true⟩) (hh : heldB ⟨o, g, p, q, lk, true⟩ = true) :
    Calls Tryd.prog 28 #[.int .i64 x, .func (.func 32) #[] #[.pointer (some ⟨m, 0, none⟩)]] w (Ret w (.tuple #[.int .i64 0, .int .i64 1])) := by
  have cu := Unpack_any x
  rw [upV_ok h, upE_ok h, hu] at cu
  simp only [En.val] at cu
  clear hu h
  go_enter Tryd.func28, Tryd.ntmps28
  go_wp2_with (first
    | (go_at_call 12; (with_reducible refine (cu _ hF).mono ?_); rintro _ _ ⟨rfl, x1, rfl⟩)
    | (go_at_call 32; (with_reducible refine (next_held o g p q lk m x1.at' hh).mono ?_); rintro _ _ ⟨rfl, y, rfl⟩))
  go_ret2
  exact Ret.mk rfl (x1.on y.boxed).below

theorem change_next_last (x o g p q : Int) (lk : Bool) (m : Nat) (w : World) (hF : HasFields w) (h : uok x = true) (hu : unp x = ⟨o, g, p, q, lk, true⟩) (hh : heldB ⟨o, g, p, q, lk, true⟩ = false) (hg : ¬ g < 1000) :
    Calls Tryd.prog 28 #[.int .i64 x, .func (.func 32) #[] #[.pointer (some ⟨m, 0, none⟩)]] w (Ret w (.tuple #[.int .i64 (packV ⟨0, g, 0, 0, false, false⟩), .int .i64 (packE ⟨0, g, 0, 0, false, false⟩)])) := by
  have cu := Unpack_any x
  rw [upV_ok h, upE_ok h, hu] at cu
  simp only [En.val] at cu
  clear hu h
  go_enter Tryd.func28, Tryd.ntmps28
  go_wp2_with (first
    | (go_at_call 12; (with_reducible refine (cu _ hF).mono ?_); rintro _ _ ⟨rfl, x1, rfl⟩)
    | (go_at_call 32; (with_reducible refine (next_last o g p q lk m x1.at' hh (by omega)).mono ?_); rintro _ _ ⟨rfl, y, rfl⟩)
    | (go_at_call 9; (with_reducible refine (later_of _ (Pack_any 0 g 0 0 false false _ (y.fields ((x1.fields hF).alloc _)))).mono ?_); rintro _ _ ⟨rfl, x2, rfl⟩))
  go_ret2
  exact Ret.mk rfl (x1.on x2.boxed).below

theorem change_next_more (x o g p q : Int) (lk : Bool) (m : Nat) (w : World) (hF : HasFields w) (h : uok x = true) (hu : unp x = ⟨o, g, p, q, lk, true⟩) (hh : heldB ⟨o, g, p, q, lk, true⟩ = false) (hg : g < 1000) (hg0 : 0 ≤ g)
    (hm : 0 < m) (hlt : m < w.heap.size) (hcap : w.cell? ⟨m, 0, none⟩ = some (.bool false)) (hfz : w.frozen? ⟨m, 0, none⟩ = false) :
    Calls Tryd.prog 28 #[.int .i64 x, .func (.func 32) #[] #[.pointer (some ⟨m, 0, none⟩)]] w (NextPost w m (.tuple #[.int .i64 (packV ⟨0, g + 1, 0, 0, false, false⟩), .int .i64 (packE ⟨0, g + 1, 0, 0, false, false⟩)]) true) := by
  have cu := Unpack_any x
  rw [upV_ok h, upE_ok h, hu] at cu
  simp only [En.val] at cu
  clear hu h
  go_enter Tryd.func28, Tryd.ntmps28
  go_wp2_with (first
    | (go_at_call 12; (with_reducible refine (cu _ hF).mono ?_); rintro _ _ ⟨rfl, x1, rfl⟩)
    | (go_at_call 32; (with_reducible refine (next_more o g p q lk m x1.at' hh hg hg0 (x1.lt m hlt) ((x1.cell m 0 none hlt).trans hcap) ((x1.frozen m 0 none hlt).trans hfz)).mono ?_); rintro _ _ ⟨rfl, y, rfl⟩)
    | (go_at_call 9; (with_reducible refine (later_of _ (Pack_any 0 (g + 1) 0 0 false false _ (y.fields (((x1.fields hF).setCell hm _).alloc _)))).mono ?_); rintro _ _ ⟨rfl, x2, rfl⟩))
  go_ret2
  have hl1 := x1.lt m hlt
  have hc1 := (x1.cell m 0 none hlt).trans hcap
  refine ⟨rfl, ((x1.below.mono (Nat.le_of_lt hlt)).setCell (p := ⟨m, 0, none⟩) (Nat.le_refl _) _).trans (x2.boxed.mono (by simp; omega)), x2.lt m (by simp; omega), ?_⟩
  rw [x2.cell m 0 none (by simp; omega), World.cell?_alloc_past _ m 0 (by simpa using hl1), World.cell?_setCell_same (h := hc1)]

theorem change_next (x : Int) (m : Nat) (w : World) (hF : HasFields w) (hm : 0 < m) (hlt : m < w.heap.size) (hcap : w.cell? ⟨m, 0, none⟩ = some (.bool false)) (hfz : w.frozen? ⟨m, 0, none⟩ = false) :
    Calls Tryd.prog 28 #[.int .i64 x, .func (.func 32) #[] #[.pointer (some ⟨m, 0, none⟩)]] w (NextPost w m (.tuple #[.int .i64 (nextV x), .int .i64 (nextC x)]) (nextM x)) := by
  unfold nextV nextC nextM
  cases h : uok x
  · rw [chV_form h, chE_form h]
    exact (change_form x _ w hF h).mono fun _ _ => NextPost.of_ret hlt hcap
  · have hmay := may_of (uok_of h).1
    cases hu : unp x with
    | mk o g p q lk lv =>
    cases lv
    · have hl : (unp x).lv = false := by rw [hu]
      rw [chV_dead h hl, chE_dead h hl]
      exact (change_dead x _ w hF h hl).mono fun _ _ => NextPost.of_ret hlt hcap
    · have hl : (unp x).lv = true := by rw [hu]
      rw [hu] at hmay
      have h0 : 0 ≤ g := hmay.1
      cases hh : heldB ⟨o, g, p, q, lk, true⟩
      · rw [nextE_free hh, chV_ok h hl, chE_ok h hl]
        by_cases hg : g < 1000
        · have e1 : nextN ⟨o, g, p, q, lk, true⟩ = ⟨0, g + 1, 0, 0, false, false⟩ := by unfold nextN; simp only [if_pos hg]
          have e2 : (true && true && ((0 : Int) == 0) && decide (g < 1000)) = true := by simp [hg]
          simp only [e1, e2]
          exact change_next_more x o g p q lk m w hF h hu hh hg h0 hm hlt hcap hfz
        · have e1 : nextN ⟨o, g, p, q, lk, true⟩ = ⟨0, g, 0, 0, false, false⟩ := by unfold nextN; simp only [if_neg hg]
          have e2 : (true && true && ((0 : Int) == 0) && decide (g < 1000)) = false := by simp [hg]
          simp only [e1, e2]
          exact (change_next_last x o g p q lk m w hF h hu hh hg).mono fun _ _ => NextPost.of_ret hlt hcap
      · rw [nextE_held hh, chV_err h hl rfl, chE_err h hl rfl]
        exact (change_next_held x o g p q lk m w hF h hu hh).mono fun _ _ => NextPost.of_ret hlt hcap

theorem Next_any (x : Int) (w : World) (hF : HasFields w) : Calls Tryd.prog 19 #[.int .i64 x] w (Ret w (.tuple #[.int .i64 (nextV x), .bool (nextM x), .int .i64 (nextC x)])) := by
  go_enter Tryd.func19, Tryd.ntmps19
  go_wp2_with (go_at_call 28; refine (change_next x w.heap.size _ (hF.alloc _) hF.lt (by simp) (by simp) (by simp)).mono ?_; rintro _ w1 ⟨rfl, hb, hl, hc⟩)
  go_quiet (fail)
  go_wp2
  go_ret3
  exact Ret.mk rfl (Later.below_drewN (((Below.refl _ _).alloc (Nat.le_refl _) _).trans hb) _)
end Go.Proofs.YtohclplpcnkhbaaDoor
