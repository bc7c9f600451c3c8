/-
  What each change of an entry answers, at every word, where the table of fields reads as its text lays it.
  Conditions: that the package's table of fields reads as it is laid.
-/
import Derived.Test.YtnojemmpgaibkaaDoorEntryUnpack
import Derived.RegionTactic
namespace Go.Proofs.YtnojemmpgaibkaaDoor
open Go.RowKit
attribute [local go_sem] Later.cell Later.frozen Later.lt Later.le
attribute [local go_sem ↓] Go.wp_at_zero Go.wp_at_succ

theorem change_form (x : Int) (v : Value) (w : World) (hF : HasFields w) (h : uok x = false) : Calls Tryd.prog 73 #[.int .i64 x, v] w (Ret w (.tuple #[.int .i64 0, .int .i64 2])) := by
  have cu := Unpack_any x
  rw [upV_bad h, upE_bad h] at cu
  simp only [En.val, En.zero] at cu
  go_enter Tryd.func73, Tryd.ntmps73
  go_wp2_with (go_at_call 91; (with_reducible refine (cu _ hF).mono ?_); rintro _ _ ⟨rfl, x1, rfl⟩)
  go_ret2
  exact Ret.mk rfl (x1.below.alloc x1.below.size _)

theorem change_dead (x : Int) (v : Value) (w : World) (hF : HasFields w) (h : uok x = true) (hl : (unp x).lv = false) : Calls Tryd.prog 73 #[.int .i64 x, v] w (Ret w (.tuple #[.int .i64 0, .int .i64 1])) := by
  have cu := Unpack_any x
  rw [upV_ok h, upE_ok h] at cu
  simp only [En.val, hl] at cu
  go_enter Tryd.func73, Tryd.ntmps73
  go_wp2_with (go_at_call 91; (with_reducible refine (cu _ hF).mono ?_); rintro _ _ ⟨rfl, x1, rfl⟩)
  go_ret2
  exact Ret.mk rfl (x1.below.alloc x1.below.size _)

theorem pin_lock (o g p q : Int) (V : World)  : Calls Tryd.prog 74 #[.pointer (some ⟨V.heap.size, 0, none⟩)] (V.alloc (.cells #[.int .i64 o, .int .i64 g, .int .i64 p, .int .i64 q, .bool true, .bool true] 118))
    fun e w' => e = .returned (.int .i64 1) ∧ V.alloc (.cells #[.int .i64 o, .int .i64 g, .int .i64 p, .int .i64 q, .bool true, .bool true] 118) = w' := by
  go_enter Tryd.func74, Tryd.ntmps74
  go_wp2
  go_ret
  exact ⟨rfl, rfl⟩

theorem pin_over (o g q : Int) (V : World)  : Calls Tryd.prog 74 #[.pointer (some ⟨V.heap.size, 0, none⟩)] (V.alloc (.cells #[.int .i64 o, .int .i64 g, .int .i64 (7), .int .i64 q, .bool false, .bool true] 118))
    fun e w' => e = .returned (.int .i64 7) ∧ V.alloc (.cells #[.int .i64 o, .int .i64 g, .int .i64 (7), .int .i64 q, .bool false, .bool true] 118) = w' := by
  go_enter Tryd.func74, Tryd.ntmps74
  go_wp2
  go_ret
  exact ⟨rfl, rfl⟩

theorem pin_ok (o g p q : Int) (V : World) (h0 : 0 ≤ p) (h7 : p ≤ 7) (hne : (p == 7) = false) : Calls Tryd.prog 74 #[.pointer (some ⟨V.heap.size, 0, none⟩)] (V.alloc (.cells #[.int .i64 o, .int .i64 g, .int .i64 p, .int .i64 q, .bool false, .bool true] 118))
    fun e w' => e = .returned (.int .i64 0) ∧ V.alloc (.cells #[.int .i64 o, .int .i64 g, .int .i64 (p + 1), .int .i64 q, .bool false, .bool true] 118) = w' := by
  go_enter Tryd.func74, Tryd.ntmps74
  go_wp2
  go_ret
  exact ⟨rfl, rfl⟩

theorem unpin_none (o g q : Int) (lk : Bool) (V : World)  : Calls Tryd.prog 75 #[.pointer (some ⟨V.heap.size, 0, none⟩)] (V.alloc (.cells #[.int .i64 o, .int .i64 g, .int .i64 0, .int .i64 q, .bool lk, .bool true] 118))
    fun e w' => e = .returned (.int .i64 8) ∧ V.alloc (.cells #[.int .i64 o, .int .i64 g, .int .i64 0, .int .i64 q, .bool lk, .bool true] 118) = w' := by
  go_enter Tryd.func75, Tryd.ntmps75
  go_wp2
  go_ret
  exact ⟨rfl, rfl⟩

theorem unpin_ok (o g p q : Int) (lk : Bool) (V : World) (h0 : 0 ≤ p) (h7 : p ≤ 7) (hne : (p == 0) = false) : Calls Tryd.prog 75 #[.pointer (some ⟨V.heap.size, 0, none⟩)] (V.alloc (.cells #[.int .i64 o, .int .i64 g, .int .i64 p, .int .i64 q, .bool lk, .bool true] 118))
    fun e w' => e = .returned (.int .i64 0) ∧ V.alloc (.cells #[.int .i64 o, .int .i64 g, .int .i64 (p - 1), .int .i64 q, .bool lk, .bool true] 118) = w' := by
  go_enter Tryd.func75, Tryd.ntmps75
  go_wp2
  go_ret
  exact ⟨rfl, rfl⟩

theorem guard_ok (o g p q : Int) (lk : Bool) (n : Int) (c : Nat) (V : World) (hlt : c < V.heap.size) (hcap : V.cell? ⟨c, 0, none⟩ = some (.int .i64 n))  : Calls Tryd.prog 105 #[.pointer (some ⟨V.heap.size, 0, none⟩), .pointer (some ⟨c, 0, none⟩)] (V.alloc (.cells #[.int .i64 o, .int .i64 g, .int .i64 p, .int .i64 q, .bool lk, .bool true] 118))
    fun e w' => e = .returned (.int .i64 0) ∧ ∃ d : Nat, (V.alloc (.cells #[.int .i64 o, .int .i64 g, .int .i64 p, .int .i64 (wrap64 (q + n)), .bool lk, .bool true] 118)).drewN d = w' := by
  go_enter Tryd.func105, Tryd.ntmps105
  go_wp2
  go_region
  all_goals
    go_wp2
    go_ret
    exact ⟨rfl, 1, rfl⟩

theorem change_pin_lock (x : Int) (o g p q : Int) (w : World) (hF : HasFields w) (h : uok x = true) (hu : unp x = ⟨o, g, p, q, true, true⟩)  :
    Calls Tryd.prog 73 #[.int .i64 x, .func (.func 74) #[] #[]] w (Ret w (.tuple #[.int .i64 0, .int .i64 1])) := by
  have cu := Unpack_any x
  rw [upV_ok h, upE_ok h, hu] at cu
  simp only [En.val] at cu
  clear hu h
  go_enter Tryd.func73, Tryd.ntmps73
  go_wp2_with (first
    | (go_at_call 91; (with_reducible refine (cu _ hF).mono ?_); rintro _ _ ⟨rfl, x1, rfl⟩)
    | (go_at_call 74; (with_reducible refine (pin_lock o g p q x1.at' ).mono ?_); rintro _ _ ⟨rfl, rfl⟩))
  go_ret2
  exact Ret.mk rfl (x1.below.alloc x1.below.size _)

theorem change_pin_over (x : Int) (o g q : Int) (w : World) (hF : HasFields w) (h : uok x = true) (hu : unp x = ⟨o, g, 7, q, false, true⟩)  :
    Calls Tryd.prog 73 #[.int .i64 x, .func (.func 74) #[] #[]] w (Ret w (.tuple #[.int .i64 0, .int .i64 7])) := by
  have cu := Unpack_any x
  rw [upV_ok h, upE_ok h, hu] at cu
  simp only [En.val] at cu
  clear hu h
  go_enter Tryd.func73, Tryd.ntmps73
  go_wp2_with (first
    | (go_at_call 91; (with_reducible refine (cu _ hF).mono ?_); rintro _ _ ⟨rfl, x1, rfl⟩)
    | (go_at_call 74; (with_reducible refine (pin_over o g q x1.at' ).mono ?_); rintro _ _ ⟨rfl, rfl⟩))
  go_ret2
  exact Ret.mk rfl (x1.below.alloc x1.below.size _)

theorem change_pin_ok (x : Int) (o g p q : Int) (w : World) (hF : HasFields w) (h : uok x = true) (hu : unp x = ⟨o, g, p, q, false, true⟩) (h0 : 0 ≤ p) (h7 : p ≤ 7) (hne : (p == 7) = false) :
    Calls Tryd.prog 73 #[.int .i64 x, .func (.func 74) #[] #[]] w (Ret w (.tuple #[.int .i64 (packV ⟨o, g, p + 1, q, false, true⟩), .int .i64 (packE ⟨o, g, p + 1, q, false, true⟩)])) := by
  have cu := Unpack_any x
  rw [upV_ok h, upE_ok h, hu] at cu
  simp only [En.val] at cu
  clear hu h
  go_enter Tryd.func73, Tryd.ntmps73
  go_wp2_with (first
    | (go_at_call 91; (with_reducible refine (cu _ hF).mono ?_); rintro _ _ ⟨rfl, x1, rfl⟩)
    | (go_at_call 74; (with_reducible refine (pin_ok o g p q x1.at' h0 h7 hne).mono ?_); rintro _ _ ⟨rfl, rfl⟩)
    | (go_at_call 94; (with_reducible refine (Pack_any o g (p + 1) q false true _ ((x1.fields hF).alloc _)).mono ?_); rintro _ _ ⟨rfl, x2, rfl⟩))
  go_ret2
  exact Ret.mk rfl (x1.on x2.boxed).below

theorem change_unpin_none (x : Int) (o g q : Int) (lk : Bool) (w : World) (hF : HasFields w) (h : uok x = true) (hu : unp x = ⟨o, g, 0, q, lk, true⟩)  :
    Calls Tryd.prog 73 #[.int .i64 x, .func (.func 75) #[] #[]] w (Ret w (.tuple #[.int .i64 0, .int .i64 8])) := by
  have cu := Unpack_any x
  rw [upV_ok h, upE_ok h, hu] at cu
  simp only [En.val] at cu
  clear hu h
  go_enter Tryd.func73, Tryd.ntmps73
  go_wp2_with (first
    | (go_at_call 91; (with_reducible refine (cu _ hF).mono ?_); rintro _ _ ⟨rfl, x1, rfl⟩)
    | (go_at_call 75; (with_reducible refine (unpin_none o g q lk x1.at' ).mono ?_); rintro _ _ ⟨rfl, rfl⟩))
  go_ret2
  exact Ret.mk rfl (x1.below.alloc x1.below.size _)

theorem change_unpin_ok (x : Int) (o g p q : Int) (lk : Bool) (w : World) (hF : HasFields w) (h : uok x = true) (hu : unp x = ⟨o, g, p, q, lk, true⟩) (h0 : 0 ≤ p) (h7 : p ≤ 7) (hne : (p == 0) = false) :
    Calls Tryd.prog 73 #[.int .i64 x, .func (.func 75) #[] #[]] w (Ret w (.tuple #[.int .i64 (packV ⟨o, g, p - 1, q, lk, true⟩), .int .i64 (packE ⟨o, g, p - 1, q, lk, true⟩)])) := by
  have cu := Unpack_any x
  rw [upV_ok h, upE_ok h, hu] at cu
  simp only [En.val] at cu
  clear hu h
  go_enter Tryd.func73, Tryd.ntmps73
  go_wp2_with (first
    | (go_at_call 91; (with_reducible refine (cu _ hF).mono ?_); rintro _ _ ⟨rfl, x1, rfl⟩)
    | (go_at_call 75; (with_reducible refine (unpin_ok o g p q lk x1.at' h0 h7 hne).mono ?_); rintro _ _ ⟨rfl, rfl⟩)
    | (go_at_call 94; (with_reducible refine (Pack_any o g (p - 1) q lk true _ ((x1.fields hF).alloc _)).mono ?_); rintro _ _ ⟨rfl, x2, rfl⟩))
  go_ret2
  exact Ret.mk rfl (x1.on x2.boxed).below

theorem change_guard_ok (x : Int) (o g p q : Int) (lk : Bool) (n : Int) (c : Nat) (w : World) (hF : HasFields w) (h : uok x = true) (hu : unp x = ⟨o, g, p, q, lk, true⟩) (hlt : c < w.heap.size) (hcap : w.cell? ⟨c, 0, none⟩ = some (.int .i64 n))  :
    Calls Tryd.prog 73 #[.int .i64 x, .func (.func 105) #[] #[.pointer (some ⟨c, 0, none⟩)]] w (Ret w (.tuple #[.int .i64 (packV ⟨o, g, p, wrap64 (q + n), lk, true⟩), .int .i64 (packE ⟨o, g, p, wrap64 (q + n), lk, true⟩)])) := by
  have cu := Unpack_any x
  rw [upV_ok h, upE_ok h, hu] at cu
  simp only [En.val] at cu
  clear hu h
  go_enter Tryd.func73, Tryd.ntmps73
  go_wp2_with (first
    | (go_at_call 91; (with_reducible refine (cu _ hF).mono ?_); rintro _ _ ⟨rfl, x1, rfl⟩)
    | (go_at_call 105; (with_reducible refine (guard_ok o g p q lk n c x1.at' (x1.lt c hlt) ((x1.cell c 0 none hlt).trans hcap) ).mono ?_); rintro _ _ ⟨rfl, d, rfl⟩)
    | (go_at_call 94; (with_reducible refine (Pack_any o g p (wrap64 (q + n)) lk true _ (((x1.fields hF).alloc _).drewN _)).mono ?_); rintro _ _ ⟨rfl, x2, rfl⟩))
  go_ret2
  exact Ret.mk rfl (x1.on x2.boxedN).below

theorem change_pin (x : Int) (w : World) (hF : HasFields w) :
    Calls Tryd.prog 73 #[.int .i64 x, .func (.func 74) #[] #[]] w (Ret w (.tuple #[.int .i64 (pinV x), .int .i64 (pinC x)])) := by
  unfold pinV pinC
  cases h : uok x
  · rw [chV_form h, chE_form h]
    exact change_form x _ w hF h
  · have hm := may_of (uok_of h).1
    cases hu : unp x with
    | mk o g p q lk lv =>
    cases lv
    · have hl : (unp x).lv = false := by rw [hu]
      rw [chV_dead h hl, chE_dead h hl]
      exact change_dead x _ w hF h hl
    · have hl : (unp x).lv = true := by rw [hu]
      rw [hu] at hm
      obtain ⟨m1, m2, m3, m4, m5, m6, m7, m8, _⟩ := hm
      cases lk
      · by_cases h7 : p = 7
        · subst h7
          have e : pinE ⟨o, g, 7, q, false, true⟩ = 7 := rfl
          rw [e, chV_err h hl rfl, chE_err h hl rfl]
          exact change_pin_over x o g q w hF h hu
        · have e : pinE ⟨o, g, p, q, false, true⟩ = 0 := by unfold pinE; rw [if_neg (fun k => by cases k), if_neg (by simpa using h7)]
          rw [e, chV_ok h hl, chE_ok h hl]
          exact change_pin_ok x o g p q w hF h hu m5 m6 (by simpa using h7)
      · have e : pinE ⟨o, g, p, q, true, true⟩ = 1 := rfl
        rw [e, chV_err h hl rfl, chE_err h hl rfl]
        exact change_pin_lock x o g p q w hF h hu
theorem change_unpin (x : Int) (w : World) (hF : HasFields w) :
    Calls Tryd.prog 73 #[.int .i64 x, .func (.func 75) #[] #[]] w (Ret w (.tuple #[.int .i64 (unpinV x), .int .i64 (unpinC x)])) := by
  unfold unpinV unpinC
  cases h : uok x
  · rw [chV_form h, chE_form h]
    exact change_form x _ w hF h
  · have hm := may_of (uok_of h).1
    cases hu : unp x with
    | mk o g p q lk lv =>
    cases lv
    · have hl : (unp x).lv = false := by rw [hu]
      rw [chV_dead h hl, chE_dead h hl]
      exact change_dead x _ w hF h hl
    · have hl : (unp x).lv = true := by rw [hu]
      rw [hu] at hm
      obtain ⟨m1, m2, m3, m4, m5, m6, m7, m8, _⟩ := hm
      by_cases h7 : p = 0
      · subst h7
        have e : unpinE ⟨o, g, 0, q, lk, true⟩ = 8 := rfl
        rw [e, chV_err h hl rfl, chE_err h hl rfl]
        exact change_unpin_none x o g q lk w hF h hu
      · have e : unpinE ⟨o, g, p, q, lk, true⟩ = 0 := by unfold unpinE; rw [if_neg (by simpa using h7)]
        rw [e, chV_ok h hl, chE_ok h hl]
        exact change_unpin_ok x o g p q lk w hF h hu m5 m6 (by simpa using h7)
theorem change_guard (x : Int) (n : Int) (c : Nat) (w : World) (hF : HasFields w) (hlt : c < w.heap.size) (hcap : w.cell? ⟨c, 0, none⟩ = some (.int .i64 n)) :
    Calls Tryd.prog 73 #[.int .i64 x, .func (.func 105) #[] #[.pointer (some ⟨c, 0, none⟩)]] w (Ret w (.tuple #[.int .i64 (guardV n x), .int .i64 (guardC n x)])) := by
  unfold guardV guardC
  cases h : uok x
  · rw [chV_form h, chE_form h]
    exact change_form x _ w hF h
  · have hm := may_of (uok_of h).1
    cases hu : unp x with
    | mk o g p q lk lv =>
    cases lv
    · have hl : (unp x).lv = false := by rw [hu]
      rw [chV_dead h hl, chE_dead h hl]
      exact change_dead x _ w hF h hl
    · have hl : (unp x).lv = true := by rw [hu]
      rw [hu] at hm
      obtain ⟨m1, m2, m3, m4, m5, m6, m7, m8, _⟩ := hm
      rw [chV_ok h hl, chE_ok h hl]
      exact change_guard_ok x o g p q lk n c w hF h hu hlt hcap
theorem Pin_any (x : Int) (w : World) (hF : HasFields w) : Calls Tryd.prog 53 #[.int .i64 x] w (Ret w (.tuple #[.int .i64 (pinV x), .int .i64 (pinC x)])) := by
  go_enter Tryd.func53, Tryd.ntmps53
  go_wp2_with (go_at_call 73; refine (change_pin x _ hF).mono ?_; rintro _ _ ⟨rfl, x1, rfl⟩)
  go_ret2
  exact Ret.mk rfl x1.below

theorem Unpin_any (x : Int) (w : World) (hF : HasFields w) : Calls Tryd.prog 54 #[.int .i64 x] w (Ret w (.tuple #[.int .i64 (unpinV x), .int .i64 (unpinC x)])) := by
  go_enter Tryd.func54, Tryd.ntmps54
  go_wp2_with (go_at_call 73; refine (change_unpin x _ hF).mono ?_; rintro _ _ ⟨rfl, x1, rfl⟩)
  go_ret2
  exact Ret.mk rfl x1.below

theorem Guard_any (x : Int) (n : Int) (w : World) (hF : HasFields w) : Calls Tryd.prog 92 #[.int .i64 x, .int .i64 n] w (Ret w (.tuple #[.int .i64 (guardV n x), .int .i64 (guardC n x)])) := by
  go_enter Tryd.func92, Tryd.ntmps92
  go_wp2_with (go_at_call 73; refine (change_guard x n w.heap.size _ (hF.alloc _) (by simp) (by simp)).mono ?_; rintro _ _ ⟨rfl, x1, rfl⟩)
  go_ret2
  exact Ret.mk rfl x1.boxed

end Go.Proofs.YtnojemmpgaibkaaDoor
