/-
  The statement EntryPacks of layer 2, walked: any entry's word, and the entry of any word, are the document's.
  Conditions: that the package's table of fields reads as it is laid.
-/
import Derived.Test.YtohclplpcnkhbaaDoorEntryHelp
namespace Go.Proofs.YtohclplpcnkhbaaDoor
open Go.RowKit
attribute [local go_sem] Later.cell Later.frozen Later.lt Later.le
attribute [local go_sem ↓] Go.wp_at_zero Go.wp_at_succ

theorem refBit_any (b : Bool) (w : World) : Calls Tryd.prog 26 #[.bool b] w fun e w' => e = .returned (.int .i64 (bitI b)) ∧ w = w' := by
  cases b
  · go_enter Tryd.func26, Tryd.ntmps26
    go_wp2
    go_ret
    exact ⟨rfl, rfl⟩
  · go_enter Tryd.func26, Tryd.ntmps26
    go_wp2
    go_ret
    exact ⟨rfl, rfl⟩

set_option maxHeartbeats 2000000 in
theorem refMay_any (o g p q : Int) (lk lv : Bool) (w : World) : Calls Tryd.prog 25 #[.agg #[.int .i64 o, .int .i64 g, .int .i64 p, .int .i64 q, .bool lk, .bool lv]] w (Ret w (.bool (En.may ⟨o, g, p, q, lk, lv⟩))) := by
  by_cases h0 : o < 0
  · go_enter Tryd.func25, Tryd.ntmps25
    go_wp2
    go_ret
    exact Ret.mk (bool_eq (may_false (fun k => by have := k.2.2.1; simp only at this; omega)).symm) ((Below.refl _ _).alloc (Nat.le_refl _) _)
  · by_cases h1 : 4096 < o
    · go_enter Tryd.func25, Tryd.ntmps25
      go_wp2
      go_ret
      exact Ret.mk (bool_eq (may_false (fun k => by have := k.2.2.2.1; simp only at this; omega)).symm) ((Below.refl _ _).alloc (Nat.le_refl _) _)
    · by_cases h2 : g < 0
      · go_enter Tryd.func25, Tryd.ntmps25
        go_wp2
        go_ret
        exact Ret.mk (bool_eq (may_false (fun k => by have := k.1; simp only at this; omega)).symm) ((Below.refl _ _).alloc (Nat.le_refl _) _)
      · by_cases h3 : 1000 < g
        · go_enter Tryd.func25, Tryd.ntmps25
          go_wp2
          go_ret
          exact Ret.mk (bool_eq (may_false (fun k => by have := k.2.1; simp only at this; omega)).symm) ((Below.refl _ _).alloc (Nat.le_refl _) _)
        · by_cases h4 : p < 0
          · go_enter Tryd.func25, Tryd.ntmps25
            go_wp2
            go_ret
            exact Ret.mk (bool_eq (may_false (fun k => by have := k.2.2.2.2.1; simp only at this; omega)).symm) ((Below.refl _ _).alloc (Nat.le_refl _) _)
          · by_cases h5 : 7 < p
            · go_enter Tryd.func25, Tryd.ntmps25
              go_wp2
              go_ret
              exact Ret.mk (bool_eq (may_false (fun k => by have := k.2.2.2.2.2.1; simp only at this; omega)).symm) ((Below.refl _ _).alloc (Nat.le_refl _) _)
            · by_cases h6 : q < 0
              · go_enter Tryd.func25, Tryd.ntmps25
                go_wp2
                go_ret
                exact Ret.mk (bool_eq (may_false (fun k => by have := k.2.2.2.2.2.2.1; simp only at this; omega)).symm) ((Below.refl _ _).alloc (Nat.le_refl _) _)
              · by_cases h7 : 15 < q
                · go_enter Tryd.func25, Tryd.ntmps25
                  go_wp2
                  go_ret
                  exact Ret.mk (bool_eq (may_false (fun k => by have := k.2.2.2.2.2.2.2.1; simp only at this; omega)).symm) ((Below.refl _ _).alloc (Nat.le_refl _) _)
                · cases lv
                  · by_cases ho : o = 0
                    · subst ho
                      by_cases hp : p = 0
                      · subst hp
                        by_cases hq : q = 0
                        · subst hq
                          cases lk
                          · go_enter Tryd.func25, Tryd.ntmps25
                            go_wp2
                            go_ret
                            exact Ret.mk (bool_eq (may_dead ⟨by omega, by omega⟩).symm) ((Below.refl _ _).alloc (Nat.le_refl _) _)
                          · go_enter Tryd.func25, Tryd.ntmps25
                            go_wp2
                            go_ret
                            exact Ret.mk (bool_eq (may_false (fun k => by have := (k.2.2.2.2.2.2.2.2.1 rfl).2.2.2; cases this)).symm) ((Below.refl _ _).alloc (Nat.le_refl _) _)
                        · go_enter Tryd.func25, Tryd.ntmps25
                          go_wp2
                          go_ret
                          exact Ret.mk (bool_eq (may_false (fun k => hq (k.2.2.2.2.2.2.2.2.1 rfl).2.2.1)).symm) ((Below.refl _ _).alloc (Nat.le_refl _) _)
                      · go_enter Tryd.func25, Tryd.ntmps25
                        go_wp2
                        go_ret
                        exact Ret.mk (bool_eq (may_false (fun k => hp (k.2.2.2.2.2.2.2.2.1 rfl).2.1)).symm) ((Below.refl _ _).alloc (Nat.le_refl _) _)
                    · go_enter Tryd.func25, Tryd.ntmps25
                      go_wp2
                      go_ret
                      exact Ret.mk (bool_eq (may_false (fun k => ho (k.2.2.2.2.2.2.2.2.1 rfl).1)).symm) ((Below.refl _ _).alloc (Nat.le_refl _) _)
                  · cases lk
                    · go_enter Tryd.func25, Tryd.ntmps25
                      go_wp2
                      go_ret
                      exact Ret.mk (bool_eq (may_live ⟨by omega, by omega⟩ ⟨by omega, by omega⟩ ⟨by omega, by omega⟩ ⟨by omega, by omega⟩).symm) ((Below.refl _ _).alloc (Nat.le_refl _) _)
                    · by_cases hp : p = 0
                      · subst hp
                        by_cases hq : q = 0
                        · subst hq
                          go_enter Tryd.func25, Tryd.ntmps25
                          go_wp2
                          go_ret
                          exact Ret.mk (bool_eq (may_locked ⟨by omega, by omega⟩ ⟨by omega, by omega⟩).symm) ((Below.refl _ _).alloc (Nat.le_refl _) _)
                        · go_enter Tryd.func25, Tryd.ntmps25
                          go_wp2
                          go_ret
                          exact Ret.mk (bool_eq (Eq.trans (show (q == 0) = false from by simpa using hq) (may_false (e := ⟨o, g, 0, q, true, true⟩) (fun k => hq (k.2.2.2.2.2.2.2.2.2 rfl).2)).symm)) ((Below.refl _ _).alloc (Nat.le_refl _) _)
                      · go_enter Tryd.func25, Tryd.ntmps25
                        go_wp2
                        go_ret
                        exact Ret.mk (bool_eq (may_false (fun k => hp (k.2.2.2.2.2.2.2.2.2 rfl).1)).symm) ((Below.refl _ _).alloc (Nat.le_refl _) _)

theorem refPack_any (o g p q : Int) (lk lv : Bool) (w : World) : Calls Tryd.prog 11 #[.agg #[.int .i64 o, .int .i64 g, .int .i64 p, .int .i64 q, .bool lk, .bool lv]] w (Ret w (.tuple #[.int .i64 (packV ⟨o, g, p, q, lk, lv⟩), .int .i64 (packE ⟨o, g, p, q, lk, lv⟩)])) := by
  cases h : En.may ⟨o, g, p, q, lk, lv⟩
  · rw [packV_bad h, packE_bad h]
    go_enter Tryd.func11, Tryd.ntmps11
    go_wp2_with (go_at_call 25; refine (refMay_any o g p q lk lv _).mono ?_; rintro _ _ ⟨rfl, x1, rfl⟩)
    go_ret2
    exact Ret.mk rfl x1.boxed
  · rw [packV_ok h, packE_ok h]
    obtain ⟨m1, m2, m3, m4, m5, m6, m7, m8, _⟩ := may_of h
    simp only at m1 m2 m3 m4 m5 m6 m7 m8
    have hl := bitI_bd lk
    have hv := bitI_bd lv
    go_enter Tryd.func11, Tryd.ntmps11
    go_wp2_with (go_at_call 25; refine (refMay_any o g p q lk lv _).mono ?_; rintro _ _ ⟨rfl, x1, rfl⟩)
    refine wp_region_later' x1 (by kernel_rfl) (by kernel_rfl) ?_
    repeat (go_big_quiet_step ((go_at_call 26; exact later_same _ (refBit_any _ _))))
    refine wpQuiet_nil ?_
    rintro _ ⟨x2, rfl⟩
    go_wp2
    go_ret2
    exact Ret.mk (two_eq rfl rfl) x2.boxed
theorem unp_range {x : Int} (h0 : 0 ≤ x) (h1 : x < 1125899906842624) :
    unp x = ⟨x % 1048576, x / 1048576 % 1048576, x / 1099511627776 % 16, x / 17592186044416 % 16, x / 281474976710656 % 2 == 1, x / 562949953421312 == 1⟩ ∧ (unp x).word = x := by
  obtain ⟨g1, g2, g3, g4, g5, g6⟩ := gets h0 (by omega)
  have e6 : x / 562949953421312 % 2 = x / 562949953421312 := by omega
  have hu : unp x = ⟨x % 1048576, x / 1048576 % 1048576, x / 1099511627776 % 16, x / 17592186044416 % 16, x / 281474976710656 % 2 == 1, x / 562949953421312 == 1⟩ := by
    unfold unp
    rw [g1, g2, g3, g4, g5, g6, e6]
  refine ⟨hu, ?_⟩
  rw [hu]
  have b5 : bitI (x / 281474976710656 % 2 == 1) = x / 281474976710656 % 2 := by
    by_cases k : x / 281474976710656 % 2 = 1
    · rw [k]; rfl
    · have k' : x / 281474976710656 % 2 = 0 := by omega
      rw [k']; rfl
  have b6 : bitI (x / 562949953421312 == 1) = x / 562949953421312 := by
    by_cases k : x / 562949953421312 = 1
    · rw [k]; rfl
    · have k' : x / 562949953421312 = 0 := by omega
      rw [k']; rfl
  simp only [En.word, b5, b6]
  omega

theorem uok_range {x : Int} (h0 : 0 ≤ x) (h1 : x < 1125899906842624) : uok x = (unp x).may := by
  unfold uok
  rw [(unp_range h0 h1).2]
  simp
theorem uok_out {x : Int} (h : x < 0 ∨ 1125899906842624 ≤ x) : uok x = false := by
  cases k : uok x
  · rfl
  · have hu := uok_of k
    have := word_bd hu.1
    rw [hu.2] at this
    omega

def RU (x : Int) (v : Value) (c : Int) : Prop := ∀ w : World, Calls Tryd.prog 13 #[.int .i64 x] w (Ret w (.tuple #[v, .int .i64 c]))

theorem refUnpack_out (x : Int) (h : x < 0 ∨ 1125899906842624 ≤ x) : RU x (.agg #[.int .i64 0, .int .i64 0, .int .i64 0, .int .i64 0, .bool false, .bool false]) 2 := by
  intro w
  by_cases h0 : x < 0
  · clear h
    go_enter Tryd.func13, Tryd.ntmps13
    go_wp2
    refine bodyPost_ret (v := .tuple #[.agg #[.int .i64 0, .int .i64 0, .int .i64 0, .int .i64 0, .bool false, .bool false], .int .i64 2]) (by simp [results, Tryd.results13, go_sem]) rfl (Ret.mk rfl ((Below.refl _ _).alloc (Nat.le_refl _) _))
  · have h1 : 1125899906842624 ≤ x := by omega
    clear h
    go_enter Tryd.func13, Tryd.ntmps13
    go_wp2
    refine bodyPost_ret (v := .tuple #[.agg #[.int .i64 0, .int .i64 0, .int .i64 0, .int .i64 0, .bool false, .bool false], .int .i64 2]) (by simp [results, Tryd.results13, go_sem]) rfl (Ret.mk rfl ((Below.refl _ _).alloc (Nat.le_refl _) _))

set_option maxHeartbeats 1000000 in
theorem refUnpack_in (x : Int) (h0 : 0 ≤ x) (h1 : x < 1125899906842624) (hm : En.may ⟨x % 1048576, x / 1048576 % 1048576, x / 1099511627776 % 16, x / 17592186044416 % 16, x / 281474976710656 % 2 == 1, x / 562949953421312 == 1⟩ = true) : RU x (.agg #[.int .i64 (x % 1048576), .int .i64 (x / 1048576 % 1048576), .int .i64 (x / 1099511627776 % 16), .int .i64 (x / 17592186044416 % 16), .bool (x / 281474976710656 % 2 == 1), .bool (x / 562949953421312 == 1)]) 0 := by
  intro w
  go_enter Tryd.func13, Tryd.ntmps13
  go_wp2_with (go_at_call 25; refine (refMay_any _ _ _ _ _ _ _).mono ?_; rintro _ _ ⟨rfl, x2, rfl⟩)
  obtain ⟨z0, hz0⟩ : ∃ y : Later ((w.alloc (.cells #[(.int .i64 (x % 1048576)), (.int .i64 0), (.int .i64 0), (.int .i64 0), (.bool false), (.bool false)] 23)).alloc (.cells #[(.int .i64 (x % 1048576)), (.int .i64 (x / 1048576 % 1048576)), (.int .i64 (x / 1099511627776 % 16)), (.int .i64 (x / 17592186044416 % 16)), (.bool (x / 281474976710656 % 2 == 1)), (.bool (x / 562949953421312 == 1))] 23)), x2.at'.setCell ⟨w.heap.size, 0, none⟩ (.int .i64 (x % 1048576)) = y.at' := x2.put_prev w.heap.size 0 (.int .i64 (x % 1048576)) rfl rfl
  obtain ⟨z1, hz1⟩ : ∃ y : Later ((w.alloc (.cells #[(.int .i64 (x % 1048576)), (.int .i64 (x / 1048576 % 1048576)), (.int .i64 0), (.int .i64 0), (.bool false), (.bool false)] 23)).alloc (.cells #[(.int .i64 (x % 1048576)), (.int .i64 (x / 1048576 % 1048576)), (.int .i64 (x / 1099511627776 % 16)), (.int .i64 (x / 17592186044416 % 16)), (.bool (x / 281474976710656 % 2 == 1)), (.bool (x / 562949953421312 == 1))] 23)), z0.at'.setCell ⟨w.heap.size, 1, none⟩ (.int .i64 (x / 1048576 % 1048576)) = y.at' := z0.put_prev w.heap.size 1 (.int .i64 (x / 1048576 % 1048576)) rfl rfl
  obtain ⟨z2, hz2⟩ : ∃ y : Later ((w.alloc (.cells #[(.int .i64 (x % 1048576)), (.int .i64 (x / 1048576 % 1048576)), (.int .i64 (x / 1099511627776 % 16)), (.int .i64 0), (.bool false), (.bool false)] 23)).alloc (.cells #[(.int .i64 (x % 1048576)), (.int .i64 (x / 1048576 % 1048576)), (.int .i64 (x / 1099511627776 % 16)), (.int .i64 (x / 17592186044416 % 16)), (.bool (x / 281474976710656 % 2 == 1)), (.bool (x / 562949953421312 == 1))] 23)), z1.at'.setCell ⟨w.heap.size, 2, none⟩ (.int .i64 (x / 1099511627776 % 16)) = y.at' := z1.put_prev w.heap.size 2 (.int .i64 (x / 1099511627776 % 16)) rfl rfl
  obtain ⟨z3, hz3⟩ : ∃ y : Later ((w.alloc (.cells #[(.int .i64 (x % 1048576)), (.int .i64 (x / 1048576 % 1048576)), (.int .i64 (x / 1099511627776 % 16)), (.int .i64 (x / 17592186044416 % 16)), (.bool false), (.bool false)] 23)).alloc (.cells #[(.int .i64 (x % 1048576)), (.int .i64 (x / 1048576 % 1048576)), (.int .i64 (x / 1099511627776 % 16)), (.int .i64 (x / 17592186044416 % 16)), (.bool (x / 281474976710656 % 2 == 1)), (.bool (x / 562949953421312 == 1))] 23)), z2.at'.setCell ⟨w.heap.size, 3, none⟩ (.int .i64 (x / 17592186044416 % 16)) = y.at' := z2.put_prev w.heap.size 3 (.int .i64 (x / 17592186044416 % 16)) rfl rfl
  obtain ⟨z4, hz4⟩ : ∃ y : Later ((w.alloc (.cells #[(.int .i64 (x % 1048576)), (.int .i64 (x / 1048576 % 1048576)), (.int .i64 (x / 1099511627776 % 16)), (.int .i64 (x / 17592186044416 % 16)), (.bool (x / 281474976710656 % 2 == 1)), (.bool false)] 23)).alloc (.cells #[(.int .i64 (x % 1048576)), (.int .i64 (x / 1048576 % 1048576)), (.int .i64 (x / 1099511627776 % 16)), (.int .i64 (x / 17592186044416 % 16)), (.bool (x / 281474976710656 % 2 == 1)), (.bool (x / 562949953421312 == 1))] 23)), z3.at'.setCell ⟨w.heap.size, 4, none⟩ (.bool (x / 281474976710656 % 2 == 1)) = y.at' := z3.put_prev w.heap.size 4 (.bool (x / 281474976710656 % 2 == 1)) rfl rfl
  obtain ⟨z5, hz5⟩ : ∃ y : Later ((w.alloc (.cells #[(.int .i64 (x % 1048576)), (.int .i64 (x / 1048576 % 1048576)), (.int .i64 (x / 1099511627776 % 16)), (.int .i64 (x / 17592186044416 % 16)), (.bool (x / 281474976710656 % 2 == 1)), (.bool (x / 562949953421312 == 1))] 23)).alloc (.cells #[(.int .i64 (x % 1048576)), (.int .i64 (x / 1048576 % 1048576)), (.int .i64 (x / 1099511627776 % 16)), (.int .i64 (x / 17592186044416 % 16)), (.bool (x / 281474976710656 % 2 == 1)), (.bool (x / 562949953421312 == 1))] 23)), z4.at'.setCell ⟨w.heap.size, 5, none⟩ (.bool (x / 562949953421312 == 1)) = y.at' := z4.put_prev w.heap.size 5 (.bool (x / 562949953421312 == 1)) rfl rfl
  rw [hz0, hz1, hz2, hz3, hz4, hz5]
  exact bodyPost_ret (v := .tuple #[.agg #[.int .i64 (x % 1048576), .int .i64 (x / 1048576 % 1048576), .int .i64 (x / 1099511627776 % 16), .int .i64 (x / 17592186044416 % 16), .bool (x / 281474976710656 % 2 == 1), .bool (x / 562949953421312 == 1)], .int .i64 0]) (by simp [results, Tryd.results13, go_sem]) rfl (Ret.mk rfl ((((Below.refl _ _).alloc (Nat.le_refl _) _).alloc (by simp) _).trans (z5.below.mono (by simp; omega))))

set_option maxHeartbeats 1000000 in
theorem refUnpack_not (x : Int) (h0 : 0 ≤ x) (h1 : x < 1125899906842624) (hm : En.may ⟨x % 1048576, x / 1048576 % 1048576, x / 1099511627776 % 16, x / 17592186044416 % 16, x / 281474976710656 % 2 == 1, x / 562949953421312 == 1⟩ = false) : RU x (.agg #[.int .i64 0, .int .i64 0, .int .i64 0, .int .i64 0, .bool false, .bool false]) 2 := by
  intro w
  go_enter Tryd.func13, Tryd.ntmps13
  go_wp2_with (go_at_call 25; refine (refMay_any _ _ _ _ _ _ _).mono ?_; rintro _ _ ⟨rfl, x2, rfl⟩)
  obtain ⟨z0, hz0⟩ : ∃ y : Later ((w.alloc (.cells #[(.int .i64 0), (.int .i64 0), (.int .i64 0), (.int .i64 0), (.bool false), (.bool false)] 23)).alloc (.cells #[(.int .i64 (x % 1048576)), (.int .i64 (x / 1048576 % 1048576)), (.int .i64 (x / 1099511627776 % 16)), (.int .i64 (x / 17592186044416 % 16)), (.bool (x / 281474976710656 % 2 == 1)), (.bool (x / 562949953421312 == 1))] 23)), x2.at'.setCell ⟨w.heap.size, 0, none⟩ (.int .i64 0) = y.at' := x2.put_prev w.heap.size 0 (.int .i64 0) rfl rfl
  obtain ⟨z1, hz1⟩ : ∃ y : Later ((w.alloc (.cells #[(.int .i64 0), (.int .i64 0), (.int .i64 0), (.int .i64 0), (.bool false), (.bool false)] 23)).alloc (.cells #[(.int .i64 (x % 1048576)), (.int .i64 (x / 1048576 % 1048576)), (.int .i64 (x / 1099511627776 % 16)), (.int .i64 (x / 17592186044416 % 16)), (.bool (x / 281474976710656 % 2 == 1)), (.bool (x / 562949953421312 == 1))] 23)), z0.at'.setCell ⟨w.heap.size, 1, none⟩ (.int .i64 0) = y.at' := z0.put_prev w.heap.size 1 (.int .i64 0) rfl rfl
  obtain ⟨z2, hz2⟩ : ∃ y : Later ((w.alloc (.cells #[(.int .i64 0), (.int .i64 0), (.int .i64 0), (.int .i64 0), (.bool false), (.bool false)] 23)).alloc (.cells #[(.int .i64 (x % 1048576)), (.int .i64 (x / 1048576 % 1048576)), (.int .i64 (x / 1099511627776 % 16)), (.int .i64 (x / 17592186044416 % 16)), (.bool (x / 281474976710656 % 2 == 1)), (.bool (x / 562949953421312 == 1))] 23)), z1.at'.setCell ⟨w.heap.size, 2, none⟩ (.int .i64 0) = y.at' := z1.put_prev w.heap.size 2 (.int .i64 0) rfl rfl
  obtain ⟨z3, hz3⟩ : ∃ y : Later ((w.alloc (.cells #[(.int .i64 0), (.int .i64 0), (.int .i64 0), (.int .i64 0), (.bool false), (.bool false)] 23)).alloc (.cells #[(.int .i64 (x % 1048576)), (.int .i64 (x / 1048576 % 1048576)), (.int .i64 (x / 1099511627776 % 16)), (.int .i64 (x / 17592186044416 % 16)), (.bool (x / 281474976710656 % 2 == 1)), (.bool (x / 562949953421312 == 1))] 23)), z2.at'.setCell ⟨w.heap.size, 3, none⟩ (.int .i64 0) = y.at' := z2.put_prev w.heap.size 3 (.int .i64 0) rfl rfl
  obtain ⟨z4, hz4⟩ : ∃ y : Later ((w.alloc (.cells #[(.int .i64 0), (.int .i64 0), (.int .i64 0), (.int .i64 0), (.bool false), (.bool false)] 23)).alloc (.cells #[(.int .i64 (x % 1048576)), (.int .i64 (x / 1048576 % 1048576)), (.int .i64 (x / 1099511627776 % 16)), (.int .i64 (x / 17592186044416 % 16)), (.bool (x / 281474976710656 % 2 == 1)), (.bool (x / 562949953421312 == 1))] 23)), z3.at'.setCell ⟨w.heap.size, 4, none⟩ (.bool false) = y.at' := z3.put_prev w.heap.size 4 (.bool false) rfl rfl
  obtain ⟨z5, hz5⟩ : ∃ y : Later ((w.alloc (.cells #[(.int .i64 0), (.int .i64 0), (.int .i64 0), (.int .i64 0), (.bool false), (.bool false)] 23)).alloc (.cells #[(.int .i64 (x % 1048576)), (.int .i64 (x / 1048576 % 1048576)), (.int .i64 (x / 1099511627776 % 16)), (.int .i64 (x / 17592186044416 % 16)), (.bool (x / 281474976710656 % 2 == 1)), (.bool (x / 562949953421312 == 1))] 23)), z4.at'.setCell ⟨w.heap.size, 5, none⟩ (.bool false) = y.at' := z4.put_prev w.heap.size 5 (.bool false) rfl rfl
  rw [hz0, hz1, hz2, hz3, hz4, hz5]
  exact bodyPost_ret (v := .tuple #[.agg #[.int .i64 0, .int .i64 0, .int .i64 0, .int .i64 0, .bool false, .bool false], .int .i64 2]) (by simp [results, Tryd.results13, go_sem]) rfl (Ret.mk rfl ((((Below.refl _ _).alloc (Nat.le_refl _) _).alloc (by simp) _).trans (z5.below.mono (by simp; omega))))

theorem refUnpack_any (x : Int) : RU x (upV x).val (upE x) := by
  by_cases h : 0 ≤ x ∧ x < 1125899906842624
  · obtain ⟨h0, h1⟩ := h
    have hr := uok_range h0 h1
    have hu := (unp_range h0 h1).1
    rw [hu] at hr
    cases hm : En.may ⟨x % 1048576, x / 1048576 % 1048576, x / 1099511627776 % 16, x / 17592186044416 % 16, x / 281474976710656 % 2 == 1, x / 562949953421312 == 1⟩
    · have hk := hr.trans hm
      rw [upV_bad hk, upE_bad hk]
      exact refUnpack_not x h0 h1 hm
    · have hk := hr.trans hm
      rw [upV_ok hk, upE_ok hk, hu]
      exact refUnpack_in x h0 h1 hm
  · have hk := uok_out (x := x) (by omega)
    rw [upV_bad hk, upE_bad hk]
    exact refUnpack_out x (by omega)

set_option maxHeartbeats 1000000 in
theorem EntryPacks_walk (o g p q : Int) (lk lv : Bool) (x : Int) (w : World) (hF : HasFields w) : Calls Tryd.prog 3 #[.agg #[.int .i64 o, .int .i64 g, .int .i64 p, .int .i64 q, .bool lk, .bool lv], .int .i64 x] w (Ret w (.bool true)) := by
  have c1 := Pack_any o g p q lk lv
  have c2 := refPack_any o g p q lk lv
  have c3 := Unpack_any x
  have c4 := refUnpack_any x
  unfold RU at c4
  generalize packV ⟨o, g, p, q, lk, lv⟩ = V1 at c1 c2
  generalize packE ⟨o, g, p, q, lk, lv⟩ = E1 at c1 c2
  generalize upE x = E2 at c3 c4
  generalize upV x = U at c3 c4
  obtain ⟨o', g', p', q', lk', lv'⟩ := U
  simp only [En.val] at c3 c4
  go_enter Tryd.func3, Tryd.ntmps3
  go_wp2_with (first
    | (go_at_call 10; refine (own_any o g p q lk lv _).mono ?_; rintro _ _ ⟨rfl, x1, rfl⟩)
    | (go_at_call 9; (with_reducible refine (later_of _ (c1 _ (x1.fields (hF.alloc _)))).mono ?_); rintro _ _ ⟨rfl, x2, rfl⟩)
    | (go_at_call 11; (with_reducible refine (later_of _ (c2 _)).mono ?_); rintro _ _ ⟨rfl, x3, rfl⟩)
    | (go_at_call 12; (with_reducible refine (later_of _ (c3 _ (x3.fields (hF.alloc _)))).mono ?_); rintro _ _ ⟨rfl, x4, rfl⟩)
    | (go_at_call 13; (with_reducible refine (c4 _).mono ?_); rintro _ _ ⟨rfl, x5, rfl⟩; have hz2 := x5.lt x4.at'.heap.size (by simp); have hz1 := Nat.le_of_lt hz2))
  refine wp_region_later (by kernel_rfl) (by kernel_rfl) ?_
  repeat (go_big_quiet_step ((first
    | (go_at_call 14; exact later_of _ (told_any _ _ _ _ _ _ _))
    | (go_at_call 15; exact later_of _ (live_any _ (Later.fields _ ((x5.fields ((x4.fields (hF.alloc _)).alloc _)).alloc _)))))))
  refine wpQuiet_nil ?_
  rintro _ ⟨y1, rfl⟩
  go_wp2
  go_ret
  exact Ret.mk rfl (x4.on ((x5.on y1.boxed).boxed)).boxed
end Go.Proofs.YtohclplpcnkhbaaDoor
