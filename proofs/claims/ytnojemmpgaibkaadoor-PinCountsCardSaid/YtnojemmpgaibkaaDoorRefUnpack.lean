/-
  The document's entry of any word.
  Conditions: none.
-/
import Derived.Test.YtnojemmpgaibkaaDoorEntryRef
namespace Go.Proofs.YtnojemmpgaibkaaDoor
open Go.RowKit
attribute [local go_sem] Later.cell Later.frozen Later.lt Later.le
attribute [local go_sem ↓] Go.wp_at_zero Go.wp_at_succ

theorem unp_range {x : Int} (h0 : 0 ≤ x) (h1 : x < 1125899906842624) :
    unp x = ⟨x % 1048576, x / 1048576 % 1048576, x / 1099511627776 % 16, x / 17592186044416 % 16, x / 281474976710656 % 2 == 1, x / 562949953421312 == 1⟩ ∧ (unp x).word = x := by
  obtain ⟨g1, g2, g3, g4, g5, g6⟩ := gets h0 (by omega)
  have e6 : x / 562949953421312 % 2 = x / 562949953421312 := by omega
  have hu : unp x = ⟨x % 1048576, x / 1048576 % 1048576, x / 1099511627776 % 16, x / 17592186044416 % 16, x / 281474976710656 % 2 == 1, x / 562949953421312 == 1⟩ := by
    unfold unp
    rw [g1, g2, g3, g4, g5, g6, e6]
  refine ⟨hu, ?_⟩
  rw [hu]
  have b5 : bitI (x / 281474976710656 % 2 == 1) = x / 281474976710656 % 2 := by
    by_cases k : x / 281474976710656 % 2 = 1
    · rw [k]; rfl
    · have k' : x / 281474976710656 % 2 = 0 := by omega
      rw [k']; rfl
  have b6 : bitI (x / 562949953421312 == 1) = x / 562949953421312 := by
    by_cases k : x / 562949953421312 = 1
    · rw [k]; rfl
    · have k' : x / 562949953421312 = 0 := by omega
      rw [k']; rfl
  simp only [En.word, b5, b6]
  omega

theorem uok_range {x : Int} (h0 : 0 ≤ x) (h1 : x < 1125899906842624) : uok x = (unp x).may := by
  unfold uok
  rw [(unp_range h0 h1).2]
  simp
theorem uok_out {x : Int} (h : x < 0 ∨ 1125899906842624 ≤ x) : uok x = false := by
  cases k : uok x
  · rfl
  · have hu := uok_of k
    have := word_bd hu.1
    rw [hu.2] at this
    omega

def RU (x : Int) (v : Value) (c : Int) : Prop := ∀ w : World, Calls Tryd.prog 21 #[.int .i64 x] w (Ret w (.tuple #[v, .int .i64 c]))

theorem refUnpack_out (x : Int) (h : x < 0 ∨ 1125899906842624 ≤ x) : RU x (.agg #[.int .i64 0, .int .i64 0, .int .i64 0, .int .i64 0, .bool false, .bool false]) 2 := by
  intro w
  by_cases h0 : x < 0
  · clear h
    go_enter Tryd.func21, Tryd.ntmps21
    go_wp2
    refine bodyPost_ret (v := .tuple #[.agg #[.int .i64 0, .int .i64 0, .int .i64 0, .int .i64 0, .bool false, .bool false], .int .i64 2]) (by simp [results, Tryd.results21, go_sem]) rfl (Ret.mk rfl ((Below.refl _ _).alloc (Nat.le_refl _) _))
  · have h1 : 1125899906842624 ≤ x := by omega
    clear h
    go_enter Tryd.func21, Tryd.ntmps21
    go_wp2
    refine bodyPost_ret (v := .tuple #[.agg #[.int .i64 0, .int .i64 0, .int .i64 0, .int .i64 0, .bool false, .bool false], .int .i64 2]) (by simp [results, Tryd.results21, go_sem]) rfl (Ret.mk rfl ((Below.refl _ _).alloc (Nat.le_refl _) _))

set_option maxHeartbeats 1000000 in
theorem refUnpack_in (x : Int) (h0 : 0 ≤ x) (h1 : x < 1125899906842624) (hm : En.may ⟨x % 1048576, x / 1048576 % 1048576, x / 1099511627776 % 16, x / 17592186044416 % 16, x / 281474976710656 % 2 == 1, x / 562949953421312 == 1⟩ = true) : RU x (.agg #[.int .i64 (x % 1048576), .int .i64 (x / 1048576 % 1048576), .int .i64 (x / 1099511627776 % 16), .int .i64 (x / 17592186044416 % 16), .bool (x / 281474976710656 % 2 == 1), .bool (x / 562949953421312 == 1)]) 0 := by
  intro w
  go_enter Tryd.func21, Tryd.ntmps21
  go_wp2_with (go_at_call 43; refine (refMay_any _ _ _ _ _ _ _).mono ?_; rintro _ _ ⟨rfl, x2, rfl⟩)
  obtain ⟨z0, hz0⟩ : ∃ y : Later ((w.alloc (.cells #[(.int .i64 (x % 1048576)), (.int .i64 0), (.int .i64 0), (.int .i64 0), (.bool false), (.bool false)] 34)).alloc (.cells #[(.int .i64 (x % 1048576)), (.int .i64 (x / 1048576 % 1048576)), (.int .i64 (x / 1099511627776 % 16)), (.int .i64 (x / 17592186044416 % 16)), (.bool (x / 281474976710656 % 2 == 1)), (.bool (x / 562949953421312 == 1))] 34)), x2.at'.setCell ⟨w.heap.size, 0, none⟩ (.int .i64 (x % 1048576)) = y.at' := x2.put_prev w.heap.size 0 (.int .i64 (x % 1048576)) rfl rfl
  obtain ⟨z1, hz1⟩ : ∃ y : Later ((w.alloc (.cells #[(.int .i64 (x % 1048576)), (.int .i64 (x / 1048576 % 1048576)), (.int .i64 0), (.int .i64 0), (.bool false), (.bool false)] 34)).alloc (.cells #[(.int .i64 (x % 1048576)), (.int .i64 (x / 1048576 % 1048576)), (.int .i64 (x / 1099511627776 % 16)), (.int .i64 (x / 17592186044416 % 16)), (.bool (x / 281474976710656 % 2 == 1)), (.bool (x / 562949953421312 == 1))] 34)), z0.at'.setCell ⟨w.heap.size, 1, none⟩ (.int .i64 (x / 1048576 % 1048576)) = y.at' := z0.put_prev w.heap.size 1 (.int .i64 (x / 1048576 % 1048576)) rfl rfl
  obtain ⟨z2, hz2⟩ : ∃ y : Later ((w.alloc (.cells #[(.int .i64 (x % 1048576)), (.int .i64 (x / 1048576 % 1048576)), (.int .i64 (x / 1099511627776 % 16)), (.int .i64 0), (.bool false), (.bool false)] 34)).alloc (.cells #[(.int .i64 (x % 1048576)), (.int .i64 (x / 1048576 % 1048576)), (.int .i64 (x / 1099511627776 % 16)), (.int .i64 (x / 17592186044416 % 16)), (.bool (x / 281474976710656 % 2 == 1)), (.bool (x / 562949953421312 == 1))] 34)), z1.at'.setCell ⟨w.heap.size, 2, none⟩ (.int .i64 (x / 1099511627776 % 16)) = y.at' := z1.put_prev w.heap.size 2 (.int .i64 (x / 1099511627776 % 16)) rfl rfl
  obtain ⟨z3, hz3⟩ : ∃ y : Later ((w.alloc (.cells #[(.int .i64 (x % 1048576)), (.int .i64 (x / 1048576 % 1048576)), (.int .i64 (x / 1099511627776 % 16)), (.int .i64 (x / 17592186044416 % 16)), (.bool false), (.bool false)] 34)).alloc (.cells #[(.int .i64 (x % 1048576)), (.int .i64 (x / 1048576 % 1048576)), (.int .i64 (x / 1099511627776 % 16)), (.int .i64 (x / 17592186044416 % 16)), (.bool (x / 281474976710656 % 2 == 1)), (.bool (x / 562949953421312 == 1))] 34)), z2.at'.setCell ⟨w.heap.size, 3, none⟩ (.int .i64 (x / 17592186044416 % 16)) = y.at' := z2.put_prev w.heap.size 3 (.int .i64 (x / 17592186044416 % 16)) rfl rfl
  obtain ⟨z4, hz4⟩ : ∃ y : Later ((w.alloc (.cells #[(.int .i64 (x % 1048576)), (.int .i64 (x / 1048576 % 1048576)), (.int .i64 (x / 1099511627776 % 16)), (.int .i64 (x / 17592186044416 % 16)), (.bool (x / 281474976710656 % 2 == 1)), (.bool false)] 34)).alloc (.cells #[(.int .i64 (x % 1048576)), (.int .i64 (x / 1048576 % 1048576)), (.int .i64 (x / 1099511627776 % 16)), (.int .i64 (x / 17592186044416 % 16)), (.bool (x / 281474976710656 % 2 == 1)), (.bool (x / 562949953421312 == 1))] 34)), z3.at'.setCell ⟨w.heap.size, 4, none⟩ (.bool (x / 281474976710656 % 2 == 1)) = y.at' := z3.put_prev w.heap.size 4 (.bool (x / 281474976710656 % 2 == 1)) rfl rfl
  obtain ⟨z5, hz5⟩ : ∃ y : Later ((w.alloc (.cells #[(.int .i64 (x % 1048576)), (.int .i64 (x / 1048576 % 1048576)), (.int .i64 (x / 1099511627776 % 16)), (.int .i64 (x / 17592186044416 % 16)), (.bool (x / 281474976710656 % 2 == 1)), (.bool (x / 562949953421312 == 1))] 34)).alloc (.cells #[(.int .i64 (x % 1048576)), (.int .i64 (x / 1048576 % 1048576)), (.int .i64 (x / 1099511627776 % 16)), (.int .i64 (x / 17592186044416 % 16)), (.bool (x / 281474976710656 % 2 == 1)), (.bool (x / 562949953421312 == 1))] 34)), z4.at'.setCell ⟨w.heap.size, 5, none⟩ (.bool (x / 562949953421312 == 1)) = y.at' := z4.put_prev w.heap.size 5 (.bool (x / 562949953421312 == 1)) rfl rfl
  rw [hz0, hz1, hz2, hz3, hz4, hz5]
  exact bodyPost_ret (v := .tuple #[.agg #[.int .i64 (x % 1048576), .int .i64 (x / 1048576 % 1048576), .int .i64 (x / 1099511627776 % 16), .int .i64 (x / 17592186044416 % 16), .bool (x / 281474976710656 % 2 == 1), .bool (x / 562949953421312 == 1)], .int .i64 0]) (by simp [results, Tryd.results21, go_sem]) rfl (Ret.mk rfl ((((Below.refl _ _).alloc (Nat.le_refl _) _).alloc (by simp) _).trans (z5.below.mono (by simp; omega))))

set_option maxHeartbeats 1000000 in
theorem refUnpack_not (x : Int) (h0 : 0 ≤ x) (h1 : x < 1125899906842624) (hm : En.may ⟨x % 1048576, x / 1048576 % 1048576, x / 1099511627776 % 16, x / 17592186044416 % 16, x / 281474976710656 % 2 == 1, x / 562949953421312 == 1⟩ = false) : RU x (.agg #[.int .i64 0, .int .i64 0, .int .i64 0, .int .i64 0, .bool false, .bool false]) 2 := by
  intro w
  go_enter Tryd.func21, Tryd.ntmps21
  go_wp2_with (go_at_call 43; refine (refMay_any _ _ _ _ _ _ _).mono ?_; rintro _ _ ⟨rfl, x2, rfl⟩)
  obtain ⟨z0, hz0⟩ : ∃ y : Later ((w.alloc (.cells #[(.int .i64 0), (.int .i64 0), (.int .i64 0), (.int .i64 0), (.bool false), (.bool false)] 34)).alloc (.cells #[(.int .i64 (x % 1048576)), (.int .i64 (x / 1048576 % 1048576)), (.int .i64 (x / 1099511627776 % 16)), (.int .i64 (x / 17592186044416 % 16)), (.bool (x / 281474976710656 % 2 == 1)), (.bool (x / 562949953421312 == 1))] 34)), x2.at'.setCell ⟨w.heap.size, 0, none⟩ (.int .i64 0) = y.at' := x2.put_prev w.heap.size 0 (.int .i64 0) rfl rfl
  obtain ⟨z1, hz1⟩ : ∃ y : Later ((w.alloc (.cells #[(.int .i64 0), (.int .i64 0), (.int .i64 0), (.int .i64 0), (.bool false), (.bool false)] 34)).alloc (.cells #[(.int .i64 (x % 1048576)), (.int .i64 (x / 1048576 % 1048576)), (.int .i64 (x / 1099511627776 % 16)), (.int .i64 (x / 17592186044416 % 16)), (.bool (x / 281474976710656 % 2 == 1)), (.bool (x / 562949953421312 == 1))] 34)), z0.at'.setCell ⟨w.heap.size, 1, none⟩ (.int .i64 0) = y.at' := z0.put_prev w.heap.size 1 (.int .i64 0) rfl rfl
  obtain ⟨z2, hz2⟩ : ∃ y : Later ((w.alloc (.cells #[(.int .i64 0), (.int .i64 0), (.int .i64 0), (.int .i64 0), (.bool false), (.bool false)] 34)).alloc (.cells #[(.int .i64 (x % 1048576)), (.int .i64 (x / 1048576 % 1048576)), (.int .i64 (x / 1099511627776 % 16)), (.int .i64 (x / 17592186044416 % 16)), (.bool (x / 281474976710656 % 2 == 1)), (.bool (x / 562949953421312 == 1))] 34)), z1.at'.setCell ⟨w.heap.size, 2, none⟩ (.int .i64 0) = y.at' := z1.put_prev w.heap.size 2 (.int .i64 0) rfl rfl
  obtain ⟨z3, hz3⟩ : ∃ y : Later ((w.alloc (.cells #[(.int .i64 0), (.int .i64 0), (.int .i64 0), (.int .i64 0), (.bool false), (.bool false)] 34)).alloc (.cells #[(.int .i64 (x % 1048576)), (.int .i64 (x / 1048576 % 1048576)), (.int .i64 (x / 1099511627776 % 16)), (.int .i64 (x / 17592186044416 % 16)), (.bool (x / 281474976710656 % 2 == 1)), (.bool (x / 562949953421312 == 1))] 34)), z2.at'.setCell ⟨w.heap.size, 3, none⟩ (.int .i64 0) = y.at' := z2.put_prev w.heap.size 3 (.int .i64 0) rfl rfl
  obtain ⟨z4, hz4⟩ : ∃ y : Later ((w.alloc (.cells #[(.int .i64 0), (.int .i64 0), (.int .i64 0), (.int .i64 0), (.bool false), (.bool false)] 34)).alloc (.cells #[(.int .i64 (x % 1048576)), (.int .i64 (x / 1048576 % 1048576)), (.int .i64 (x / 1099511627776 % 16)), (.int .i64 (x / 17592186044416 % 16)), (.bool (x / 281474976710656 % 2 == 1)), (.bool (x / 562949953421312 == 1))] 34)), z3.at'.setCell ⟨w.heap.size, 4, none⟩ (.bool false) = y.at' := z3.put_prev w.heap.size 4 (.bool false) rfl rfl
  obtain ⟨z5, hz5⟩ : ∃ y : Later ((w.alloc (.cells #[(.int .i64 0), (.int .i64 0), (.int .i64 0), (.int .i64 0), (.bool false), (.bool false)] 34)).alloc (.cells #[(.int .i64 (x % 1048576)), (.int .i64 (x / 1048576 % 1048576)), (.int .i64 (x / 1099511627776 % 16)), (.int .i64 (x / 17592186044416 % 16)), (.bool (x / 281474976710656 % 2 == 1)), (.bool (x / 562949953421312 == 1))] 34)), z4.at'.setCell ⟨w.heap.size, 5, none⟩ (.bool false) = y.at' := z4.put_prev w.heap.size 5 (.bool false) rfl rfl
  rw [hz0, hz1, hz2, hz3, hz4, hz5]
  exact bodyPost_ret (v := .tuple #[.agg #[.int .i64 0, .int .i64 0, .int .i64 0, .int .i64 0, .bool false, .bool false], .int .i64 2]) (by simp [results, Tryd.results21, go_sem]) rfl (Ret.mk rfl ((((Below.refl _ _).alloc (Nat.le_refl _) _).alloc (by simp) _).trans (z5.below.mono (by simp; omega))))

theorem refUnpack_any (x : Int) : RU x (upV x).val (upE x) := by
  by_cases h : 0 ≤ x ∧ x < 1125899906842624
  · obtain ⟨h0, h1⟩ := h
    have hr := uok_range h0 h1
    have hu := (unp_range h0 h1).1
    rw [hu] at hr
    cases hm : En.may ⟨x % 1048576, x / 1048576 % 1048576, x / 1099511627776 % 16, x / 17592186044416 % 16, x / 281474976710656 % 2 == 1, x / 562949953421312 == 1⟩
    · have hk := hr.trans hm
      rw [upV_bad hk, upE_bad hk]
      exact refUnpack_not x h0 h1 hm
    · have hk := hr.trans hm
      rw [upV_ok hk, upE_ok hk, hu]
      exact refUnpack_in x h0 h1 hm
  · have hk := uok_out (x := x) (by omega)
    rw [upV_bad hk, upE_bad hk]
    exact refUnpack_out x (by omega)

end Go.Proofs.YtnojemmpgaibkaaDoor
