/-
  What Unpack answers, at every input, where the table of fields reads as its text lays it.
  Conditions: that the package's table of fields reads as it is laid.
-/
import Derived.Test.YtfomephgallpmaaDoorEntryPack
namespace Go.Proofs.YtfomephgallpmaaDoor
open Go.RowKit
attribute [local go_sem] Later.cell Later.frozen Later.lt Later.le
attribute [local go_sem ↓] Go.wp_at_zero Go.wp_at_succ

theorem unpacked_any (x : Int) (w : World) (hF : HasFields w) : Calls Tryd.prog 76 #[.int .i64 x] w
    (Ret w (.agg #[.int .i64 (unp x).o, .int .i64 (unp x).g, .int .i64 (unp x).p, .int .i64 (unp x).q, .bool (unp x).lk, .bool (unp x).lv])) := by
  obtain ⟨hz, c0, c1, c2, c3, c4, c5, c6, c7, c8, c9, c10, c11⟩ := hF
  have hz1 : 0 < w.heap.size + 1 := by omega
  have hz2 : 0 < w.heap.size + 1 + 1 := by omega
  try simp at hz1
  try simp at hz2
  go_enter Tryd.func76, Tryd.ntmps76
  go_wp2
  refine wp_loop_rounds 7 ?_
  rw [rounds_succ]
  go_wp2_with (go_at_call 89; (with_reducible refine (Get_any 0 20 x _).mono ?_); rintro _ _ ⟨rfl, x0, rfl⟩)
  obtain ⟨y0, hy0⟩ := x0.put_last (c' := #[.int .i64 (getF x 0 20), .int .i64 0, .int .i64 0, .int .i64 0, .int .i64 0, .int .i64 0]) (w.heap.size + 1) 0 (.int .i64 (getF x 0 20)) (by simp) rfl
  rw [hy0, rounds_succ]
  clear hy0
  go_wp2_with (go_at_call 89; (with_reducible refine (later_of _ (Get_any 20 20 x _)).mono ?_); rintro _ _ ⟨rfl, x1, rfl⟩)
  obtain ⟨y1, hy1⟩ := x1.put_last (c' := #[.int .i64 (getF x 0 20), .int .i64 (getF x 20 20), .int .i64 0, .int .i64 0, .int .i64 0, .int .i64 0]) (w.heap.size + 1) 1 (.int .i64 (getF x 20 20)) (by simp) rfl
  rw [hy1, rounds_succ]
  clear hy1
  go_wp2_with (go_at_call 89; (with_reducible refine (later_of _ (Get_any 40 4 x _)).mono ?_); rintro _ _ ⟨rfl, x2, rfl⟩)
  obtain ⟨y2, hy2⟩ := x2.put_last (c' := #[.int .i64 (getF x 0 20), .int .i64 (getF x 20 20), .int .i64 (getF x 40 4), .int .i64 0, .int .i64 0, .int .i64 0]) (w.heap.size + 1) 2 (.int .i64 (getF x 40 4)) (by simp) rfl
  rw [hy2, rounds_succ]
  clear hy2
  go_wp2_with (go_at_call 89; (with_reducible refine (later_of _ (Get_any 44 4 x _)).mono ?_); rintro _ _ ⟨rfl, x3, rfl⟩)
  obtain ⟨y3, hy3⟩ := x3.put_last (c' := #[.int .i64 (getF x 0 20), .int .i64 (getF x 20 20), .int .i64 (getF x 40 4), .int .i64 (getF x 44 4), .int .i64 0, .int .i64 0]) (w.heap.size + 1) 3 (.int .i64 (getF x 44 4)) (by simp) rfl
  rw [hy3, rounds_succ]
  clear hy3
  go_wp2_with (go_at_call 89; (with_reducible refine (later_of _ (Get_any 48 1 x _)).mono ?_); rintro _ _ ⟨rfl, x4, rfl⟩)
  obtain ⟨y4, hy4⟩ := x4.put_last (c' := #[.int .i64 (getF x 0 20), .int .i64 (getF x 20 20), .int .i64 (getF x 40 4), .int .i64 (getF x 44 4), .int .i64 (getF x 48 1), .int .i64 0]) (w.heap.size + 1) 4 (.int .i64 (getF x 48 1)) (by simp) rfl
  rw [hy4, rounds_succ]
  clear hy4
  go_wp2_with (go_at_call 89; (with_reducible refine (later_of _ (Get_any 49 1 x _)).mono ?_); rintro _ _ ⟨rfl, x5, rfl⟩)
  obtain ⟨y5, hy5⟩ := x5.put_last (c' := #[.int .i64 (getF x 0 20), .int .i64 (getF x 20 20), .int .i64 (getF x 40 4), .int .i64 (getF x 44 4), .int .i64 (getF x 48 1), .int .i64 (getF x 49 1)]) (w.heap.size + 1) 5 (.int .i64 (getF x 49 1)) (by simp) rfl
  rw [hy5, rounds_succ]
  clear hy5
  go_wp2
  obtain ⟨z0, hz0⟩ := y5.put_prev (c' := #[(.int .i64 (getF x 0 20)), .int .i64 0, .int .i64 0, .int .i64 0, .bool false, .bool false]) w.heap.size 0 (.int .i64 (getF x 0 20)) rfl rfl
  obtain ⟨z1, hz1⟩ := z0.put_prev (c' := #[(.int .i64 (getF x 0 20)), (.int .i64 (getF x 20 20)), .int .i64 0, .int .i64 0, .bool false, .bool false]) w.heap.size 1 (.int .i64 (getF x 20 20)) rfl rfl
  obtain ⟨z2, hz2⟩ := z1.put_prev (c' := #[(.int .i64 (getF x 0 20)), (.int .i64 (getF x 20 20)), (.int .i64 (getF x 40 4)), .int .i64 0, .bool false, .bool false]) w.heap.size 2 (.int .i64 (getF x 40 4)) rfl rfl
  obtain ⟨z3, hz3⟩ := z2.put_prev (c' := #[(.int .i64 (getF x 0 20)), (.int .i64 (getF x 20 20)), (.int .i64 (getF x 40 4)), (.int .i64 (getF x 44 4)), .bool false, .bool false]) w.heap.size 3 (.int .i64 (getF x 44 4)) rfl rfl
  obtain ⟨z4, hz4⟩ := z3.put_prev (c' := #[(.int .i64 (getF x 0 20)), (.int .i64 (getF x 20 20)), (.int .i64 (getF x 40 4)), (.int .i64 (getF x 44 4)), (.bool (getF x 48 1 == 1)), .bool false]) w.heap.size 4 (.bool (getF x 48 1 == 1)) rfl rfl
  obtain ⟨z5, hz5⟩ := z4.put_prev (c' := #[(.int .i64 (getF x 0 20)), (.int .i64 (getF x 20 20)), (.int .i64 (getF x 40 4)), (.int .i64 (getF x 44 4)), (.bool (getF x 48 1 == 1)), (.bool (getF x 49 1 == 1))]) w.heap.size 5 (.bool (getF x 49 1 == 1)) rfl rfl
  rw [hz0, hz1, hz2, hz3, hz4, hz5]
  refine bodyPost_ret (v := .agg #[.int .i64 (unp x).o, .int .i64 (unp x).g, .int .i64 (unp x).p, .int .i64 (unp x).q, .bool (unp x).lk, .bool (unp x).lv]) (by simp [results, Tryd.results76, go_sem, unp]) rfl (Ret.mk rfl ?_)
  exact (((Below.refl _ _).alloc (Nat.le_refl _) _).alloc (by simp) _).trans (z5.below.mono (by simp; omega))
theorem Unpack_any (x : Int) (w : World) (hF : HasFields w) : Calls Tryd.prog 61 #[.int .i64 x] w
    (Ret w (.tuple #[(upV x).val, .int .i64 (upE x)])) := by
  have cu := unpacked_any x
  cases hu : unp x with
  | mk o g p q lk lv =>
  rw [hu] at cu
  have hk : uok x = (En.may ⟨o, g, p, q, lk, lv⟩ && (En.word ⟨o, g, p, q, lk, lv⟩ == x)) := by unfold uok; rw [hu]
  cases hm : En.may ⟨o, g, p, q, lk, lv⟩
  · have hb : uok x = false := by rw [hk, hm]; rfl
    rw [upV_bad hb, upE_bad hb]
    have hpv := packV_bad hm
    have hpe := packE_bad hm
    clear hk hb hu
    show Calls Tryd.prog 61 #[.int .i64 x] w (Ret w (.tuple #[.agg #[.int .i64 0, .int .i64 0, .int .i64 0, .int .i64 0, .bool false, .bool false], .int .i64 2]))
    go_enter Tryd.func61, Tryd.ntmps61
    go_wp2_with (first
      | (go_at_call 76; (with_reducible refine (cu _ (hF.alloc _)).mono ?_); rintro _ _ ⟨rfl, x1, rfl⟩)
      | (go_at_call 63; (with_reducible refine (Pack_any o g p q lk lv _ ((x1.fields (hF.alloc _)).alloc _)).mono ?_); rintro _ _ ⟨rfl, x2, rfl⟩; have e0 := x1.two_cell x2 0 (.int .i64 0) rfl; have e1 := x1.two_cell x2 1 (.int .i64 0) rfl; have e2 := x1.two_cell x2 2 (.int .i64 0) rfl; have e3 := x1.two_cell x2 3 (.int .i64 0) rfl; have e4 := x1.two_cell x2 4 (.bool false) rfl; have e5 := x1.two_cell x2 5 (.bool false) rfl; have f0 := x1.two_frozen x2 0; have f1 := x1.two_frozen x2 1; have f2 := x1.two_frozen x2 2; have f3 := x1.two_frozen x2 3; have f4 := x1.two_frozen x2 4; have f5 := x1.two_frozen x2 5))
    obtain ⟨z0, hz0⟩ : ∃ y : Later (w.alloc (.cells #[(.int .i64 0), (.int .i64 0), (.int .i64 0), (.int .i64 0), (.bool false), (.bool false)] 89)), x2.at'.setCell ⟨w.heap.size, 0, none⟩ (.int .i64 0) = y.at' := (x1.on x2.boxed).put_last w.heap.size 0 (.int .i64 0) rfl rfl
    obtain ⟨z1, hz1⟩ : ∃ y : Later (w.alloc (.cells #[(.int .i64 0), (.int .i64 0), (.int .i64 0), (.int .i64 0), (.bool false), (.bool false)] 89)), z0.at'.setCell ⟨w.heap.size, 1, none⟩ (.int .i64 0) = y.at' := z0.put_last w.heap.size 1 (.int .i64 0) rfl rfl
    obtain ⟨z2, hz2⟩ : ∃ y : Later (w.alloc (.cells #[(.int .i64 0), (.int .i64 0), (.int .i64 0), (.int .i64 0), (.bool false), (.bool false)] 89)), z1.at'.setCell ⟨w.heap.size, 2, none⟩ (.int .i64 0) = y.at' := z1.put_last w.heap.size 2 (.int .i64 0) rfl rfl
    obtain ⟨z3, hz3⟩ : ∃ y : Later (w.alloc (.cells #[(.int .i64 0), (.int .i64 0), (.int .i64 0), (.int .i64 0), (.bool false), (.bool false)] 89)), z2.at'.setCell ⟨w.heap.size, 3, none⟩ (.int .i64 0) = y.at' := z2.put_last w.heap.size 3 (.int .i64 0) rfl rfl
    obtain ⟨z4, hz4⟩ : ∃ y : Later (w.alloc (.cells #[(.int .i64 0), (.int .i64 0), (.int .i64 0), (.int .i64 0), (.bool false), (.bool false)] 89)), z3.at'.setCell ⟨w.heap.size, 4, none⟩ (.bool false) = y.at' := z3.put_last w.heap.size 4 (.bool false) rfl rfl
    obtain ⟨z5, hz5⟩ : ∃ y : Later (w.alloc (.cells #[(.int .i64 0), (.int .i64 0), (.int .i64 0), (.int .i64 0), (.bool false), (.bool false)] 89)), z4.at'.setCell ⟨w.heap.size, 5, none⟩ (.bool false) = y.at' := z4.put_last w.heap.size 5 (.bool false) rfl rfl
    rw [hz0, hz1, hz2, hz3, hz4, hz5]
    exact bodyPost_ret (v := .tuple #[.agg #[.int .i64 0, .int .i64 0, .int .i64 0, .int .i64 0, .bool false, .bool false], .int .i64 2]) (by simp [results, Tryd.results61, go_sem]) rfl (Ret.mk rfl z5.boxed)
  · cases hw : (En.word ⟨o, g, p, q, lk, lv⟩ == x)
    · have hb : uok x = false := by rw [hk, hm, hw]; rfl
      rw [upV_bad hb, upE_bad hb]
      have hpv := packV_ok hm
      have hpe := packE_ok hm
      have hne : (packV ⟨o, g, p, q, lk, lv⟩ == x) = false := by rw [hpv]; exact hw
      clear hk hb hu hw hpv
      show Calls Tryd.prog 61 #[.int .i64 x] w (Ret w (.tuple #[.agg #[.int .i64 0, .int .i64 0, .int .i64 0, .int .i64 0, .bool false, .bool false], .int .i64 2]))
      go_enter Tryd.func61, Tryd.ntmps61
      go_wp2_with (first
        | (go_at_call 76; (with_reducible refine (cu _ (hF.alloc _)).mono ?_); rintro _ _ ⟨rfl, x1, rfl⟩)
        | (go_at_call 63; (with_reducible refine (Pack_any o g p q lk lv _ ((x1.fields (hF.alloc _)).alloc _)).mono ?_); rintro _ _ ⟨rfl, x2, rfl⟩; have e0 := x1.two_cell x2 0 (.int .i64 0) rfl; have e1 := x1.two_cell x2 1 (.int .i64 0) rfl; have e2 := x1.two_cell x2 2 (.int .i64 0) rfl; have e3 := x1.two_cell x2 3 (.int .i64 0) rfl; have e4 := x1.two_cell x2 4 (.bool false) rfl; have e5 := x1.two_cell x2 5 (.bool false) rfl; have f0 := x1.two_frozen x2 0; have f1 := x1.two_frozen x2 1; have f2 := x1.two_frozen x2 2; have f3 := x1.two_frozen x2 3; have f4 := x1.two_frozen x2 4; have f5 := x1.two_frozen x2 5))
      obtain ⟨z0, hz0⟩ : ∃ y : Later (w.alloc (.cells #[(.int .i64 0), (.int .i64 0), (.int .i64 0), (.int .i64 0), (.bool false), (.bool false)] 89)), x2.at'.setCell ⟨w.heap.size, 0, none⟩ (.int .i64 0) = y.at' := (x1.on x2.boxed).put_last w.heap.size 0 (.int .i64 0) rfl rfl
      obtain ⟨z1, hz1⟩ : ∃ y : Later (w.alloc (.cells #[(.int .i64 0), (.int .i64 0), (.int .i64 0), (.int .i64 0), (.bool false), (.bool false)] 89)), z0.at'.setCell ⟨w.heap.size, 1, none⟩ (.int .i64 0) = y.at' := z0.put_last w.heap.size 1 (.int .i64 0) rfl rfl
      obtain ⟨z2, hz2⟩ : ∃ y : Later (w.alloc (.cells #[(.int .i64 0), (.int .i64 0), (.int .i64 0), (.int .i64 0), (.bool false), (.bool false)] 89)), z1.at'.setCell ⟨w.heap.size, 2, none⟩ (.int .i64 0) = y.at' := z1.put_last w.heap.size 2 (.int .i64 0) rfl rfl
      obtain ⟨z3, hz3⟩ : ∃ y : Later (w.alloc (.cells #[(.int .i64 0), (.int .i64 0), (.int .i64 0), (.int .i64 0), (.bool false), (.bool false)] 89)), z2.at'.setCell ⟨w.heap.size, 3, none⟩ (.int .i64 0) = y.at' := z2.put_last w.heap.size 3 (.int .i64 0) rfl rfl
      obtain ⟨z4, hz4⟩ : ∃ y : Later (w.alloc (.cells #[(.int .i64 0), (.int .i64 0), (.int .i64 0), (.int .i64 0), (.bool false), (.bool false)] 89)), z3.at'.setCell ⟨w.heap.size, 4, none⟩ (.bool false) = y.at' := z3.put_last w.heap.size 4 (.bool false) rfl rfl
      obtain ⟨z5, hz5⟩ : ∃ y : Later (w.alloc (.cells #[(.int .i64 0), (.int .i64 0), (.int .i64 0), (.int .i64 0), (.bool false), (.bool false)] 89)), z4.at'.setCell ⟨w.heap.size, 5, none⟩ (.bool false) = y.at' := z4.put_last w.heap.size 5 (.bool false) rfl rfl
      rw [hz0, hz1, hz2, hz3, hz4, hz5]
      exact bodyPost_ret (v := .tuple #[.agg #[.int .i64 0, .int .i64 0, .int .i64 0, .int .i64 0, .bool false, .bool false], .int .i64 2]) (by simp [results, Tryd.results61, go_sem]) rfl (Ret.mk rfl z5.boxed)
    · have hb : uok x = true := by rw [hk, hm, hw]; rfl
      rw [upV_ok hb, upE_ok hb, hu]
      have hpv : packV ⟨o, g, p, q, lk, lv⟩ = x := (packV_ok hm).trans (by simpa using hw)
      have hpe := packE_ok hm
      clear hk hb hu hw
      show Calls Tryd.prog 61 #[.int .i64 x] w (Ret w (.tuple #[.agg #[.int .i64 o, .int .i64 g, .int .i64 p, .int .i64 q, .bool lk, .bool lv], .int .i64 0]))
      go_enter Tryd.func61, Tryd.ntmps61
      go_wp2_with (first
        | (go_at_call 76; (with_reducible refine (cu _ (hF.alloc _)).mono ?_); rintro _ _ ⟨rfl, x1, rfl⟩)
        | (go_at_call 63; (with_reducible refine (Pack_any o g p q lk lv _ ((x1.fields (hF.alloc _)).alloc _)).mono ?_); rintro _ _ ⟨rfl, x2, rfl⟩; have e0 := x1.two_cell x2 0 (.int .i64 0) rfl; have e1 := x1.two_cell x2 1 (.int .i64 0) rfl; have e2 := x1.two_cell x2 2 (.int .i64 0) rfl; have e3 := x1.two_cell x2 3 (.int .i64 0) rfl; have e4 := x1.two_cell x2 4 (.bool false) rfl; have e5 := x1.two_cell x2 5 (.bool false) rfl; have f0 := x1.two_frozen x2 0; have f1 := x1.two_frozen x2 1; have f2 := x1.two_frozen x2 2; have f3 := x1.two_frozen x2 3; have f4 := x1.two_frozen x2 4; have f5 := x1.two_frozen x2 5))
      obtain ⟨z0, hz0⟩ : ∃ y : Later (w.alloc (.cells #[(.int .i64 o), (.int .i64 0), (.int .i64 0), (.int .i64 0), (.bool false), (.bool false)] 89)), x2.at'.setCell ⟨w.heap.size, 0, none⟩ (.int .i64 o) = y.at' := (x1.on x2.boxed).put_last w.heap.size 0 (.int .i64 o) rfl rfl
      obtain ⟨z1, hz1⟩ : ∃ y : Later (w.alloc (.cells #[(.int .i64 o), (.int .i64 g), (.int .i64 0), (.int .i64 0), (.bool false), (.bool false)] 89)), z0.at'.setCell ⟨w.heap.size, 1, none⟩ (.int .i64 g) = y.at' := z0.put_last w.heap.size 1 (.int .i64 g) rfl rfl
      obtain ⟨z2, hz2⟩ : ∃ y : Later (w.alloc (.cells #[(.int .i64 o), (.int .i64 g), (.int .i64 p), (.int .i64 0), (.bool false), (.bool false)] 89)), z1.at'.setCell ⟨w.heap.size, 2, none⟩ (.int .i64 p) = y.at' := z1.put_last w.heap.size 2 (.int .i64 p) rfl rfl
      obtain ⟨z3, hz3⟩ : ∃ y : Later (w.alloc (.cells #[(.int .i64 o), (.int .i64 g), (.int .i64 p), (.int .i64 q), (.bool false), (.bool false)] 89)), z2.at'.setCell ⟨w.heap.size, 3, none⟩ (.int .i64 q) = y.at' := z2.put_last w.heap.size 3 (.int .i64 q) rfl rfl
      obtain ⟨z4, hz4⟩ : ∃ y : Later (w.alloc (.cells #[(.int .i64 o), (.int .i64 g), (.int .i64 p), (.int .i64 q), (.bool lk), (.bool false)] 89)), z3.at'.setCell ⟨w.heap.size, 4, none⟩ (.bool lk) = y.at' := z3.put_last w.heap.size 4 (.bool lk) rfl rfl
      obtain ⟨z5, hz5⟩ : ∃ y : Later (w.alloc (.cells #[(.int .i64 o), (.int .i64 g), (.int .i64 p), (.int .i64 q), (.bool lk), (.bool lv)] 89)), z4.at'.setCell ⟨w.heap.size, 5, none⟩ (.bool lv) = y.at' := z4.put_last w.heap.size 5 (.bool lv) rfl rfl
      rw [hz0, hz1, hz2, hz3, hz4, hz5]
      exact bodyPost_ret (v := .tuple #[.agg #[.int .i64 o, .int .i64 g, .int .i64 p, .int .i64 q, .bool lk, .bool lv], .int .i64 0]) (by simp [results, Tryd.results61, go_sem]) rfl (Ret.mk rfl z5.boxed)

end Go.Proofs.YtfomephgallpmaaDoor
