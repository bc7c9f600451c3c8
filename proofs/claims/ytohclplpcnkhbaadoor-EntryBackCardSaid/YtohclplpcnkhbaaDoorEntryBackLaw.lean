/-
  The statement EntryBack of layer 2, walked: an entry that is packed is unpacked as it was; a word that is unpacked is packed as it was.
  Conditions: that the package's table of fields reads as it is laid.
-/
import Derived.Test.YtohclplpcnkhbaaDoorEntryHelp
namespace Go.Proofs.YtohclplpcnkhbaaDoor
open Go.RowKit
attribute [local go_sem] Later.cell Later.frozen Later.lt Later.le
attribute [local go_sem ↓] Go.wp_at_zero Go.wp_at_succ

set_option maxHeartbeats 1000000 in
theorem back_may_ok (o g p q : Int) (lk lv : Bool) (x : Int) (A : Int) (o' g' p' q' : Int) (lk' lv' : Bool) (w : World) (hF : HasFields w) (c1 : ∀ W : World, HasFields W → Calls Tryd.prog 9 #[.agg #[.int .i64 o, .int .i64 g, .int .i64 p, .int .i64 q, .bool lk, .bool lv]] W (Ret W (.tuple #[.int .i64 A, .int .i64 0]))) (c2 : ∀ W : World, HasFields W → Calls Tryd.prog 12 #[.int .i64 A] W (Ret W (.tuple #[.agg #[.int .i64 o, .int .i64 g, .int .i64 p, .int .i64 q, .bool lk, .bool lv], .int .i64 0]))) (c3 : ∀ W : World, HasFields W → Calls Tryd.prog 12 #[.int .i64 x] W (Ret W (.tuple #[.agg #[.int .i64 o', .int .i64 g', .int .i64 p', .int .i64 q', .bool lk', .bool lv'], .int .i64 0]))) (c4 : ∀ W : World, HasFields W → Calls Tryd.prog 9 #[.agg #[.int .i64 o', .int .i64 g', .int .i64 p', .int .i64 q', .bool lk', .bool lv']] W (Ret W (.tuple #[.int .i64 x, .int .i64 0]))) :
    Calls Tryd.prog 4 #[.agg #[.int .i64 o, .int .i64 g, .int .i64 p, .int .i64 q, .bool lk, .bool lv], .int .i64 x] w (Ret w (.bool true)) := by
  go_enter Tryd.func4, Tryd.ntmps4
  go_wp2_with (first
    | (go_at_call 10; refine (own_any o g p q lk lv _).mono ?_; rintro _ _ ⟨rfl, x1, rfl⟩)
    | (go_at_call 9; (with_reducible refine (later_of _ (c1 _ (x1.fields (hF.alloc _)))).mono ?_); rintro _ _ ⟨rfl, x2, rfl⟩)
    | (go_at_call 12; (with_reducible refine (later_of _ (c2 _ (x2.fields (hF.alloc _)))).mono ?_); rintro _ _ ⟨rfl, x3, rfl⟩; have hz2 := x3.lt w.heap.size (by simp); have hz1 := Nat.le_of_lt hz2))
  refine wp_region_later (by kernel_rfl) (by kernel_rfl) ?_
  repeat (go_big_quiet_step ((go_at_call 14; exact later_of _ (told_any o g p q lk lv _))))
  refine wpQuiet_nil ?_
  rintro _ ⟨y1, rfl⟩
  go_wp2_with (first
    | (go_at_call 12; (with_reducible refine (later_of _ (c3 _ (y1.fields ((x3.fields (hF.alloc _)).alloc _)))).mono ?_); rintro _ _ ⟨rfl, y2, rfl⟩)
    | (go_at_call 9; (with_reducible refine (c4 _ ((y2.fields ((x3.fields (hF.alloc _)).alloc _)).alloc _)).mono ?_); rintro _ _ ⟨rfl, z1, rfl⟩)
    | (go_at_call 15; (with_reducible refine (later_of _ (live_any _ (z1.fields ((y2.fields ((x3.fields (hF.alloc _)).alloc _)).alloc _)))).mono ?_); rintro _ _ ⟨rfl, z2, rfl⟩))
  go_ret
  exact Ret.mk rfl (x3.on ((y2.on z2.boxed).boxed)).boxed

set_option maxHeartbeats 1000000 in
theorem back_may_bad (o g p q : Int) (lk lv : Bool) (x : Int) (A : Int) (w : World) (hF : HasFields w) (c1 : ∀ W : World, HasFields W → Calls Tryd.prog 9 #[.agg #[.int .i64 o, .int .i64 g, .int .i64 p, .int .i64 q, .bool lk, .bool lv]] W (Ret W (.tuple #[.int .i64 A, .int .i64 0]))) (c2 : ∀ W : World, HasFields W → Calls Tryd.prog 12 #[.int .i64 A] W (Ret W (.tuple #[.agg #[.int .i64 o, .int .i64 g, .int .i64 p, .int .i64 q, .bool lk, .bool lv], .int .i64 0]))) (c3 : ∀ W : World, HasFields W → Calls Tryd.prog 12 #[.int .i64 x] W (Ret W (.tuple #[.agg #[.int .i64 0, .int .i64 0, .int .i64 0, .int .i64 0, .bool false, .bool false], .int .i64 2]))) :
    Calls Tryd.prog 4 #[.agg #[.int .i64 o, .int .i64 g, .int .i64 p, .int .i64 q, .bool lk, .bool lv], .int .i64 x] w (Ret w (.bool true)) := by
  go_enter Tryd.func4, Tryd.ntmps4
  go_wp2_with (first
    | (go_at_call 10; refine (own_any o g p q lk lv _).mono ?_; rintro _ _ ⟨rfl, x1, rfl⟩)
    | (go_at_call 9; (with_reducible refine (later_of _ (c1 _ (x1.fields (hF.alloc _)))).mono ?_); rintro _ _ ⟨rfl, x2, rfl⟩)
    | (go_at_call 12; (with_reducible refine (later_of _ (c2 _ (x2.fields (hF.alloc _)))).mono ?_); rintro _ _ ⟨rfl, x3, rfl⟩; have hz2 := x3.lt w.heap.size (by simp); have hz1 := Nat.le_of_lt hz2))
  refine wp_region_later (by kernel_rfl) (by kernel_rfl) ?_
  repeat (go_big_quiet_step ((go_at_call 14; exact later_of _ (told_any o g p q lk lv _))))
  refine wpQuiet_nil ?_
  rintro _ ⟨y1, rfl⟩
  go_wp2_with (first
    | (go_at_call 12; (with_reducible refine (later_of _ (c3 _ (y1.fields ((x3.fields (hF.alloc _)).alloc _)))).mono ?_); rintro _ _ ⟨rfl, y2, rfl⟩)
    | (go_at_call 15; (with_reducible refine (live_any _ ((y2.fields ((x3.fields (hF.alloc _)).alloc _)).alloc _)).mono ?_); rintro _ _ ⟨rfl, z2, rfl⟩))
  go_ret
  exact Ret.mk rfl (x3.on ((y2.on z2.boxed).boxed)).boxed

set_option maxHeartbeats 1000000 in
theorem back_not_ok (o g p q : Int) (lk lv : Bool) (x : Int) (o' g' p' q' : Int) (lk' lv' : Bool) (w : World) (hF : HasFields w) (c1 : ∀ W : World, HasFields W → Calls Tryd.prog 9 #[.agg #[.int .i64 o, .int .i64 g, .int .i64 p, .int .i64 q, .bool lk, .bool lv]] W (Ret W (.tuple #[.int .i64 0, .int .i64 1]))) (c3 : ∀ W : World, HasFields W → Calls Tryd.prog 12 #[.int .i64 x] W (Ret W (.tuple #[.agg #[.int .i64 o', .int .i64 g', .int .i64 p', .int .i64 q', .bool lk', .bool lv'], .int .i64 0]))) (c4 : ∀ W : World, HasFields W → Calls Tryd.prog 9 #[.agg #[.int .i64 o', .int .i64 g', .int .i64 p', .int .i64 q', .bool lk', .bool lv']] W (Ret W (.tuple #[.int .i64 x, .int .i64 0]))) :
    Calls Tryd.prog 4 #[.agg #[.int .i64 o, .int .i64 g, .int .i64 p, .int .i64 q, .bool lk, .bool lv], .int .i64 x] w (Ret w (.bool true)) := by
  go_enter Tryd.func4, Tryd.ntmps4
  go_wp2_with (first
    | (go_at_call 10; refine (own_any o g p q lk lv _).mono ?_; rintro _ _ ⟨rfl, x1, rfl⟩)
    | (go_at_call 9; (with_reducible refine (later_of _ (c1 _ (x1.fields (hF.alloc _)))).mono ?_); rintro _ _ ⟨rfl, x2, rfl⟩)
    | (go_at_call 12; (with_reducible refine (later_of _ (c3 _ (x2.fields (hF.alloc _)))).mono ?_); rintro _ _ ⟨rfl, y2, rfl⟩)
    | (go_at_call 9; (with_reducible refine (c4 _ ((y2.fields (hF.alloc _)).alloc _)).mono ?_); rintro _ _ ⟨rfl, z1, rfl⟩)
    | (go_at_call 15; (with_reducible refine (later_of _ (live_any _ (z1.fields ((y2.fields (hF.alloc _)).alloc _)))).mono ?_); rintro _ _ ⟨rfl, z2, rfl⟩))
  go_ret
  exact Ret.mk rfl (y2.on z2.boxed).boxed

set_option maxHeartbeats 1000000 in
theorem back_not_bad (o g p q : Int) (lk lv : Bool) (x : Int) (w : World) (hF : HasFields w) (c1 : ∀ W : World, HasFields W → Calls Tryd.prog 9 #[.agg #[.int .i64 o, .int .i64 g, .int .i64 p, .int .i64 q, .bool lk, .bool lv]] W (Ret W (.tuple #[.int .i64 0, .int .i64 1]))) (c3 : ∀ W : World, HasFields W → Calls Tryd.prog 12 #[.int .i64 x] W (Ret W (.tuple #[.agg #[.int .i64 0, .int .i64 0, .int .i64 0, .int .i64 0, .bool false, .bool false], .int .i64 2]))) :
    Calls Tryd.prog 4 #[.agg #[.int .i64 o, .int .i64 g, .int .i64 p, .int .i64 q, .bool lk, .bool lv], .int .i64 x] w (Ret w (.bool true)) := by
  go_enter Tryd.func4, Tryd.ntmps4
  go_wp2_with (first
    | (go_at_call 10; refine (own_any o g p q lk lv _).mono ?_; rintro _ _ ⟨rfl, x1, rfl⟩)
    | (go_at_call 9; (with_reducible refine (later_of _ (c1 _ (x1.fields (hF.alloc _)))).mono ?_); rintro _ _ ⟨rfl, x2, rfl⟩)
    | (go_at_call 12; (with_reducible refine (later_of _ (c3 _ (x2.fields (hF.alloc _)))).mono ?_); rintro _ _ ⟨rfl, y2, rfl⟩)
    | (go_at_call 15; (with_reducible refine (live_any _ ((y2.fields (hF.alloc _)).alloc _)).mono ?_); rintro _ _ ⟨rfl, z2, rfl⟩))
  go_ret
  exact Ret.mk rfl (y2.on z2.boxed).boxed

theorem EntryBack_walk (o g p q : Int) (lk lv : Bool) (x : Int) (w : World) (hF : HasFields w) : Calls Tryd.prog 4 #[.agg #[.int .i64 o, .int .i64 g, .int .i64 p, .int .i64 q, .bool lk, .bool lv], .int .i64 x] w (Ret w (.bool true)) := by
  cases hm : En.may ⟨o, g, p, q, lk, lv⟩
  · have c1 := fun W => Pack_at o g p q lk lv (packV_bad hm) (packE_bad hm) W
    cases h : uok x
    · exact back_not_bad o g p q lk lv x w hF c1 (fun W => Unpack_at x (upV_bad h) (upE_bad h) W)
    · have hu := uok_of h
      cases he : unp x with
      | mk o' g' p' q' lk' lv' =>
      rw [he] at hu
      exact back_not_ok o g p q lk lv x o' g' p' q' lk' lv' w hF c1 (fun W => Unpack_at x ((upV_ok h).trans he) (upE_ok h) W) (fun W => Pack_at o' g' p' q' lk' lv' ((packV_ok hu.1).trans hu.2) (packE_ok hu.1) W)
  · have hw := uok_word hm
    have c1 := fun W => Pack_at o g p q lk lv (packV_ok hm) (packE_ok hm) W
    have c2 := fun W => Unpack_at (En.word ⟨o, g, p, q, lk, lv⟩) ((upV_ok hw).trans (unp_word hm)) (upE_ok hw) W
    cases h : uok x
    · exact back_may_bad o g p q lk lv x _ w hF c1 c2 (fun W => Unpack_at x (upV_bad h) (upE_bad h) W)
    · have hu := uok_of h
      cases he : unp x with
      | mk o' g' p' q' lk' lv' =>
      rw [he] at hu
      exact back_may_ok o g p q lk lv x _ o' g' p' q' lk' lv' w hF c1 c2 (fun W => Unpack_at x ((upV_ok h).trans he) (upE_ok h) W) (fun W => Pack_at o' g' p' q' lk' lv' ((packV_ok hu.1).trans hu.2) (packE_ok hu.1) W)
end Go.Proofs.YtohclplpcnkhbaaDoor
