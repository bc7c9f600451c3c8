/-
  The statements of layer 4, walked: each answers true, and leaves alone all that was there.
  Conditions: that each argument is what an int holds.
-/
import Derived.Test.YtmicpfilklmbkaaDoorHeadWalks
namespace Go.Proofs.YtmicpfilklmbkaaDoor
open Go.RowKit
attribute [local go_sem] Later.cell Later.frozen Later.lt Later.le
set_option linter.unusedVariables false

section
variable {t g x l s ep a b e : Int} {c : Bool}
theorem HdPack_at (hv : hpV t g = a) (he : hpE t g = e) (w : World) (hF : HasHead w) : Calls Tryd.prog 9 #[.int .i64 t, .int .i64 g] w (Ret w (.tuple #[.int .i64 a, .int .i64 e])) := by rw [← hv, ← he]; exact HdPack_any t g w hF
theorem HdUnpack_at (hm : x ≤ 9223372036854775807) (ha : heT x = a) (hb : heG x = b) (he : heE x = e) (w : World) (hF : HasHead w) : Calls Tryd.prog 11 #[.int .i64 x] w (Ret w (.tuple #[.int .i64 a, .int .i64 b, .int .i64 e])) := by rw [← ha, ← hb, ← he]; exact HdUnpack_any x hm w hF
theorem HdPop_at (hm : x ≤ 9223372036854775807) (ha : popV x l = a) (hb : popS x l = b) (he : popE x l = e) (w : World) (hF : HasHead w) : Calls Tryd.prog 18 #[.int .i64 x, .int .i64 l] w (Ret w (.tuple #[.int .i64 a, .int .i64 b, .int .i64 e])) := by rw [← ha, ← hb, ← he]; exact HdPop_any x l hm w hF
theorem HdPush_at (hm : x ≤ 9223372036854775807) (ha : pushV x s = a) (hb : pushL x s = b) (he : pushE x s = e) (w : World) (hF : HasHead w) : Calls Tryd.prog 20 #[.int .i64 x, .int .i64 s] w (Ret w (.tuple #[.int .i64 a, .int .i64 b, .int .i64 e])) := by rw [← ha, ← hb, ← he]; exact HdPush_any x s hm w hF
theorem HdInside_at (hm : x ≤ 9223372036854775807) (ha : insV x = a) (hc : insB x = c) (w : World) (hF : HasHead w) : Calls Tryd.prog 13 #[.int .i64 x] w (Ret w (.tuple #[.int .i64 a, .bool c])) := by rw [← ha, ← hc]; exact HdInside_any x hm w hF
theorem HdOlder_at (hm : x ≤ 9223372036854775807) (hc : oldB x ep = c) (w : World) (hF : HasHead w) : Calls Tryd.prog 15 #[.int .i64 x, .int .i64 ep] w (Ret w (.bool c)) := by rw [← hc]; exact HdOlder_any x ep hm w hF
end

theorem hlive1 (w : World) (hF : HasHead w) : Calls Tryd.prog 9 #[.int .i64 3, .int .i64 2] w (Ret w (.tuple #[.int .i64 2097155, .int .i64 0])) := HdPack_at (by decide +kernel) (by decide +kernel) w hF
theorem hlive2 (w : World) (hF : HasHead w) : Calls Tryd.prog 20 #[.int .i64 2097155, .int .i64 5] w (Ret w (.tuple #[.int .i64 3145734, .int .i64 3, .int .i64 0])) := HdPush_at (by decide) (by decide +kernel) (by decide +kernel) (by decide +kernel) w hF
theorem hlive3 (w : World) (hF : HasHead w) : Calls Tryd.prog 18 #[.int .i64 3145734, .int .i64 3] w (Ret w (.tuple #[.int .i64 4194307, .int .i64 5, .int .i64 0])) := HdPop_at (by decide) (by decide +kernel) (by decide +kernel) (by decide +kernel) w hF
theorem hlive4 (w : World) (hF : HasHead w) : Calls Tryd.prog 18 #[.int .i64 0, .int .i64 0] w (Ret w (.tuple #[.int .i64 0, .int .i64 0, .int .i64 11])) := HdPop_at (by decide) (by decide +kernel) (by decide +kernel) (by decide +kernel) w hF
theorem hlive5 (w : World) (hF : HasHead w) : Calls Tryd.prog 11 #[.int .i64 65] w (Ret w (.tuple #[.int .i64 0, .int .i64 0, .int .i64 2])) := HdUnpack_at (by decide) (by decide +kernel) (by decide +kernel) (by decide +kernel) w hF
theorem hlive6 (w : World) (hF : HasHead w) : Calls Tryd.prog 11 #[.int .i64 4194307] w (Ret w (.tuple #[.int .i64 3, .int .i64 4, .int .i64 0])) := HdUnpack_at (by decide) (by decide +kernel) (by decide +kernel) (by decide +kernel) w hF
theorem hlive7 (w : World) (hF : HasHead w) : Calls Tryd.prog 13 #[.int .i64 8] w (Ret w (.tuple #[.int .i64 7, .bool true])) := HdInside_at (by decide) (by decide +kernel) (by decide +kernel) w hF
theorem hlive8 (w : World) (hF : HasHead w) : Calls Tryd.prog 15 #[.int .i64 8, .int .i64 8] w (Ret w (.bool true)) := HdOlder_at (by decide) (by decide +kernel) w hF
theorem hlive9 (w : World) (hF : HasHead w) : Calls Tryd.prog 15 #[.int .i64 8, .int .i64 7] w (Ret w (.bool false)) := HdOlder_at (by decide) (by decide +kernel) w hF
theorem hlive10 (w : World) (hF : HasHead w) : Calls Tryd.prog 15 #[.int .i64 0, .int .i64 9] w (Ret w (.bool false)) := HdOlder_at (by decide) (by decide +kernel) w hF

set_option maxHeartbeats 1000000 in
theorem hlive_any (w : World) (hF : HasHead w) : Calls Tryd.prog 17 #[] w (Ret w (.bool true)) := by
  go_enter Tryd.func17, Tryd.ntmps17
  go_wp2_with (first
    | (go_at_call 9; (with_reducible refine (hlive1 _ hF).mono ?_); rintro _ _ ⟨rfl, x, rfl⟩)
    | (go_at_call 20; (with_reducible refine (later_of _ (hlive2 _ (x.heads hF))).mono ?_); rintro _ _ ⟨rfl, x, rfl⟩)
    | (go_at_call 18; (with_reducible refine (later_of _ (hlive3 _ (x.heads hF))).mono ?_); rintro _ _ ⟨rfl, x, rfl⟩)
    | (go_at_call 18; (with_reducible refine (later_of _ (hlive4 _ (x.heads hF))).mono ?_); rintro _ _ ⟨rfl, x, rfl⟩)
    | (go_at_call 11; (with_reducible refine (later_of _ (hlive5 _ (x.heads hF))).mono ?_); rintro _ _ ⟨rfl, x, rfl⟩)
    | (go_at_call 11; (with_reducible refine (later_of _ (hlive6 _ (x.heads hF))).mono ?_); rintro _ _ ⟨rfl, x, rfl⟩)
    | (go_at_call 13; (with_reducible refine (later_of _ (hlive7 _ (x.heads hF))).mono ?_); rintro _ _ ⟨rfl, x, rfl⟩)
    | (go_at_call 15; (with_reducible refine (later_of _ (hlive8 _ (x.heads hF))).mono ?_); rintro _ _ ⟨rfl, x, rfl⟩)
    | (go_at_call 15; (with_reducible refine (later_of _ (hlive9 _ (x.heads hF))).mono ?_); rintro _ _ ⟨rfl, x, rfl⟩)
    | (go_at_call 15; (with_reducible refine (later_of _ (hlive10 _ (x.heads hF))).mono ?_); rintro _ _ ⟨rfl, x, rfl⟩))
  go_ret
  exact Ret.mk rfl x.below

set_option maxHeartbeats 1000000 in
theorem HeadPacks_walk (t g x : Int) (hm : x ≤ 9223372036854775807) (w : World) (hF : HasHead w) : Calls Tryd.prog 3 #[.int .i64 t, .int .i64 g, .int .i64 x] w (Ret w (.bool true)) := by
  have c1 := HdPack_any t g
  have c2 := refHPack_any t g
  have c3 := HdUnpack_any x hm
  have c4 := refHUnpack_any x hm
  have c5 := HdInside_any x hm
  have c6 := refInside_any x hm
  have c7 := HdOlder_any x g hm
  have c8 := refOlder_any x g hm
  generalize hpV t g = v1 at c1 c2
  generalize hpE t g = v2 at c1 c2
  generalize heT x = v3 at c3 c4
  generalize heG x = v4 at c3 c4
  generalize heE x = v5 at c3 c4
  generalize insV x = v6 at c5 c6
  generalize insB x = v7 at c5 c6
  generalize oldB x g = v8 at c7 c8
  go_enter Tryd.func3, Tryd.ntmps3
  go_wp2_with (first
    | (go_at_call 9; (with_reducible refine (c1 _ hF).mono ?_); rintro _ _ ⟨rfl, x1, rfl⟩)
    | (go_at_call 10; (with_reducible refine (c2 _).mono ?_); rintro _ _ ⟨rfl, rfl⟩)
    | (go_at_call 11; (with_reducible refine (later_of _ (c3 _ (x1.heads hF))).mono ?_); rintro _ _ ⟨rfl, x1, rfl⟩)
    | (go_at_call 12; (with_reducible refine (c4 _).mono ?_); rintro _ _ ⟨rfl, rfl⟩)
    | (go_at_call 13; (with_reducible refine (later_of _ (c5 _ (x1.heads hF))).mono ?_); rintro _ _ ⟨rfl, x1, rfl⟩)
    | (go_at_call 14; (with_reducible refine (c6 _).mono ?_); rintro _ _ ⟨rfl, rfl⟩)
    | (go_at_call 15; (with_reducible refine (later_of _ (c7 _ (x1.heads hF))).mono ?_); rintro _ _ ⟨rfl, x1, rfl⟩)
    | (go_at_call 16; (with_reducible refine (c8 _).mono ?_); rintro _ _ ⟨rfl, rfl⟩)
    | (go_at_call 17; (with_reducible refine (later_of _ (hlive_any _ (x1.heads hF))).mono ?_); rintro _ _ ⟨rfl, xl, rfl⟩))
  go_ret
  exact Ret.mk rfl xl.below

set_option maxHeartbeats 1000000 in
theorem HeadTurns_walk (x n : Int) (hm : x ≤ 9223372036854775807) (w : World) (hF : HasHead w) : Calls Tryd.prog 4 #[.int .i64 x, .int .i64 n] w (Ret w (.bool true)) := by
  have c1 := HdPop_any x n hm
  have c2 := refPop_any x n hm
  have c3 := HdPush_any x n hm
  have c4 := refPush_any x n hm
  generalize popV x n = v1 at c1 c2
  generalize popS x n = v2 at c1 c2
  generalize popE x n = v3 at c1 c2
  generalize pushV x n = v4 at c3 c4
  generalize pushL x n = v5 at c3 c4
  generalize pushE x n = v6 at c3 c4
  go_enter Tryd.func4, Tryd.ntmps4
  go_wp2_with (first
    | (go_at_call 18; (with_reducible refine (c1 _ hF).mono ?_); rintro _ _ ⟨rfl, x1, rfl⟩)
    | (go_at_call 19; (with_reducible refine (c2 _).mono ?_); rintro _ _ ⟨rfl, rfl⟩)
    | (go_at_call 20; (with_reducible refine (later_of _ (c3 _ (x1.heads hF))).mono ?_); rintro _ _ ⟨rfl, x1, rfl⟩)
    | (go_at_call 21; (with_reducible refine (c4 _).mono ?_); rintro _ _ ⟨rfl, rfl⟩)
    | (go_at_call 17; (with_reducible refine (later_of _ (hlive_any _ (x1.heads hF))).mono ?_); rintro _ _ ⟨rfl, xl, rfl⟩))
  go_ret
  exact Ret.mk rfl xl.below

set_option maxHeartbeats 1000000 in
theorem hdback_ok_is (t g x A X Y : Int) (w : World) (hF : HasHead w) (c1 : ∀ W : World, HasHead W → Calls Tryd.prog 9 #[.int .i64 t, .int .i64 g] W (Ret W (.tuple #[.int .i64 A, .int .i64 0]))) (c2 : ∀ W : World, HasHead W → Calls Tryd.prog 11 #[.int .i64 A] W (Ret W (.tuple #[.int .i64 t, .int .i64 g, .int .i64 0]))) (c3 : ∀ W : World, HasHead W → Calls Tryd.prog 11 #[.int .i64 x] W (Ret W (.tuple #[.int .i64 X, .int .i64 Y, .int .i64 0]))) (c4 : ∀ W : World, HasHead W → Calls Tryd.prog 9 #[.int .i64 X, .int .i64 Y] W (Ret W (.tuple #[.int .i64 x, .int .i64 0]))) : Calls Tryd.prog 5 #[.int .i64 t, .int .i64 g, .int .i64 x] w (Ret w (.bool true)) := by
  go_enter Tryd.func5, Tryd.ntmps5
  go_wp2_with (first
    | (go_at_call 9; (with_reducible refine (c1 _ hF).mono ?_); rintro _ _ ⟨rfl, x1, rfl⟩)
    | (go_at_call 11; (with_reducible refine (later_of _ (c2 _ (x1.heads hF))).mono ?_); rintro _ _ ⟨rfl, x1, rfl⟩)
    | (go_at_call 11; (with_reducible refine (later_of _ (c3 _ (x1.heads hF))).mono ?_); rintro _ _ ⟨rfl, x1, rfl⟩)
    | (go_at_call 9; (with_reducible refine (later_of _ (c4 _ (x1.heads hF))).mono ?_); rintro _ _ ⟨rfl, x1, rfl⟩)
    | (go_at_call 17; (with_reducible refine (later_of _ (hlive_any _ (x1.heads hF))).mono ?_); rintro _ _ ⟨rfl, xl, rfl⟩))
  go_ret
  exact Ret.mk rfl xl.below

set_option maxHeartbeats 1000000 in
theorem hdback_ok_no (t g x A : Int) (w : World) (hF : HasHead w) (c1 : ∀ W : World, HasHead W → Calls Tryd.prog 9 #[.int .i64 t, .int .i64 g] W (Ret W (.tuple #[.int .i64 A, .int .i64 0]))) (c2 : ∀ W : World, HasHead W → Calls Tryd.prog 11 #[.int .i64 A] W (Ret W (.tuple #[.int .i64 t, .int .i64 g, .int .i64 0]))) (c3 : ∀ W : World, HasHead W → Calls Tryd.prog 11 #[.int .i64 x] W (Ret W (.tuple #[.int .i64 0, .int .i64 0, .int .i64 2]))) : Calls Tryd.prog 5 #[.int .i64 t, .int .i64 g, .int .i64 x] w (Ret w (.bool true)) := by
  go_enter Tryd.func5, Tryd.ntmps5
  go_wp2_with (first
    | (go_at_call 9; (with_reducible refine (c1 _ hF).mono ?_); rintro _ _ ⟨rfl, x1, rfl⟩)
    | (go_at_call 11; (with_reducible refine (later_of _ (c2 _ (x1.heads hF))).mono ?_); rintro _ _ ⟨rfl, x1, rfl⟩)
    | (go_at_call 11; (with_reducible refine (later_of _ (c3 _ (x1.heads hF))).mono ?_); rintro _ _ ⟨rfl, x1, rfl⟩)
    | (go_at_call 17; (with_reducible refine (later_of _ (hlive_any _ (x1.heads hF))).mono ?_); rintro _ _ ⟨rfl, xl, rfl⟩))
  go_ret
  exact Ret.mk rfl xl.below

set_option maxHeartbeats 1000000 in
theorem hdback_bad_is (t g x X Y : Int) (w : World) (hF : HasHead w) (c1 : ∀ W : World, HasHead W → Calls Tryd.prog 9 #[.int .i64 t, .int .i64 g] W (Ret W (.tuple #[.int .i64 0, .int .i64 1]))) (c3 : ∀ W : World, HasHead W → Calls Tryd.prog 11 #[.int .i64 x] W (Ret W (.tuple #[.int .i64 X, .int .i64 Y, .int .i64 0]))) (c4 : ∀ W : World, HasHead W → Calls Tryd.prog 9 #[.int .i64 X, .int .i64 Y] W (Ret W (.tuple #[.int .i64 x, .int .i64 0]))) : Calls Tryd.prog 5 #[.int .i64 t, .int .i64 g, .int .i64 x] w (Ret w (.bool true)) := by
  go_enter Tryd.func5, Tryd.ntmps5
  go_wp2_with (first
    | (go_at_call 9; (with_reducible refine (c1 _ hF).mono ?_); rintro _ _ ⟨rfl, x1, rfl⟩)
    | (go_at_call 11; (with_reducible refine (later_of _ (c3 _ (x1.heads hF))).mono ?_); rintro _ _ ⟨rfl, x1, rfl⟩)
    | (go_at_call 9; (with_reducible refine (later_of _ (c4 _ (x1.heads hF))).mono ?_); rintro _ _ ⟨rfl, x1, rfl⟩)
    | (go_at_call 17; (with_reducible refine (later_of _ (hlive_any _ (x1.heads hF))).mono ?_); rintro _ _ ⟨rfl, xl, rfl⟩))
  go_ret
  exact Ret.mk rfl xl.below

set_option maxHeartbeats 1000000 in
theorem hdback_bad_no (t g x : Int) (w : World) (hF : HasHead w) (c1 : ∀ W : World, HasHead W → Calls Tryd.prog 9 #[.int .i64 t, .int .i64 g] W (Ret W (.tuple #[.int .i64 0, .int .i64 1]))) (c3 : ∀ W : World, HasHead W → Calls Tryd.prog 11 #[.int .i64 x] W (Ret W (.tuple #[.int .i64 0, .int .i64 0, .int .i64 2]))) : Calls Tryd.prog 5 #[.int .i64 t, .int .i64 g, .int .i64 x] w (Ret w (.bool true)) := by
  go_enter Tryd.func5, Tryd.ntmps5
  go_wp2_with (first
    | (go_at_call 9; (with_reducible refine (c1 _ hF).mono ?_); rintro _ _ ⟨rfl, x1, rfl⟩)
    | (go_at_call 11; (with_reducible refine (later_of _ (c3 _ (x1.heads hF))).mono ?_); rintro _ _ ⟨rfl, x1, rfl⟩)
    | (go_at_call 17; (with_reducible refine (later_of _ (hlive_any _ (x1.heads hF))).mono ?_); rintro _ _ ⟨rfl, xl, rfl⟩))
  go_ret
  exact Ret.mk rfl xl.below

theorem hmade_bd {t g : Int} (k : hpB t g = true) : 0 ≤ t + g * 1048576 ∧ t + g * 1048576 ≤ 9223372036854775807 := by
  have := hpB_of k
  omega
theorem HeadBack_walk (t g x : Int) (hm : x ≤ 9223372036854775807) (w : World) (hF : HasHead w) : Calls Tryd.prog 5 #[.int .i64 t, .int .i64 g, .int .i64 x] w (Ret w (.bool true)) := by
  cases hp : hpB t g
  · have c1 := fun W => HdPack_at (hpV_bad hp) (hpE_bad hp) W
    cases hi : heB x
    · exact hdback_bad_no t g x w hF c1 (fun W => HdUnpack_at hm (heT_bad hi) (heG_bad hi) (heE_bad hi) W)
    · obtain ⟨k, e⟩ := head_split hi
      exact hdback_bad_is t g x _ _ w hF c1 (fun W => HdUnpack_at hm (heT_ok hi) (heG_ok hi) (heE_ok hi) W) (fun W => HdPack_at ((hpV_ok k).trans e) (hpE_ok k) W)
  · obtain ⟨i1, i2, i3⟩ := head_made hp
    have c1 := fun W => HdPack_at (hpV_ok hp) (hpE_ok hp) W
    have c2 := fun W => HdUnpack_at (hmade_bd hp).2 ((heT_ok i1).trans i2) ((heG_ok i1).trans i3) (heE_ok i1) W
    cases hi : heB x
    · exact hdback_ok_no t g x _ w hF c1 c2 (fun W => HdUnpack_at hm (heT_bad hi) (heG_bad hi) (heE_bad hi) W)
    · obtain ⟨k, e⟩ := head_split hi
      exact hdback_ok_is t g x _ _ _ w hF c1 c2 (fun W => HdUnpack_at hm (heT_ok hi) (heG_ok hi) (heE_ok hi) W) (fun W => HdPack_at ((hpV_ok k).trans e) (hpE_ok k) W)

set_option maxHeartbeats 1000000 in
theorem hdpops_form (x s : Int) (w : World) (hF : HasHead w) (c1 : ∀ W : World, HasHead W → Calls Tryd.prog 20 #[.int .i64 x, .int .i64 s] W (Ret W (.tuple #[.int .i64 0, .int .i64 0, .int .i64 2]))) : Calls Tryd.prog 6 #[.int .i64 x, .int .i64 s] w (Ret w (.bool true)) := by
  go_enter Tryd.func6, Tryd.ntmps6
  go_wp2_with (first
    | (go_at_call 20; (with_reducible refine (c1 _ hF).mono ?_); rintro _ _ ⟨rfl, x1, rfl⟩)
    | (go_at_call 17; (with_reducible refine (later_of _ (hlive_any _ (x1.heads hF))).mono ?_); rintro _ _ ⟨rfl, xl, rfl⟩))
  go_ret
  exact Ret.mk rfl xl.below

set_option maxHeartbeats 1000000 in
theorem hdpops_arg (x s : Int) (w : World) (hF : HasHead w) (c1 : ∀ W : World, HasHead W → Calls Tryd.prog 20 #[.int .i64 x, .int .i64 s] W (Ret W (.tuple #[.int .i64 0, .int .i64 0, .int .i64 1]))) : Calls Tryd.prog 6 #[.int .i64 x, .int .i64 s] w (Ret w (.bool true)) := by
  go_enter Tryd.func6, Tryd.ntmps6
  go_wp2_with (first
    | (go_at_call 20; (with_reducible refine (c1 _ hF).mono ?_); rintro _ _ ⟨rfl, x1, rfl⟩)
    | (go_at_call 17; (with_reducible refine (later_of _ (hlive_any _ (x1.heads hF))).mono ?_); rintro _ _ ⟨rfl, xl, rfl⟩))
  go_ret
  exact Ret.mk rfl xl.below

set_option maxHeartbeats 1000000 in
theorem hdpops_ok (x s A B T G G2 : Int) (w : World) (hF : HasHead w) (c1 : ∀ W : World, HasHead W → Calls Tryd.prog 20 #[.int .i64 x, .int .i64 s] W (Ret W (.tuple #[.int .i64 A, .int .i64 T, .int .i64 0]))) (c2 : ∀ W : World, HasHead W → Calls Tryd.prog 18 #[.int .i64 A, .int .i64 T] W (Ret W (.tuple #[.int .i64 B, .int .i64 s, .int .i64 0]))) (c3 : ∀ W : World, HasHead W → Calls Tryd.prog 11 #[.int .i64 x] W (Ret W (.tuple #[.int .i64 T, .int .i64 G, .int .i64 0]))) (c4 : ∀ W : World, HasHead W → Calls Tryd.prog 11 #[.int .i64 B] W (Ret W (.tuple #[.int .i64 T, .int .i64 G2, .int .i64 0]))) (h1 : (G2 == G) = false) (h2 : (B == x) = false) (h3 : (A == B) = false) (h1' : (G2 != G) = true) (h2' : (B != x) = true) (h3' : (A != B) = true) : Calls Tryd.prog 6 #[.int .i64 x, .int .i64 s] w (Ret w (.bool true)) := by
  go_enter Tryd.func6, Tryd.ntmps6
  go_wp2_with (first
    | (go_at_call 20; (with_reducible refine (c1 _ hF).mono ?_); rintro _ _ ⟨rfl, x1, rfl⟩)
    | (go_at_call 18; (with_reducible refine (later_of _ (c2 _ (x1.heads hF))).mono ?_); rintro _ _ ⟨rfl, x1, rfl⟩)
    | (go_at_call 11; (with_reducible refine (later_of _ (c3 _ (x1.heads hF))).mono ?_); rintro _ _ ⟨rfl, x1, rfl⟩)
    | (go_at_call 11; (with_reducible refine (later_of _ (c4 _ (x1.heads hF))).mono ?_); rintro _ _ ⟨rfl, x1, rfl⟩)
    | (go_at_call 17; (with_reducible refine (later_of _ (hlive_any _ (x1.heads hF))).mono ?_); rintro _ _ ⟨rfl, xl, rfl⟩))
  go_ret
  exact Ret.mk rfl xl.below

theorem HeadPops_walk (x s : Int) (hm : x ≤ 9223372036854775807) (w : World) (hF : HasHead w) : Calls Tryd.prog 6 #[.int .i64 x, .int .i64 s] w (Ret w (.bool true)) := by
  cases hi : heB x
  · have k := pushE_form (s := s) hi
    exact hdpops_form x s w hF (fun W => HdPush_at hm (pushV_bad (by rw [k]; decide)) (pushL_bad (by rw [k]; decide)) k W)
  · cases hs : slotP s
    · have k := pushE_arg hi hs
      exact hdpops_arg x s w hF (fun W => HdPush_at hm (pushV_bad (by rw [k]; decide)) (pushL_bad (by rw [k]; decide)) k W)
    · have k := pushE_ok hi hs
      obtain ⟨s0, s1⟩ := slotP_of hs
      obtain ⟨x0, x1, x2⟩ := heB_of hi
      have hA : hpB (s + 1) (nx (x / 1048576)) = true := hp_nx (by omega) _
      obtain ⟨a1, a2, a3⟩ := head_made hA
      have hT : topP (x % 1048576) = true := topP_true ⟨by omega, x1⟩
      have kp : popE (s + 1 + nx (x / 1048576) * 1048576) (x % 1048576) = 0 := popE_ok a1 hT (by rw [a2]; omega)
      have hB : hpB (x % 1048576) (nx (nx (x / 1048576))) = true := hp_nx (topP_of hT) _
      obtain ⟨b1, b2, b3⟩ := head_made hB
      have eV : popV (s + 1 + nx (x / 1048576) * 1048576) (x % 1048576) = x % 1048576 + nx (nx (x / 1048576)) * 1048576 := by rw [popV_ok kp, a3]
      have eS : popS (s + 1 + nx (x / 1048576) * 1048576) (x % 1048576) = s := by rw [popS_ok kp, a2]; omega
      have n1 : nx (nx (x / 1048576)) ≠ x / 1048576 := by unfold nx; omega
      have n2 : x % 1048576 + nx (nx (x / 1048576)) * 1048576 ≠ x := by omega
      have n3 : s + 1 + nx (x / 1048576) * 1048576 ≠ x % 1048576 + nx (nx (x / 1048576)) * 1048576 := by
        have : nx (nx (x / 1048576)) ≠ nx (x / 1048576) := by unfold nx; omega
        have := nx_bd (x / 1048576)
        have := nx_bd (nx (x / 1048576))
        omega
      exact hdpops_ok x s _ _ _ _ _ w hF (fun W => HdPush_at hm (pushV_ok k) (pushL_ok k) k W) (fun W => HdPop_at (hmade_bd hA).2 eV eS kp W)
        (fun W => HdUnpack_at hm (heT_ok hi) (heG_ok hi) (heE_ok hi) W) (fun W => HdUnpack_at (hmade_bd hB).2 ((heT_ok b1).trans b2) ((heG_ok b1).trans b3) (heE_ok b1) W)
        (by simpa using n1) (by simpa using n2) (by simpa using n3) (by simpa using n1) (by simpa using n2) (by simpa using n3)

set_option maxHeartbeats 1000000 in
theorem hdolder_out (x p q : Int) (w : World) (hF : HasHead w) (c1 : ∀ W : World, HasHead W → Calls Tryd.prog 13 #[.int .i64 x] W (Ret W (.tuple #[.int .i64 0, .bool false]))) (ce : ∀ W : World, HasHead W → Calls Tryd.prog 15 #[.int .i64 x, .int .i64 p] W (Ret W (.bool false))) : Calls Tryd.prog 8 #[.int .i64 x, .int .i64 p, .int .i64 q] w (Ret w (.bool true)) := by
  go_enter Tryd.func8, Tryd.ntmps8
  go_wp2_with (first
    | (go_at_call 13; (with_reducible refine (c1 _ hF).mono ?_); rintro _ _ ⟨rfl, x1, rfl⟩)
    | (go_at_call 15; (with_reducible refine (later_of _ (ce _ (x1.heads hF))).mono ?_); rintro _ _ ⟨rfl, x1, rfl⟩)
    | (go_at_call 17; (with_reducible refine (later_of _ (hlive_any _ (x1.heads hF))).mono ?_); rintro _ _ ⟨rfl, xl, rfl⟩))
  go_ret
  exact Ret.mk rfl xl.below

set_option maxHeartbeats 1000000 in
theorem hdolder_lt_t (x p q : Int) (E : Bool) (w : World) (hF : HasHead w) (h0 : 1 ≤ x) (hm : x ≤ 9223372036854775807) (c1 : ∀ W : World, HasHead W → Calls Tryd.prog 13 #[.int .i64 x] W (Ret W (.tuple #[.int .i64 (x - 1), .bool true]))) (cn : ∀ W : World, HasHead W → Calls Tryd.prog 15 #[.int .i64 x, .int .i64 (x - 1)] W (Ret W (.bool false))) (ce : ∀ W : World, HasHead W → Calls Tryd.prog 15 #[.int .i64 x, .int .i64 p] W (Ret W (.bool E))) (cl : ∀ W : World, HasHead W → Calls Tryd.prog 15 #[.int .i64 x, .int .i64 q] W (Ret W (.bool true))) (hq : x - 1 < q) (hqp : q < p) : Calls Tryd.prog 8 #[.int .i64 x, .int .i64 p, .int .i64 q] w (Ret w (.bool true)) := by
  go_enter Tryd.func8, Tryd.ntmps8
  go_wp2_with (first
    | (go_at_call 13; (with_reducible refine (c1 _ hF).mono ?_); rintro _ _ ⟨rfl, x1, rfl⟩)
    | (go_at_call 15; (with_reducible refine (later_of _ (cn _ (x1.heads hF))).mono ?_); rintro _ _ ⟨rfl, x1, rfl⟩)
    | (go_at_call 15; (with_reducible refine (later_of _ (ce _ (x1.heads hF))).mono ?_); rintro _ _ ⟨rfl, x1, rfl⟩)
    | (go_at_call 15; (with_reducible refine (later_of _ (cl _ (x1.heads hF))).mono ?_); rintro _ _ ⟨rfl, x1, rfl⟩)
    | (go_at_call 17; (with_reducible refine (later_of _ (hlive_any _ (x1.heads hF))).mono ?_); rintro _ _ ⟨rfl, xl, rfl⟩))
  go_ret
  exact Ret.mk rfl xl.below

set_option maxHeartbeats 1000000 in
theorem hdolder_lt_f (x p q : Int) (E : Bool) (w : World) (hF : HasHead w) (h0 : 1 ≤ x) (hm : x ≤ 9223372036854775807) (c1 : ∀ W : World, HasHead W → Calls Tryd.prog 13 #[.int .i64 x] W (Ret W (.tuple #[.int .i64 (x - 1), .bool true]))) (cn : ∀ W : World, HasHead W → Calls Tryd.prog 15 #[.int .i64 x, .int .i64 (x - 1)] W (Ret W (.bool false))) (ce : ∀ W : World, HasHead W → Calls Tryd.prog 15 #[.int .i64 x, .int .i64 p] W (Ret W (.bool E))) (cl : ∀ W : World, HasHead W → Calls Tryd.prog 15 #[.int .i64 x, .int .i64 q] W (Ret W (.bool false))) (hq : ¬ x - 1 < q) (hqp : q < p) : Calls Tryd.prog 8 #[.int .i64 x, .int .i64 p, .int .i64 q] w (Ret w (.bool true)) := by
  go_enter Tryd.func8, Tryd.ntmps8
  go_wp2_with (first
    | (go_at_call 13; (with_reducible refine (c1 _ hF).mono ?_); rintro _ _ ⟨rfl, x1, rfl⟩)
    | (go_at_call 15; (with_reducible refine (later_of _ (cn _ (x1.heads hF))).mono ?_); rintro _ _ ⟨rfl, x1, rfl⟩)
    | (go_at_call 15; (with_reducible refine (later_of _ (ce _ (x1.heads hF))).mono ?_); rintro _ _ ⟨rfl, x1, rfl⟩)
    | (go_at_call 15; (with_reducible refine (later_of _ (cl _ (x1.heads hF))).mono ?_); rintro _ _ ⟨rfl, x1, rfl⟩)
    | (go_at_call 17; (with_reducible refine (later_of _ (hlive_any _ (x1.heads hF))).mono ?_); rintro _ _ ⟨rfl, xl, rfl⟩))
  go_ret
  exact Ret.mk rfl xl.below

set_option maxHeartbeats 1000000 in
theorem hdolder_ge_et (x p q : Int) (w : World) (hF : HasHead w) (h0 : 1 ≤ x) (hm : x ≤ 9223372036854775807) (c1 : ∀ W : World, HasHead W → Calls Tryd.prog 13 #[.int .i64 x] W (Ret W (.tuple #[.int .i64 (x - 1), .bool true]))) (cn : ∀ W : World, HasHead W → Calls Tryd.prog 15 #[.int .i64 x, .int .i64 (x - 1)] W (Ret W (.bool false))) (ce : ∀ W : World, HasHead W → Calls Tryd.prog 15 #[.int .i64 x, .int .i64 p] W (Ret W (.bool true))) (cl : ∀ W : World, HasHead W → Calls Tryd.prog 15 #[.int .i64 x, .int .i64 q] W (Ret W (.bool true))) (hq : x - 1 < q) (hqp : ¬ q < p) : Calls Tryd.prog 8 #[.int .i64 x, .int .i64 p, .int .i64 q] w (Ret w (.bool true)) := by
  go_enter Tryd.func8, Tryd.ntmps8
  go_wp2_with (first
    | (go_at_call 13; (with_reducible refine (c1 _ hF).mono ?_); rintro _ _ ⟨rfl, x1, rfl⟩)
    | (go_at_call 15; (with_reducible refine (later_of _ (cn _ (x1.heads hF))).mono ?_); rintro _ _ ⟨rfl, x1, rfl⟩)
    | (go_at_call 15; (with_reducible refine (later_of _ (ce _ (x1.heads hF))).mono ?_); rintro _ _ ⟨rfl, x1, rfl⟩)
    | (go_at_call 15; (with_reducible refine (later_of _ (cl _ (x1.heads hF))).mono ?_); rintro _ _ ⟨rfl, x1, rfl⟩)
    | (go_at_call 17; (with_reducible refine (later_of _ (hlive_any _ (x1.heads hF))).mono ?_); rintro _ _ ⟨rfl, xl, rfl⟩))
  go_ret
  exact Ret.mk rfl xl.below

set_option maxHeartbeats 1000000 in
theorem hdolder_ge_ef_t (x p q : Int) (w : World) (hF : HasHead w) (h0 : 1 ≤ x) (hm : x ≤ 9223372036854775807) (c1 : ∀ W : World, HasHead W → Calls Tryd.prog 13 #[.int .i64 x] W (Ret W (.tuple #[.int .i64 (x - 1), .bool true]))) (cn : ∀ W : World, HasHead W → Calls Tryd.prog 15 #[.int .i64 x, .int .i64 (x - 1)] W (Ret W (.bool false))) (ce : ∀ W : World, HasHead W → Calls Tryd.prog 15 #[.int .i64 x, .int .i64 p] W (Ret W (.bool false))) (cl : ∀ W : World, HasHead W → Calls Tryd.prog 15 #[.int .i64 x, .int .i64 q] W (Ret W (.bool true))) (hq : x - 1 < q) (hqp : ¬ q < p) : Calls Tryd.prog 8 #[.int .i64 x, .int .i64 p, .int .i64 q] w (Ret w (.bool true)) := by
  go_enter Tryd.func8, Tryd.ntmps8
  go_wp2_with (first
    | (go_at_call 13; (with_reducible refine (c1 _ hF).mono ?_); rintro _ _ ⟨rfl, x1, rfl⟩)
    | (go_at_call 15; (with_reducible refine (later_of _ (cn _ (x1.heads hF))).mono ?_); rintro _ _ ⟨rfl, x1, rfl⟩)
    | (go_at_call 15; (with_reducible refine (later_of _ (ce _ (x1.heads hF))).mono ?_); rintro _ _ ⟨rfl, x1, rfl⟩)
    | (go_at_call 15; (with_reducible refine (later_of _ (cl _ (x1.heads hF))).mono ?_); rintro _ _ ⟨rfl, x1, rfl⟩)
    | (go_at_call 17; (with_reducible refine (later_of _ (hlive_any _ (x1.heads hF))).mono ?_); rintro _ _ ⟨rfl, xl, rfl⟩))
  go_ret
  exact Ret.mk rfl xl.below

set_option maxHeartbeats 1000000 in
theorem hdolder_ge_ef_f (x p q : Int) (w : World) (hF : HasHead w) (h0 : 1 ≤ x) (hm : x ≤ 9223372036854775807) (c1 : ∀ W : World, HasHead W → Calls Tryd.prog 13 #[.int .i64 x] W (Ret W (.tuple #[.int .i64 (x - 1), .bool true]))) (cn : ∀ W : World, HasHead W → Calls Tryd.prog 15 #[.int .i64 x, .int .i64 (x - 1)] W (Ret W (.bool false))) (ce : ∀ W : World, HasHead W → Calls Tryd.prog 15 #[.int .i64 x, .int .i64 p] W (Ret W (.bool false))) (cl : ∀ W : World, HasHead W → Calls Tryd.prog 15 #[.int .i64 x, .int .i64 q] W (Ret W (.bool false))) (hq : ¬ x - 1 < q) (hqp : ¬ q < p) : Calls Tryd.prog 8 #[.int .i64 x, .int .i64 p, .int .i64 q] w (Ret w (.bool true)) := by
  go_enter Tryd.func8, Tryd.ntmps8
  go_wp2_with (first
    | (go_at_call 13; (with_reducible refine (c1 _ hF).mono ?_); rintro _ _ ⟨rfl, x1, rfl⟩)
    | (go_at_call 15; (with_reducible refine (later_of _ (cn _ (x1.heads hF))).mono ?_); rintro _ _ ⟨rfl, x1, rfl⟩)
    | (go_at_call 15; (with_reducible refine (later_of _ (ce _ (x1.heads hF))).mono ?_); rintro _ _ ⟨rfl, x1, rfl⟩)
    | (go_at_call 15; (with_reducible refine (later_of _ (cl _ (x1.heads hF))).mono ?_); rintro _ _ ⟨rfl, x1, rfl⟩)
    | (go_at_call 17; (with_reducible refine (later_of _ (hlive_any _ (x1.heads hF))).mono ?_); rintro _ _ ⟨rfl, xl, rfl⟩))
  go_ret
  exact Ret.mk rfl xl.below

theorem HeadOlder_walk (x p q : Int) (hm : x ≤ 9223372036854775807) (w : World) (hF : HasHead w) : Calls Tryd.prog 8 #[.int .i64 x, .int .i64 p, .int .i64 q] w (Ret w (.bool true)) := by
  by_cases h0 : 1 ≤ x
  · have c1 := fun W => HdInside_at hm (insV_ok h0) (insB_ok h0) W
    have cn := fun W => HdOlder_at (ep := x - 1) hm (oldB_false (by omega)) W
    by_cases hq : x - 1 < q
    · have cl := fun W => HdOlder_at (ep := q) hm (oldB_true ⟨h0, hq⟩) W
      by_cases hqp : q < p
      · exact hdolder_lt_t x p q _ w hF h0 hm c1 cn (fun W => HdOlder_at hm rfl W) cl hq hqp
      · by_cases hp : x - 1 < p
        · exact hdolder_ge_et x p q w hF h0 hm c1 cn (fun W => HdOlder_at hm (oldB_true ⟨h0, hp⟩) W) cl hq hqp
        · exact hdolder_ge_ef_t x p q w hF h0 hm c1 cn (fun W => HdOlder_at hm (oldB_false (by omega)) W) cl hq hqp
    · have cl := fun W => HdOlder_at (ep := q) hm (oldB_false (by omega)) W
      by_cases hqp : q < p
      · exact hdolder_lt_f x p q _ w hF h0 hm c1 cn (fun W => HdOlder_at hm rfl W) cl hq hqp
      · exact hdolder_ge_ef_f x p q w hF h0 hm c1 cn (fun W => HdOlder_at hm (oldB_false (by omega)) W) cl hq hqp
  · exact hdolder_out x p q w hF (fun W => HdInside_at hm (insV_bad h0) (insB_bad h0) W) (fun W => HdOlder_at hm (oldB_false (by omega)) W)
end Go.Proofs.YtmicpfilklmbkaaDoor
