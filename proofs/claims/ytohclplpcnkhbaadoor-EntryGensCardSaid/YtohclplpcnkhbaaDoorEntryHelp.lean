/-
  What the statements' own helpers answer for layer 2: an entry handed to and fro, and the sample answers.
  Conditions: that the package's table of fields reads as it is laid.
-/
import Derived.Test.YtohclplpcnkhbaaDoorEntryNext
namespace Go.Proofs.YtohclplpcnkhbaaDoor
open Go.RowKit
attribute [local go_sem] Later.cell Later.frozen Later.lt Later.le
attribute [local go_sem ↓] Go.wp_at_zero Go.wp_at_succ

theorem own_any (o g p q : Int) (lk lv : Bool) (w : World) : Calls Tryd.prog 10 #[.agg #[.int .i64 o, .int .i64 g, .int .i64 p, .int .i64 q, .bool lk, .bool lv]] w (Ret w (.agg #[.int .i64 o, .int .i64 g, .int .i64 p, .int .i64 q, .bool lk, .bool lv])) := by
  go_enter Tryd.func10, Tryd.ntmps10
  go_wp2
  refine bodyPost_ret (v := .agg #[.int .i64 o, .int .i64 g, .int .i64 p, .int .i64 q, .bool lk, .bool lv]) (by simp [results, Tryd.results10, go_sem]) rfl (Ret.mk rfl ?_)
  exact ((Below.refl _ _).alloc (Nat.le_refl _) _).alloc (by simp) _

theorem told_any (o g p q : Int) (lk lv : Bool) (w : World) : Calls Tryd.prog 14 #[.agg #[.int .i64 o, .int .i64 g, .int .i64 p, .int .i64 q, .bool lk, .bool lv]] w (Ret w (.agg #[.int .i64 o, .int .i64 g, .int .i64 p, .int .i64 q, .bool lk, .bool lv])) := by
  go_enter Tryd.func14, Tryd.ntmps14
  go_wp2
  refine bodyPost_ret (v := .agg #[.int .i64 o, .int .i64 g, .int .i64 p, .int .i64 q, .bool lk, .bool lv]) (by simp [results, Tryd.results14, go_sem]) rfl (Ret.mk rfl ?_)
  exact ((Below.refl _ _).alloc (Nat.le_refl _) _).alloc (by simp) _

theorem Pin_at (x : Int) {v e : Int} (hv : pinV x = v) (he : pinC x = e) (w : World) (hF : HasFields w) :
    Calls Tryd.prog 16 #[.int .i64 x] w (Ret w (.tuple #[.int .i64 v, .int .i64 e])) := by rw [← hv, ← he]; exact Pin_any x w hF
theorem Unpin_at (x : Int) {v e : Int} (hv : unpinV x = v) (he : unpinC x = e) (w : World) (hF : HasFields w) :
    Calls Tryd.prog 17 #[.int .i64 x] w (Ret w (.tuple #[.int .i64 v, .int .i64 e])) := by rw [← hv, ← he]; exact Unpin_any x w hF
theorem Guard_at (x : Int) (n : Int) {v e : Int} (hv : guardV n x = v) (he : guardC n x = e) (w : World) (hF : HasFields w) :
    Calls Tryd.prog 21 #[.int .i64 x, .int .i64 n] w (Ret w (.tuple #[.int .i64 v, .int .i64 e])) := by rw [← hv, ← he]; exact Guard_any x n w hF
theorem Lock_at (x : Int) (on : Bool) {v e : Int} (hv : lockV on x = v) (he : lockC on x = e) (w : World) (hF : HasFields w) :
    Calls Tryd.prog 18 #[.int .i64 x, .bool on] w (Ret w (.tuple #[.int .i64 v, .int .i64 e])) := by rw [← hv, ← he]; exact Lock_any x on w hF
theorem Move_at (x : Int) (n : Int) {v e : Int} (hv : moveV n x = v) (he : moveC n x = e) (w : World) (hF : HasFields w) :
    Calls Tryd.prog 20 #[.int .i64 x, .int .i64 n] w (Ret w (.tuple #[.int .i64 v, .int .i64 e])) := by rw [← hv, ← he]; exact Move_any x n w hF
theorem Next_at (x : Int) {v e : Int} {m : Bool} (hv : nextV x = v) (hm : nextM x = m) (he : nextC x = e) (w : World) (hF : HasFields w) :
    Calls Tryd.prog 19 #[.int .i64 x] w (Ret w (.tuple #[.int .i64 v, .bool m, .int .i64 e])) := by rw [← hv, ← he, ← hm]; exact Next_any x w hF
theorem Unpack_at (x : Int) {o g p q : Int} {lk lv : Bool} {e : Int} (hv : upV x = ⟨o, g, p, q, lk, lv⟩) (he : upE x = e) (w : World) (hF : HasFields w) :
    Calls Tryd.prog 12 #[.int .i64 x] w (Ret w (.tuple #[.agg #[.int .i64 o, .int .i64 g, .int .i64 p, .int .i64 q, .bool lk, .bool lv], .int .i64 e])) := by
  have h := Unpack_any x w hF
  rw [hv, he] at h
  exact h
theorem Pack_at (o g p q : Int) (lk lv : Bool) {v e : Int} (hv : packV ⟨o, g, p, q, lk, lv⟩ = v) (he : packE ⟨o, g, p, q, lk, lv⟩ = e) (w : World) (hF : HasFields w) :
    Calls Tryd.prog 9 #[.agg #[.int .i64 o, .int .i64 g, .int .i64 p, .int .i64 q, .bool lk, .bool lv]] w (Ret w (.tuple #[.int .i64 v, .int .i64 e])) := by rw [← hv, ← he]; exact Pack_any o g p q lk lv w hF

theorem l1 (w : World) (hF : HasFields w) : Calls Tryd.prog 9 #[.agg #[.int .i64 0, .int .i64 1, .int .i64 0, .int .i64 0, .bool false, .bool true]] w (Ret w (.tuple #[.int .i64 562949954469888, .int .i64 0])) := Pack_at 0 1 0 0 false true (by decide +kernel) (by decide +kernel) w hF
theorem l2 (w : World) (hF : HasFields w) : Calls Tryd.prog 16 #[.int .i64 562949954469888] w (Ret w (.tuple #[.int .i64 564049466097664, .int .i64 0])) := Pin_at 562949954469888 (by decide +kernel) (by decide +kernel) w hF
theorem l3 (w : World) (hF : HasFields w) : Calls Tryd.prog 18 #[.int .i64 564049466097664, .bool true] w (Ret w (.tuple #[.int .i64 0, .int .i64 1])) := Lock_at 564049466097664 true (by decide +kernel) (by decide +kernel) w hF
theorem l4 (w : World) (hF : HasFields w) : Calls Tryd.prog 17 #[.int .i64 564049466097664] w (Ret w (.tuple #[.int .i64 562949954469888, .int .i64 0])) := Unpin_at 564049466097664 (by decide +kernel) (by decide +kernel) w hF
theorem l5 (w : World) (hF : HasFields w) : Calls Tryd.prog 17 #[.int .i64 562949954469888] w (Ret w (.tuple #[.int .i64 0, .int .i64 8])) := Unpin_at 562949954469888 (by decide +kernel) (by decide +kernel) w hF
theorem l6 (w : World) (hF : HasFields w) : Calls Tryd.prog 18 #[.int .i64 562949954469888, .bool true] w (Ret w (.tuple #[.int .i64 844424931180544, .int .i64 0])) := Lock_at 562949954469888 true (by decide +kernel) (by decide +kernel) w hF
theorem l7 (w : World) (hF : HasFields w) : Calls Tryd.prog 20 #[.int .i64 844424931180544, .int .i64 64] w (Ret w (.tuple #[.int .i64 562949954469952, .int .i64 0])) := Move_at 844424931180544 64 (by decide +kernel) (by decide +kernel) w hF
theorem l8 (w : World) (hF : HasFields w) : Calls Tryd.prog 19 #[.int .i64 562949954469952] w (Ret w (.tuple #[.int .i64 2097152, .bool true, .int .i64 0])) := Next_at 562949954469952 (by decide +kernel) (by decide +kernel) (by decide +kernel) w hF
theorem l9 (w : World) (hF : HasFields w) : Calls Tryd.prog 12 #[.int .i64 (-1)] w (Ret w (.tuple #[.agg #[.int .i64 0, .int .i64 0, .int .i64 0, .int .i64 0, .bool false, .bool false], .int .i64 2])) := Unpack_at (-1) (upV_bad (by decide +kernel)) (upE_bad (by decide +kernel)) w hF
theorem l10 (w : World) (hF : HasFields w) : Calls Tryd.prog 12 #[.int .i64 2097152] w (Ret w (.tuple #[.agg #[.int .i64 0, .int .i64 2, .int .i64 0, .int .i64 0, .bool false, .bool false], .int .i64 0])) := Unpack_at 2097152 (show upV 2097152 = ⟨0, 2, 0, 0, false, false⟩ from (upV_ok (by decide +kernel)).trans (unp_word (e := ⟨0, 2, 0, 0, false, false⟩) (by decide +kernel))) (upE_ok (by decide +kernel)) w hF

set_option maxHeartbeats 1000000 in
theorem live_any (w : World) (hF : HasFields w) : Calls Tryd.prog 15 #[] w (Ret w (.bool true)) := by
  go_enter Tryd.func15, Tryd.ntmps15
  go_wp2_with (first
    | (go_at_call 9; (with_reducible refine (l1 _ hF).mono ?_); rintro _ _ ⟨rfl, x, rfl⟩)
    | (go_at_call 16; (with_reducible refine (later_of _ (l2 _ (x.fields hF))).mono ?_); rintro _ _ ⟨rfl, x, rfl⟩)
    | (go_at_call 18; (with_reducible refine (later_of _ (l3 _ (x.fields hF))).mono ?_); rintro _ _ ⟨rfl, x, rfl⟩)
    | (go_at_call 17; (with_reducible refine (later_of _ (l4 _ (x.fields hF))).mono ?_); rintro _ _ ⟨rfl, x, rfl⟩)
    | (go_at_call 17; (with_reducible refine (later_of _ (l5 _ (x.fields hF))).mono ?_); rintro _ _ ⟨rfl, x, rfl⟩)
    | (go_at_call 18; (with_reducible refine (later_of _ (l6 _ (x.fields hF))).mono ?_); rintro _ _ ⟨rfl, x, rfl⟩)
    | (go_at_call 20; (with_reducible refine (later_of _ (l7 _ (x.fields hF))).mono ?_); rintro _ _ ⟨rfl, x, rfl⟩)
    | (go_at_call 19; (with_reducible refine (later_of _ (l8 _ (x.fields hF))).mono ?_); rintro _ _ ⟨rfl, x, rfl⟩)
    | (go_at_call 12; (with_reducible refine (later_of _ (l9 _ (x.fields hF))).mono ?_); rintro _ _ ⟨rfl, y, rfl⟩)
    | (go_at_call 12; (with_reducible refine (l10 _ ((y.fields hF).alloc _)).mono ?_); rintro _ _ ⟨rfl, z, rfl⟩))
  go_ret
  exact Ret.mk rfl ((y.on z.boxed).below.alloc (y.on z.boxed).below.size _)
end Go.Proofs.YtohclplpcnkhbaaDoor
