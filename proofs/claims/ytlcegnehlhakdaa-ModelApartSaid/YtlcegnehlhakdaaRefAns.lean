/-
  What the document's own Answer comes to, for layer 7.
  Conditions: that its map stands in memory.
-/
import Derived.Test.YtlcegnehlhakdaaRefMem
namespace Go.Proofs.Ytlcegnehlhakdaa
open Go.RowKit Go.Maps Go
attribute [local go_sem] Later.cell Later.frozen Later.lt Later.le
set_option linter.unusedVariables false
set_option linter.unusedSimpArgs false
set_option maxRecDepth 4000

theorem refOf_any (e : Int) (w : World) : Calls Try.prog 33 #[.int .i64 e] w (Ret w (.agg #[.int .i64 e, .int .i64 0])) := by
  go_enter Try.func33, Try.ntmps33
  go_wp2
  refine bodyPost_ret (v := .agg #[.int .i64 e, .int .i64 0]) (by simp [results, Try.results33, go_sem]) rfl (Ret.mk rfl ?_)
  exact (Below.refl _ w).alloc (Nat.le_refl _) _

set_option maxHeartbeats 1000000 in
theorem refAns_f6 {w : World} {k : Nat} (h off n : Int) {i g len c c2 : Nat} {q : Option Addr} {bl : Nat} {pins : Int} (hi : i < len) (hlen : len ≤ 1000) (hbl : bl ≤ 256)
    (cf : Calls Try.prog 34 #[.pointer (some ⟨k, 0, none⟩), .int .i64 h] ((w.alloc (.cells #[.int .i64 1, .int .i64 h, .int .i64 off, .int .i64 n] 39)).alloc (.cells #[.int .i64 0, .int .i64 0] 35)) (fun en w' => en = .returned (.int .i64 (i : Int)) ∧ ((w.alloc (.cells #[.int .i64 1, .int .i64 h, .int .i64 off, .int .i64 n] 39)).alloc (.cells #[.int .i64 0, .int .i64 0] 35)) = w'))
    (k0 : ((w.alloc (.cells #[.int .i64 1, .int .i64 h, .int .i64 off, .int .i64 n] 39)).alloc (.cells #[.int .i64 0, .int .i64 0] 35)).cell? ⟨k, 0, none⟩ = some (.slice (some ⟨g, 0, none⟩) len c)) (q0 : ((w.alloc (.cells #[.int .i64 1, .int .i64 h, .int .i64 off, .int .i64 n] 39)).alloc (.cells #[.int .i64 0, .int .i64 0] 35)).cell? ⟨g, i * 3, none⟩ = some (.int .i64 h)) (q1 : ((w.alloc (.cells #[.int .i64 1, .int .i64 h, .int .i64 off, .int .i64 n] 39)).alloc (.cells #[.int .i64 0, .int .i64 0] 35)).cell? ⟨g, i * 3 + 1, none⟩ = some (.slice q bl c2)) (q2 : ((w.alloc (.cells #[.int .i64 1, .int .i64 h, .int .i64 off, .int .i64 n] 39)).alloc (.cells #[.int .i64 0, .int .i64 0] 35)).cell? ⟨g, i * 3 + 2, none⟩ = some (.int .i64 pins)) (hp : 0 < pins) :
    Calls Try.prog 14 #[.pointer (some ⟨k, 0, none⟩), .agg #[.int .i64 1, .int .i64 h, .int .i64 off, .int .i64 n]] w (Ret w (.tuple #[.agg #[.int .i64 6, .int .i64 0], .bool true])) := by
  have co := fun W => refOf_any 6 W
  have i1 : (i : Int) < len := by omega
  have i0 : (0 : Int) ≤ i := by omega
  go_enter Try.func14, Try.ntmps14
  go_wp2_with (first
    | (go_at_call 34; (with_reducible refine cf.mono ?_); rintro _ _ ⟨rfl, rfl⟩)
    | (go_at_call 33; (with_reducible refine (co _).mono ?_); rintro _ _ ⟨rfl, z, rfl⟩))
  refine bodyPost_ret (v := .tuple #[.agg #[.int .i64 6, .int .i64 0], .bool true]) (by simp [results, Try.results14, go_sem]) rfl (Ret.mk rfl ?_)
  first | exact (((((Below.refl _ w).alloc (Nat.le_refl _) _).alloc (by simp) _).alloc (by simp; omega) _).trans (z.below.mono (by simp; omega))) | exact Below.setCell (Below.setCell (((((Below.refl _ w).alloc (Nat.le_refl _) _).alloc (by simp) _).alloc (by simp; omega) _).trans (z.below.mono (by simp; omega))) (by simp) _) (by simp) _ | exact Below.setCell (((((Below.refl _ w).alloc (Nat.le_refl _) _).alloc (by simp) _).alloc (by simp; omega) _).trans (z.below.mono (by simp; omega))) (by simp) _

set_option maxHeartbeats 1000000 in
theorem refAns_f0 {w : World} {k : Nat} (h off n : Int) {i g len c c2 : Nat} {q : Option Addr} {bl : Nat} {pins : Int} (hi : i < len) (hlen : len ≤ 1000) (hbl : bl ≤ 256)
    (cf : Calls Try.prog 34 #[.pointer (some ⟨k, 0, none⟩), .int .i64 h] ((w.alloc (.cells #[.int .i64 1, .int .i64 h, .int .i64 off, .int .i64 n] 39)).alloc (.cells #[.int .i64 0, .int .i64 0] 35)) (fun en w' => en = .returned (.int .i64 (i : Int)) ∧ ((w.alloc (.cells #[.int .i64 1, .int .i64 h, .int .i64 off, .int .i64 n] 39)).alloc (.cells #[.int .i64 0, .int .i64 0] 35)) = w'))
    (k0 : ((w.alloc (.cells #[.int .i64 1, .int .i64 h, .int .i64 off, .int .i64 n] 39)).alloc (.cells #[.int .i64 0, .int .i64 0] 35)).cell? ⟨k, 0, none⟩ = some (.slice (some ⟨g, 0, none⟩) len c)) (q0 : ((w.alloc (.cells #[.int .i64 1, .int .i64 h, .int .i64 off, .int .i64 n] 39)).alloc (.cells #[.int .i64 0, .int .i64 0] 35)).cell? ⟨g, i * 3, none⟩ = some (.int .i64 h)) (q1 : ((w.alloc (.cells #[.int .i64 1, .int .i64 h, .int .i64 off, .int .i64 n] 39)).alloc (.cells #[.int .i64 0, .int .i64 0] 35)).cell? ⟨g, i * 3 + 1, none⟩ = some (.slice q bl c2)) (q2 : ((w.alloc (.cells #[.int .i64 1, .int .i64 h, .int .i64 off, .int .i64 n] 39)).alloc (.cells #[.int .i64 0, .int .i64 0] 35)).cell? ⟨g, i * 3 + 2, none⟩ = some (.int .i64 pins)) (hp : ¬ 0 < pins) :
    Calls Try.prog 14 #[.pointer (some ⟨k, 0, none⟩), .agg #[.int .i64 1, .int .i64 h, .int .i64 off, .int .i64 n]] w (Ret w (.tuple #[.agg #[.int .i64 0, .int .i64 0], .bool true])) := by
  have i1 : (i : Int) < len := by omega
  have i0 : (0 : Int) ≤ i := by omega
  go_enter Try.func14, Try.ntmps14
  go_wp2_with (first
    | (go_at_call 34; (with_reducible refine cf.mono ?_); rintro _ _ ⟨rfl, rfl⟩)
    | (go_at_call 33; (with_reducible refine (co _).mono ?_); rintro _ _ ⟨rfl, z, rfl⟩))
  refine bodyPost_ret (v := .tuple #[.agg #[.int .i64 0, .int .i64 0], .bool true]) (by simp [results, Try.results14, go_sem]) rfl (Ret.mk rfl ?_)
  first | exact ((((Below.refl _ w).alloc (Nat.le_refl _) _).alloc (by simp) _).alloc (by simp; omega) _) | exact Below.setCell (Below.setCell ((((Below.refl _ w).alloc (Nat.le_refl _) _).alloc (by simp) _).alloc (by simp; omega) _) (by simp) _) (by simp) _ | exact Below.setCell ((((Below.refl _ w).alloc (Nat.le_refl _) _).alloc (by simp) _).alloc (by simp; omega) _) (by simp) _

set_option maxHeartbeats 1000000 in
theorem refAns_r5a {w : World} {k : Nat} (h off n : Int) {i g len c c2 : Nat} {q : Option Addr} {bl : Nat} {pins : Int} (hi : i < len) (hlen : len ≤ 1000) (hbl : bl ≤ 256)
    (cf : Calls Try.prog 34 #[.pointer (some ⟨k, 0, none⟩), .int .i64 h] ((w.alloc (.cells #[.int .i64 2, .int .i64 h, .int .i64 off, .int .i64 n] 39)).alloc (.cells #[.int .i64 0, .int .i64 0] 35)) (fun en w' => en = .returned (.int .i64 (i : Int)) ∧ ((w.alloc (.cells #[.int .i64 2, .int .i64 h, .int .i64 off, .int .i64 n] 39)).alloc (.cells #[.int .i64 0, .int .i64 0] 35)) = w'))
    (k0 : ((w.alloc (.cells #[.int .i64 2, .int .i64 h, .int .i64 off, .int .i64 n] 39)).alloc (.cells #[.int .i64 0, .int .i64 0] 35)).cell? ⟨k, 0, none⟩ = some (.slice (some ⟨g, 0, none⟩) len c)) (q0 : ((w.alloc (.cells #[.int .i64 2, .int .i64 h, .int .i64 off, .int .i64 n] 39)).alloc (.cells #[.int .i64 0, .int .i64 0] 35)).cell? ⟨g, i * 3, none⟩ = some (.int .i64 h)) (q1 : ((w.alloc (.cells #[.int .i64 2, .int .i64 h, .int .i64 off, .int .i64 n] 39)).alloc (.cells #[.int .i64 0, .int .i64 0] 35)).cell? ⟨g, i * 3 + 1, none⟩ = some (.slice q bl c2)) (q2 : ((w.alloc (.cells #[.int .i64 2, .int .i64 h, .int .i64 off, .int .i64 n] 39)).alloc (.cells #[.int .i64 0, .int .i64 0] 35)).cell? ⟨g, i * 3 + 2, none⟩ = some (.int .i64 pins)) (hr : off < 0) :
    Calls Try.prog 14 #[.pointer (some ⟨k, 0, none⟩), .agg #[.int .i64 2, .int .i64 h, .int .i64 off, .int .i64 n]] w (Ret w (.tuple #[.agg #[.int .i64 5, .int .i64 0], .bool true])) := by
  have co := fun W => refOf_any 5 W
  have i1 : (i : Int) < len := by omega
  have i0 : (0 : Int) ≤ i := by omega
  go_enter Try.func14, Try.ntmps14
  go_wp2_with (first
    | (go_at_call 34; (with_reducible refine cf.mono ?_); rintro _ _ ⟨rfl, rfl⟩)
    | (go_at_call 33; (with_reducible refine (co _).mono ?_); rintro _ _ ⟨rfl, z, rfl⟩))
  refine bodyPost_ret (v := .tuple #[.agg #[.int .i64 5, .int .i64 0], .bool true]) (by simp [results, Try.results14, go_sem]) rfl (Ret.mk rfl ?_)
  first | exact (((((Below.refl _ w).alloc (Nat.le_refl _) _).alloc (by simp) _).alloc (by simp; omega) _).trans (z.below.mono (by simp; omega))) | exact Below.setCell (Below.setCell (((((Below.refl _ w).alloc (Nat.le_refl _) _).alloc (by simp) _).alloc (by simp; omega) _).trans (z.below.mono (by simp; omega))) (by simp) _) (by simp) _ | exact Below.setCell (((((Below.refl _ w).alloc (Nat.le_refl _) _).alloc (by simp) _).alloc (by simp; omega) _).trans (z.below.mono (by simp; omega))) (by simp) _

set_option maxHeartbeats 1000000 in
theorem refAns_r5b {w : World} {k : Nat} (h off n : Int) {i g len c c2 : Nat} {q : Option Addr} {bl : Nat} {pins : Int} (hi : i < len) (hlen : len ≤ 1000) (hbl : bl ≤ 256)
    (cf : Calls Try.prog 34 #[.pointer (some ⟨k, 0, none⟩), .int .i64 h] ((w.alloc (.cells #[.int .i64 2, .int .i64 h, .int .i64 off, .int .i64 n] 39)).alloc (.cells #[.int .i64 0, .int .i64 0] 35)) (fun en w' => en = .returned (.int .i64 (i : Int)) ∧ ((w.alloc (.cells #[.int .i64 2, .int .i64 h, .int .i64 off, .int .i64 n] 39)).alloc (.cells #[.int .i64 0, .int .i64 0] 35)) = w'))
    (k0 : ((w.alloc (.cells #[.int .i64 2, .int .i64 h, .int .i64 off, .int .i64 n] 39)).alloc (.cells #[.int .i64 0, .int .i64 0] 35)).cell? ⟨k, 0, none⟩ = some (.slice (some ⟨g, 0, none⟩) len c)) (q0 : ((w.alloc (.cells #[.int .i64 2, .int .i64 h, .int .i64 off, .int .i64 n] 39)).alloc (.cells #[.int .i64 0, .int .i64 0] 35)).cell? ⟨g, i * 3, none⟩ = some (.int .i64 h)) (q1 : ((w.alloc (.cells #[.int .i64 2, .int .i64 h, .int .i64 off, .int .i64 n] 39)).alloc (.cells #[.int .i64 0, .int .i64 0] 35)).cell? ⟨g, i * 3 + 1, none⟩ = some (.slice q bl c2)) (q2 : ((w.alloc (.cells #[.int .i64 2, .int .i64 h, .int .i64 off, .int .i64 n] 39)).alloc (.cells #[.int .i64 0, .int .i64 0] 35)).cell? ⟨g, i * 3 + 2, none⟩ = some (.int .i64 pins)) (ho : ¬ off < 0) (hr : (bl : Int) ≤ off) :
    Calls Try.prog 14 #[.pointer (some ⟨k, 0, none⟩), .agg #[.int .i64 2, .int .i64 h, .int .i64 off, .int .i64 n]] w (Ret w (.tuple #[.agg #[.int .i64 5, .int .i64 0], .bool true])) := by
  have co := fun W => refOf_any 5 W
  have i1 : (i : Int) < len := by omega
  have i0 : (0 : Int) ≤ i := by omega
  go_enter Try.func14, Try.ntmps14
  go_wp2_with (first
    | (go_at_call 34; (with_reducible refine cf.mono ?_); rintro _ _ ⟨rfl, rfl⟩)
    | (go_at_call 33; (with_reducible refine (co _).mono ?_); rintro _ _ ⟨rfl, z, rfl⟩))
  refine bodyPost_ret (v := .tuple #[.agg #[.int .i64 5, .int .i64 0], .bool true]) (by simp [results, Try.results14, go_sem]) rfl (Ret.mk rfl ?_)
  first | exact (((((Below.refl _ w).alloc (Nat.le_refl _) _).alloc (by simp) _).alloc (by simp; omega) _).trans (z.below.mono (by simp; omega))) | exact Below.setCell (Below.setCell (((((Below.refl _ w).alloc (Nat.le_refl _) _).alloc (by simp) _).alloc (by simp; omega) _).trans (z.below.mono (by simp; omega))) (by simp) _) (by simp) _ | exact Below.setCell (((((Below.refl _ w).alloc (Nat.le_refl _) _).alloc (by simp) _).alloc (by simp; omega) _).trans (z.below.mono (by simp; omega))) (by simp) _

set_option maxHeartbeats 1000000 in
theorem refAns_w5a {w : World} {k : Nat} (h off n : Int) {i g len c c2 : Nat} {q : Option Addr} {bl : Nat} {pins : Int} (hi : i < len) (hlen : len ≤ 1000) (hbl : bl ≤ 256)
    (cf : Calls Try.prog 34 #[.pointer (some ⟨k, 0, none⟩), .int .i64 h] ((w.alloc (.cells #[.int .i64 3, .int .i64 h, .int .i64 off, .int .i64 n] 39)).alloc (.cells #[.int .i64 0, .int .i64 0] 35)) (fun en w' => en = .returned (.int .i64 (i : Int)) ∧ ((w.alloc (.cells #[.int .i64 3, .int .i64 h, .int .i64 off, .int .i64 n] 39)).alloc (.cells #[.int .i64 0, .int .i64 0] 35)) = w'))
    (k0 : ((w.alloc (.cells #[.int .i64 3, .int .i64 h, .int .i64 off, .int .i64 n] 39)).alloc (.cells #[.int .i64 0, .int .i64 0] 35)).cell? ⟨k, 0, none⟩ = some (.slice (some ⟨g, 0, none⟩) len c)) (q0 : ((w.alloc (.cells #[.int .i64 3, .int .i64 h, .int .i64 off, .int .i64 n] 39)).alloc (.cells #[.int .i64 0, .int .i64 0] 35)).cell? ⟨g, i * 3, none⟩ = some (.int .i64 h)) (q1 : ((w.alloc (.cells #[.int .i64 3, .int .i64 h, .int .i64 off, .int .i64 n] 39)).alloc (.cells #[.int .i64 0, .int .i64 0] 35)).cell? ⟨g, i * 3 + 1, none⟩ = some (.slice q bl c2)) (q2 : ((w.alloc (.cells #[.int .i64 3, .int .i64 h, .int .i64 off, .int .i64 n] 39)).alloc (.cells #[.int .i64 0, .int .i64 0] 35)).cell? ⟨g, i * 3 + 2, none⟩ = some (.int .i64 pins)) (hr : off < 0) :
    Calls Try.prog 14 #[.pointer (some ⟨k, 0, none⟩), .agg #[.int .i64 3, .int .i64 h, .int .i64 off, .int .i64 n]] w (Ret w (.tuple #[.agg #[.int .i64 5, .int .i64 0], .bool true])) := by
  have co := fun W => refOf_any 5 W
  have i1 : (i : Int) < len := by omega
  have i0 : (0 : Int) ≤ i := by omega
  go_enter Try.func14, Try.ntmps14
  go_wp2_with (first
    | (go_at_call 34; (with_reducible refine cf.mono ?_); rintro _ _ ⟨rfl, rfl⟩)
    | (go_at_call 33; (with_reducible refine (co _).mono ?_); rintro _ _ ⟨rfl, z, rfl⟩))
  refine bodyPost_ret (v := .tuple #[.agg #[.int .i64 5, .int .i64 0], .bool true]) (by simp [results, Try.results14, go_sem]) rfl (Ret.mk rfl ?_)
  first | exact (((((Below.refl _ w).alloc (Nat.le_refl _) _).alloc (by simp) _).alloc (by simp; omega) _).trans (z.below.mono (by simp; omega))) | exact Below.setCell (Below.setCell (((((Below.refl _ w).alloc (Nat.le_refl _) _).alloc (by simp) _).alloc (by simp; omega) _).trans (z.below.mono (by simp; omega))) (by simp) _) (by simp) _ | exact Below.setCell (((((Below.refl _ w).alloc (Nat.le_refl _) _).alloc (by simp) _).alloc (by simp; omega) _).trans (z.below.mono (by simp; omega))) (by simp) _

set_option maxHeartbeats 1000000 in
theorem refAns_w5b {w : World} {k : Nat} (h off n : Int) {i g len c c2 : Nat} {q : Option Addr} {bl : Nat} {pins : Int} (hi : i < len) (hlen : len ≤ 1000) (hbl : bl ≤ 256)
    (cf : Calls Try.prog 34 #[.pointer (some ⟨k, 0, none⟩), .int .i64 h] ((w.alloc (.cells #[.int .i64 3, .int .i64 h, .int .i64 off, .int .i64 n] 39)).alloc (.cells #[.int .i64 0, .int .i64 0] 35)) (fun en w' => en = .returned (.int .i64 (i : Int)) ∧ ((w.alloc (.cells #[.int .i64 3, .int .i64 h, .int .i64 off, .int .i64 n] 39)).alloc (.cells #[.int .i64 0, .int .i64 0] 35)) = w'))
    (k0 : ((w.alloc (.cells #[.int .i64 3, .int .i64 h, .int .i64 off, .int .i64 n] 39)).alloc (.cells #[.int .i64 0, .int .i64 0] 35)).cell? ⟨k, 0, none⟩ = some (.slice (some ⟨g, 0, none⟩) len c)) (q0 : ((w.alloc (.cells #[.int .i64 3, .int .i64 h, .int .i64 off, .int .i64 n] 39)).alloc (.cells #[.int .i64 0, .int .i64 0] 35)).cell? ⟨g, i * 3, none⟩ = some (.int .i64 h)) (q1 : ((w.alloc (.cells #[.int .i64 3, .int .i64 h, .int .i64 off, .int .i64 n] 39)).alloc (.cells #[.int .i64 0, .int .i64 0] 35)).cell? ⟨g, i * 3 + 1, none⟩ = some (.slice q bl c2)) (q2 : ((w.alloc (.cells #[.int .i64 3, .int .i64 h, .int .i64 off, .int .i64 n] 39)).alloc (.cells #[.int .i64 0, .int .i64 0] 35)).cell? ⟨g, i * 3 + 2, none⟩ = some (.int .i64 pins)) (ho : ¬ off < 0) (hr : (bl : Int) ≤ off) :
    Calls Try.prog 14 #[.pointer (some ⟨k, 0, none⟩), .agg #[.int .i64 3, .int .i64 h, .int .i64 off, .int .i64 n]] w (Ret w (.tuple #[.agg #[.int .i64 5, .int .i64 0], .bool true])) := by
  have co := fun W => refOf_any 5 W
  have i1 : (i : Int) < len := by omega
  have i0 : (0 : Int) ≤ i := by omega
  go_enter Try.func14, Try.ntmps14
  go_wp2_with (first
    | (go_at_call 34; (with_reducible refine cf.mono ?_); rintro _ _ ⟨rfl, rfl⟩)
    | (go_at_call 33; (with_reducible refine (co _).mono ?_); rintro _ _ ⟨rfl, z, rfl⟩))
  refine bodyPost_ret (v := .tuple #[.agg #[.int .i64 5, .int .i64 0], .bool true]) (by simp [results, Try.results14, go_sem]) rfl (Ret.mk rfl ?_)
  first | exact (((((Below.refl _ w).alloc (Nat.le_refl _) _).alloc (by simp) _).alloc (by simp; omega) _).trans (z.below.mono (by simp; omega))) | exact Below.setCell (Below.setCell (((((Below.refl _ w).alloc (Nat.le_refl _) _).alloc (by simp) _).alloc (by simp; omega) _).trans (z.below.mono (by simp; omega))) (by simp) _) (by simp) _ | exact Below.setCell (((((Below.refl _ w).alloc (Nat.le_refl _) _).alloc (by simp) _).alloc (by simp; omega) _).trans (z.below.mono (by simp; omega))) (by simp) _

set_option maxHeartbeats 1000000 in
theorem refAns_r0 {w : World} {k : Nat} (h off n : Int) {i g len c c2 : Nat} {q : Option Addr} {bl : Nat} {pins : Int} (hi : i < len) (hlen : len ≤ 1000) (hbl : bl ≤ 256)
    (cf : Calls Try.prog 34 #[.pointer (some ⟨k, 0, none⟩), .int .i64 h] ((w.alloc (.cells #[.int .i64 2, .int .i64 h, .int .i64 off, .int .i64 n] 39)).alloc (.cells #[.int .i64 0, .int .i64 0] 35)) (fun en w' => en = .returned (.int .i64 (i : Int)) ∧ ((w.alloc (.cells #[.int .i64 2, .int .i64 h, .int .i64 off, .int .i64 n] 39)).alloc (.cells #[.int .i64 0, .int .i64 0] 35)) = w'))
    (k0 : ((w.alloc (.cells #[.int .i64 2, .int .i64 h, .int .i64 off, .int .i64 n] 39)).alloc (.cells #[.int .i64 0, .int .i64 0] 35)).cell? ⟨k, 0, none⟩ = some (.slice (some ⟨g, 0, none⟩) len c)) (q0 : ((w.alloc (.cells #[.int .i64 2, .int .i64 h, .int .i64 off, .int .i64 n] 39)).alloc (.cells #[.int .i64 0, .int .i64 0] 35)).cell? ⟨g, i * 3, none⟩ = some (.int .i64 h)) (q1 : ((w.alloc (.cells #[.int .i64 2, .int .i64 h, .int .i64 off, .int .i64 n] 39)).alloc (.cells #[.int .i64 0, .int .i64 0] 35)).cell? ⟨g, i * 3 + 1, none⟩ = some (.slice q bl c2)) (q2 : ((w.alloc (.cells #[.int .i64 2, .int .i64 h, .int .i64 off, .int .i64 n] 39)).alloc (.cells #[.int .i64 0, .int .i64 0] 35)).cell? ⟨g, i * 3 + 2, none⟩ = some (.int .i64 pins)) (ho : ¬ off < 0) (hr : ¬ (bl : Int) ≤ off) {gq : Nat} (hq : q = some ⟨gq, 0, none⟩) {v : Int} (rB : ∀ o, (((w.alloc (.cells #[.int .i64 2, .int .i64 h, .int .i64 off, .int .i64 n] 39)).alloc (.cells #[.int .i64 0, .int .i64 0] 35)).alloc o).cell? ⟨gq, off.toNat, none⟩ = some (.int .i64 v)) :
    Calls Try.prog 14 #[.pointer (some ⟨k, 0, none⟩), .agg #[.int .i64 2, .int .i64 h, .int .i64 off, .int .i64 n]] w (Ret w (.tuple #[.agg #[.int .i64 0, .int .i64 v], .bool true])) := by
  have i1 : (i : Int) < len := by omega
  have i0 : (0 : Int) ≤ i := by omega
  subst hq
  have o0 : 0 ≤ off := by omega
  have o1 : off < (bl : Int) := by omega
  go_enter Try.func14, Try.ntmps14
  go_wp2_with (first
    | (go_at_call 34; (with_reducible refine cf.mono ?_); rintro _ _ ⟨rfl, rfl⟩)
    | (go_at_call 33; (with_reducible refine (co _).mono ?_); rintro _ _ ⟨rfl, z, rfl⟩))
  refine bodyPost_ret (v := .tuple #[.agg #[.int .i64 0, .int .i64 v], .bool true]) (by simp [results, Try.results14, go_sem]) rfl (Ret.mk rfl ?_)
  first | exact ((((Below.refl _ w).alloc (Nat.le_refl _) _).alloc (by simp) _).alloc (by simp; omega) _) | exact Below.setCell (Below.setCell ((((Below.refl _ w).alloc (Nat.le_refl _) _).alloc (by simp) _).alloc (by simp; omega) _) (by simp) _) (by simp) _ | exact Below.setCell ((((Below.refl _ w).alloc (Nat.le_refl _) _).alloc (by simp) _).alloc (by simp; omega) _) (by simp) _

set_option maxHeartbeats 1000000 in
theorem refAns_w0 {w : World} {k : Nat} (h off n : Int) {i g len c c2 : Nat} {q : Option Addr} {bl : Nat} {pins : Int} (hi : i < len) (hlen : len ≤ 1000) (hbl : bl ≤ 256)
    (cf : Calls Try.prog 34 #[.pointer (some ⟨k, 0, none⟩), .int .i64 h] ((w.alloc (.cells #[.int .i64 3, .int .i64 h, .int .i64 off, .int .i64 n] 39)).alloc (.cells #[.int .i64 0, .int .i64 0] 35)) (fun en w' => en = .returned (.int .i64 (i : Int)) ∧ ((w.alloc (.cells #[.int .i64 3, .int .i64 h, .int .i64 off, .int .i64 n] 39)).alloc (.cells #[.int .i64 0, .int .i64 0] 35)) = w'))
    (k0 : ((w.alloc (.cells #[.int .i64 3, .int .i64 h, .int .i64 off, .int .i64 n] 39)).alloc (.cells #[.int .i64 0, .int .i64 0] 35)).cell? ⟨k, 0, none⟩ = some (.slice (some ⟨g, 0, none⟩) len c)) (q0 : ((w.alloc (.cells #[.int .i64 3, .int .i64 h, .int .i64 off, .int .i64 n] 39)).alloc (.cells #[.int .i64 0, .int .i64 0] 35)).cell? ⟨g, i * 3, none⟩ = some (.int .i64 h)) (q1 : ((w.alloc (.cells #[.int .i64 3, .int .i64 h, .int .i64 off, .int .i64 n] 39)).alloc (.cells #[.int .i64 0, .int .i64 0] 35)).cell? ⟨g, i * 3 + 1, none⟩ = some (.slice q bl c2)) (q2 : ((w.alloc (.cells #[.int .i64 3, .int .i64 h, .int .i64 off, .int .i64 n] 39)).alloc (.cells #[.int .i64 0, .int .i64 0] 35)).cell? ⟨g, i * 3 + 2, none⟩ = some (.int .i64 pins)) (ho : ¬ off < 0) (hr : ¬ (bl : Int) ≤ off) :
    Calls Try.prog 14 #[.pointer (some ⟨k, 0, none⟩), .agg #[.int .i64 3, .int .i64 h, .int .i64 off, .int .i64 n]] w (Ret w (.tuple #[.agg #[.int .i64 0, .int .i64 0], .bool true])) := by
  have i1 : (i : Int) < len := by omega
  have i0 : (0 : Int) ≤ i := by omega
  go_enter Try.func14, Try.ntmps14
  go_wp2_with (first
    | (go_at_call 34; (with_reducible refine cf.mono ?_); rintro _ _ ⟨rfl, rfl⟩)
    | (go_at_call 33; (with_reducible refine (co _).mono ?_); rintro _ _ ⟨rfl, z, rfl⟩))
  refine bodyPost_ret (v := .tuple #[.agg #[.int .i64 0, .int .i64 0], .bool true]) (by simp [results, Try.results14, go_sem]) rfl (Ret.mk rfl ?_)
  first | exact ((((Below.refl _ w).alloc (Nat.le_refl _) _).alloc (by simp) _).alloc (by simp; omega) _) | exact Below.setCell (Below.setCell ((((Below.refl _ w).alloc (Nat.le_refl _) _).alloc (by simp) _).alloc (by simp; omega) _) (by simp) _) (by simp) _ | exact Below.setCell ((((Below.refl _ w).alloc (Nat.le_refl _) _).alloc (by simp) _).alloc (by simp; omega) _) (by simp) _

set_option maxHeartbeats 1000000 in
theorem refAns_p7 {w : World} {k : Nat} (h off n : Int) {i g len c c2 : Nat} {q : Option Addr} {bl : Nat} {pins : Int} (hi : i < len) (hlen : len ≤ 1000) (hbl : bl ≤ 256)
    (cf : Calls Try.prog 34 #[.pointer (some ⟨k, 0, none⟩), .int .i64 h] ((w.alloc (.cells #[.int .i64 4, .int .i64 h, .int .i64 off, .int .i64 n] 39)).alloc (.cells #[.int .i64 0, .int .i64 0] 35)) (fun en w' => en = .returned (.int .i64 (i : Int)) ∧ ((w.alloc (.cells #[.int .i64 4, .int .i64 h, .int .i64 off, .int .i64 n] 39)).alloc (.cells #[.int .i64 0, .int .i64 0] 35)) = w'))
    (k0 : ((w.alloc (.cells #[.int .i64 4, .int .i64 h, .int .i64 off, .int .i64 n] 39)).alloc (.cells #[.int .i64 0, .int .i64 0] 35)).cell? ⟨k, 0, none⟩ = some (.slice (some ⟨g, 0, none⟩) len c)) (q0 : ((w.alloc (.cells #[.int .i64 4, .int .i64 h, .int .i64 off, .int .i64 n] 39)).alloc (.cells #[.int .i64 0, .int .i64 0] 35)).cell? ⟨g, i * 3, none⟩ = some (.int .i64 h)) (q1 : ((w.alloc (.cells #[.int .i64 4, .int .i64 h, .int .i64 off, .int .i64 n] 39)).alloc (.cells #[.int .i64 0, .int .i64 0] 35)).cell? ⟨g, i * 3 + 1, none⟩ = some (.slice q bl c2)) (q2 : ((w.alloc (.cells #[.int .i64 4, .int .i64 h, .int .i64 off, .int .i64 n] 39)).alloc (.cells #[.int .i64 0, .int .i64 0] 35)).cell? ⟨g, i * 3 + 2, none⟩ = some (.int .i64 pins)) (hp : pins = 7) :
    Calls Try.prog 14 #[.pointer (some ⟨k, 0, none⟩), .agg #[.int .i64 4, .int .i64 h, .int .i64 off, .int .i64 n]] w (Ret w (.tuple #[.agg #[.int .i64 7, .int .i64 0], .bool true])) := by
  have co := fun W => refOf_any 7 W
  have i1 : (i : Int) < len := by omega
  have i0 : (0 : Int) ≤ i := by omega
  subst hp
  go_enter Try.func14, Try.ntmps14
  go_wp2_with (first
    | (go_at_call 34; (with_reducible refine cf.mono ?_); rintro _ _ ⟨rfl, rfl⟩)
    | (go_at_call 33; (with_reducible refine (co _).mono ?_); rintro _ _ ⟨rfl, z, rfl⟩))
  refine bodyPost_ret (v := .tuple #[.agg #[.int .i64 7, .int .i64 0], .bool true]) (by simp [results, Try.results14, go_sem]) rfl (Ret.mk rfl ?_)
  first | exact (((((Below.refl _ w).alloc (Nat.le_refl _) _).alloc (by simp) _).alloc (by simp; omega) _).trans (z.below.mono (by simp; omega))) | exact Below.setCell (Below.setCell (((((Below.refl _ w).alloc (Nat.le_refl _) _).alloc (by simp) _).alloc (by simp; omega) _).trans (z.below.mono (by simp; omega))) (by simp) _) (by simp) _ | exact Below.setCell (((((Below.refl _ w).alloc (Nat.le_refl _) _).alloc (by simp) _).alloc (by simp; omega) _).trans (z.below.mono (by simp; omega))) (by simp) _

set_option maxHeartbeats 1000000 in
theorem refAns_p0 {w : World} {k : Nat} (h off n : Int) {i g len c c2 : Nat} {q : Option Addr} {bl : Nat} {pins : Int} (hi : i < len) (hlen : len ≤ 1000) (hbl : bl ≤ 256)
    (cf : Calls Try.prog 34 #[.pointer (some ⟨k, 0, none⟩), .int .i64 h] ((w.alloc (.cells #[.int .i64 4, .int .i64 h, .int .i64 off, .int .i64 n] 39)).alloc (.cells #[.int .i64 0, .int .i64 0] 35)) (fun en w' => en = .returned (.int .i64 (i : Int)) ∧ ((w.alloc (.cells #[.int .i64 4, .int .i64 h, .int .i64 off, .int .i64 n] 39)).alloc (.cells #[.int .i64 0, .int .i64 0] 35)) = w'))
    (k0 : ((w.alloc (.cells #[.int .i64 4, .int .i64 h, .int .i64 off, .int .i64 n] 39)).alloc (.cells #[.int .i64 0, .int .i64 0] 35)).cell? ⟨k, 0, none⟩ = some (.slice (some ⟨g, 0, none⟩) len c)) (q0 : ((w.alloc (.cells #[.int .i64 4, .int .i64 h, .int .i64 off, .int .i64 n] 39)).alloc (.cells #[.int .i64 0, .int .i64 0] 35)).cell? ⟨g, i * 3, none⟩ = some (.int .i64 h)) (q1 : ((w.alloc (.cells #[.int .i64 4, .int .i64 h, .int .i64 off, .int .i64 n] 39)).alloc (.cells #[.int .i64 0, .int .i64 0] 35)).cell? ⟨g, i * 3 + 1, none⟩ = some (.slice q bl c2)) (q2 : ((w.alloc (.cells #[.int .i64 4, .int .i64 h, .int .i64 off, .int .i64 n] 39)).alloc (.cells #[.int .i64 0, .int .i64 0] 35)).cell? ⟨g, i * 3 + 2, none⟩ = some (.int .i64 pins)) (hp : ¬ pins = 7) :
    Calls Try.prog 14 #[.pointer (some ⟨k, 0, none⟩), .agg #[.int .i64 4, .int .i64 h, .int .i64 off, .int .i64 n]] w (Ret w (.tuple #[.agg #[.int .i64 0, .int .i64 0], .bool true])) := by
  have i1 : (i : Int) < len := by omega
  have i0 : (0 : Int) ≤ i := by omega
  have hp' : (pins == 7) = false := by simpa using hp
  go_enter Try.func14, Try.ntmps14
  go_wp2_with (first
    | (go_at_call 34; (with_reducible refine cf.mono ?_); rintro _ _ ⟨rfl, rfl⟩)
    | (go_at_call 33; (with_reducible refine (co _).mono ?_); rintro _ _ ⟨rfl, z, rfl⟩))
  refine bodyPost_ret (v := .tuple #[.agg #[.int .i64 0, .int .i64 0], .bool true]) (by simp [results, Try.results14, go_sem]) rfl (Ret.mk rfl ?_)
  first | exact ((((Below.refl _ w).alloc (Nat.le_refl _) _).alloc (by simp) _).alloc (by simp; omega) _) | exact Below.setCell (Below.setCell ((((Below.refl _ w).alloc (Nat.le_refl _) _).alloc (by simp) _).alloc (by simp; omega) _) (by simp) _) (by simp) _ | exact Below.setCell ((((Below.refl _ w).alloc (Nat.le_refl _) _).alloc (by simp) _).alloc (by simp; omega) _) (by simp) _

set_option maxHeartbeats 1000000 in
theorem refAns_u8 {w : World} {k : Nat} (h off n : Int) {i g len c c2 : Nat} {q : Option Addr} {bl : Nat} {pins : Int} (hi : i < len) (hlen : len ≤ 1000) (hbl : bl ≤ 256)
    (cf : Calls Try.prog 34 #[.pointer (some ⟨k, 0, none⟩), .int .i64 h] ((w.alloc (.cells #[.int .i64 5, .int .i64 h, .int .i64 off, .int .i64 n] 39)).alloc (.cells #[.int .i64 0, .int .i64 0] 35)) (fun en w' => en = .returned (.int .i64 (i : Int)) ∧ ((w.alloc (.cells #[.int .i64 5, .int .i64 h, .int .i64 off, .int .i64 n] 39)).alloc (.cells #[.int .i64 0, .int .i64 0] 35)) = w'))
    (k0 : ((w.alloc (.cells #[.int .i64 5, .int .i64 h, .int .i64 off, .int .i64 n] 39)).alloc (.cells #[.int .i64 0, .int .i64 0] 35)).cell? ⟨k, 0, none⟩ = some (.slice (some ⟨g, 0, none⟩) len c)) (q0 : ((w.alloc (.cells #[.int .i64 5, .int .i64 h, .int .i64 off, .int .i64 n] 39)).alloc (.cells #[.int .i64 0, .int .i64 0] 35)).cell? ⟨g, i * 3, none⟩ = some (.int .i64 h)) (q1 : ((w.alloc (.cells #[.int .i64 5, .int .i64 h, .int .i64 off, .int .i64 n] 39)).alloc (.cells #[.int .i64 0, .int .i64 0] 35)).cell? ⟨g, i * 3 + 1, none⟩ = some (.slice q bl c2)) (q2 : ((w.alloc (.cells #[.int .i64 5, .int .i64 h, .int .i64 off, .int .i64 n] 39)).alloc (.cells #[.int .i64 0, .int .i64 0] 35)).cell? ⟨g, i * 3 + 2, none⟩ = some (.int .i64 pins)) (hp : pins = 0) :
    Calls Try.prog 14 #[.pointer (some ⟨k, 0, none⟩), .agg #[.int .i64 5, .int .i64 h, .int .i64 off, .int .i64 n]] w (Ret w (.tuple #[.agg #[.int .i64 8, .int .i64 0], .bool true])) := by
  have co := fun W => refOf_any 8 W
  have i1 : (i : Int) < len := by omega
  have i0 : (0 : Int) ≤ i := by omega
  subst hp
  go_enter Try.func14, Try.ntmps14
  go_wp2_with (first
    | (go_at_call 34; (with_reducible refine cf.mono ?_); rintro _ _ ⟨rfl, rfl⟩)
    | (go_at_call 33; (with_reducible refine (co _).mono ?_); rintro _ _ ⟨rfl, z, rfl⟩))
  refine bodyPost_ret (v := .tuple #[.agg #[.int .i64 8, .int .i64 0], .bool true]) (by simp [results, Try.results14, go_sem]) rfl (Ret.mk rfl ?_)
  first | exact (((((Below.refl _ w).alloc (Nat.le_refl _) _).alloc (by simp) _).alloc (by simp; omega) _).trans (z.below.mono (by simp; omega))) | exact Below.setCell (Below.setCell (((((Below.refl _ w).alloc (Nat.le_refl _) _).alloc (by simp) _).alloc (by simp; omega) _).trans (z.below.mono (by simp; omega))) (by simp) _) (by simp) _ | exact Below.setCell (((((Below.refl _ w).alloc (Nat.le_refl _) _).alloc (by simp) _).alloc (by simp; omega) _).trans (z.below.mono (by simp; omega))) (by simp) _

set_option maxHeartbeats 1000000 in
theorem refAns_u0 {w : World} {k : Nat} (h off n : Int) {i g len c c2 : Nat} {q : Option Addr} {bl : Nat} {pins : Int} (hi : i < len) (hlen : len ≤ 1000) (hbl : bl ≤ 256)
    (cf : Calls Try.prog 34 #[.pointer (some ⟨k, 0, none⟩), .int .i64 h] ((w.alloc (.cells #[.int .i64 5, .int .i64 h, .int .i64 off, .int .i64 n] 39)).alloc (.cells #[.int .i64 0, .int .i64 0] 35)) (fun en w' => en = .returned (.int .i64 (i : Int)) ∧ ((w.alloc (.cells #[.int .i64 5, .int .i64 h, .int .i64 off, .int .i64 n] 39)).alloc (.cells #[.int .i64 0, .int .i64 0] 35)) = w'))
    (k0 : ((w.alloc (.cells #[.int .i64 5, .int .i64 h, .int .i64 off, .int .i64 n] 39)).alloc (.cells #[.int .i64 0, .int .i64 0] 35)).cell? ⟨k, 0, none⟩ = some (.slice (some ⟨g, 0, none⟩) len c)) (q0 : ((w.alloc (.cells #[.int .i64 5, .int .i64 h, .int .i64 off, .int .i64 n] 39)).alloc (.cells #[.int .i64 0, .int .i64 0] 35)).cell? ⟨g, i * 3, none⟩ = some (.int .i64 h)) (q1 : ((w.alloc (.cells #[.int .i64 5, .int .i64 h, .int .i64 off, .int .i64 n] 39)).alloc (.cells #[.int .i64 0, .int .i64 0] 35)).cell? ⟨g, i * 3 + 1, none⟩ = some (.slice q bl c2)) (q2 : ((w.alloc (.cells #[.int .i64 5, .int .i64 h, .int .i64 off, .int .i64 n] 39)).alloc (.cells #[.int .i64 0, .int .i64 0] 35)).cell? ⟨g, i * 3 + 2, none⟩ = some (.int .i64 pins)) (hp : ¬ pins = 0) :
    Calls Try.prog 14 #[.pointer (some ⟨k, 0, none⟩), .agg #[.int .i64 5, .int .i64 h, .int .i64 off, .int .i64 n]] w (Ret w (.tuple #[.agg #[.int .i64 0, .int .i64 0], .bool true])) := by
  have i1 : (i : Int) < len := by omega
  have i0 : (0 : Int) ≤ i := by omega
  have hp' : (pins == 0) = false := by simpa using hp
  go_enter Try.func14, Try.ntmps14
  go_wp2_with (first
    | (go_at_call 34; (with_reducible refine cf.mono ?_); rintro _ _ ⟨rfl, rfl⟩)
    | (go_at_call 33; (with_reducible refine (co _).mono ?_); rintro _ _ ⟨rfl, z, rfl⟩))
  refine bodyPost_ret (v := .tuple #[.agg #[.int .i64 0, .int .i64 0], .bool true]) (by simp [results, Try.results14, go_sem]) rfl (Ret.mk rfl ?_)
  first | exact ((((Below.refl _ w).alloc (Nat.le_refl _) _).alloc (by simp) _).alloc (by simp; omega) _) | exact Below.setCell (Below.setCell ((((Below.refl _ w).alloc (Nat.le_refl _) _).alloc (by simp) _).alloc (by simp; omega) _) (by simp) _) (by simp) _ | exact Below.setCell ((((Below.refl _ w).alloc (Nat.le_refl _) _).alloc (by simp) _).alloc (by simp; omega) _) (by simp) _

set_option maxHeartbeats 1000000 in
theorem refAns_bad1 {w : World} {k : Nat} (h off n : Int) (hn : n < 1) :
    Calls Try.prog 14 #[.pointer (some ⟨k, 0, none⟩), .agg #[.int .i64 0, .int .i64 h, .int .i64 off, .int .i64 n]] w (Ret w (.tuple #[.agg #[.int .i64 9, .int .i64 0], .bool true])) := by
  have co := fun W => refOf_any 9 W
  go_enter Try.func14, Try.ntmps14
  go_wp2_with (first
    | (go_at_call 34; (with_reducible refine cf.mono ?_); rintro _ _ ⟨rfl, rfl⟩)
    | (go_at_call 33; (with_reducible refine (co _).mono ?_); rintro _ _ ⟨rfl, z, rfl⟩))
  refine bodyPost_ret (v := .tuple #[.agg #[.int .i64 9, .int .i64 0], .bool true]) (by simp [results, Try.results14, go_sem]) rfl (Ret.mk rfl ?_)
  first | exact ((((Below.refl _ w).alloc (Nat.le_refl _) _).alloc (by simp) _).trans (z.below.mono (by simp; omega))) | exact Below.setCell (Below.setCell ((((Below.refl _ w).alloc (Nat.le_refl _) _).alloc (by simp) _).trans (z.below.mono (by simp; omega))) (by simp) _) (by simp) _ | exact Below.setCell ((((Below.refl _ w).alloc (Nat.le_refl _) _).alloc (by simp) _).trans (z.below.mono (by simp; omega))) (by simp) _

set_option maxHeartbeats 1000000 in
theorem refAns_bad2 {w : World} {k : Nat} (h off n : Int) (hn : ¬ n < 1) (hn2 : 256 < n) :
    Calls Try.prog 14 #[.pointer (some ⟨k, 0, none⟩), .agg #[.int .i64 0, .int .i64 h, .int .i64 off, .int .i64 n]] w (Ret w (.tuple #[.agg #[.int .i64 9, .int .i64 0], .bool true])) := by
  have co := fun W => refOf_any 9 W
  go_enter Try.func14, Try.ntmps14
  go_wp2_with (first
    | (go_at_call 34; (with_reducible refine cf.mono ?_); rintro _ _ ⟨rfl, rfl⟩)
    | (go_at_call 33; (with_reducible refine (co _).mono ?_); rintro _ _ ⟨rfl, z, rfl⟩))
  refine bodyPost_ret (v := .tuple #[.agg #[.int .i64 9, .int .i64 0], .bool true]) (by simp [results, Try.results14, go_sem]) rfl (Ret.mk rfl ?_)
  first | exact ((((Below.refl _ w).alloc (Nat.le_refl _) _).alloc (by simp) _).trans (z.below.mono (by simp; omega))) | exact Below.setCell (Below.setCell ((((Below.refl _ w).alloc (Nat.le_refl _) _).alloc (by simp) _).trans (z.below.mono (by simp; omega))) (by simp) _) (by simp) _ | exact Below.setCell ((((Below.refl _ w).alloc (Nat.le_refl _) _).alloc (by simp) _).trans (z.below.mono (by simp; omega))) (by simp) _

set_option maxHeartbeats 1000000 in
theorem refAns_ok {w : World} {k : Nat} (h off n : Int) (hn : ¬ n < 1) (hn2 : ¬ 256 < n) :
    Calls Try.prog 14 #[.pointer (some ⟨k, 0, none⟩), .agg #[.int .i64 0, .int .i64 h, .int .i64 off, .int .i64 n]] w (Ret w (.tuple #[.agg #[.int .i64 0, .int .i64 0], .bool false])) := by
  go_enter Try.func14, Try.ntmps14
  go_wp2_with (first
    | (go_at_call 34; (with_reducible refine cf.mono ?_); rintro _ _ ⟨rfl, rfl⟩)
    | (go_at_call 33; (with_reducible refine (co _).mono ?_); rintro _ _ ⟨rfl, z, rfl⟩))
  refine bodyPost_ret (v := .tuple #[.agg #[.int .i64 0, .int .i64 0], .bool false]) (by simp [results, Try.results14, go_sem]) rfl (Ret.mk rfl ?_)
  first | exact (((Below.refl _ w).alloc (Nat.le_refl _) _).alloc (by simp) _) | exact Below.setCell (Below.setCell (((Below.refl _ w).alloc (Nat.le_refl _) _).alloc (by simp) _) (by simp) _) (by simp) _ | exact Below.setCell (((Below.refl _ w).alloc (Nat.le_refl _) _).alloc (by simp) _) (by simp) _

set_option maxHeartbeats 1000000 in
theorem refAns_odd1 {w : World} {k : Nat} (h off n : Int) {d : Int} (hd : d < 0) :
    Calls Try.prog 14 #[.pointer (some ⟨k, 0, none⟩), .agg #[.int .i64 d, .int .i64 h, .int .i64 off, .int .i64 n]] w (Ret w (.tuple #[.agg #[.int .i64 1, .int .i64 0], .bool true])) := by
  have co := fun W => refOf_any 1 W
  have e0 : (d == 0) = false := by simpa using (by omega : ¬ d = 0)
  go_enter Try.func14, Try.ntmps14
  go_wp2_with (first
    | (go_at_call 34; (with_reducible refine cf.mono ?_); rintro _ _ ⟨rfl, rfl⟩)
    | (go_at_call 33; (with_reducible refine (co _).mono ?_); rintro _ _ ⟨rfl, z, rfl⟩))
  refine bodyPost_ret (v := .tuple #[.agg #[.int .i64 1, .int .i64 0], .bool true]) (by simp [results, Try.results14, go_sem]) rfl (Ret.mk rfl ?_)
  first | exact ((((Below.refl _ w).alloc (Nat.le_refl _) _).alloc (by simp) _).trans (z.below.mono (by simp; omega))) | exact Below.setCell (Below.setCell ((((Below.refl _ w).alloc (Nat.le_refl _) _).alloc (by simp) _).trans (z.below.mono (by simp; omega))) (by simp) _) (by simp) _ | exact Below.setCell ((((Below.refl _ w).alloc (Nat.le_refl _) _).alloc (by simp) _).trans (z.below.mono (by simp; omega))) (by simp) _

set_option maxHeartbeats 1000000 in
theorem refAns_odd2 {w : World} {k : Nat} (h off n : Int) {d : Int} (hd : ¬ d < 0) (hd2 : 5 < d) :
    Calls Try.prog 14 #[.pointer (some ⟨k, 0, none⟩), .agg #[.int .i64 d, .int .i64 h, .int .i64 off, .int .i64 n]] w (Ret w (.tuple #[.agg #[.int .i64 1, .int .i64 0], .bool true])) := by
  have co := fun W => refOf_any 1 W
  have e0 : (d == 0) = false := by simpa using (by omega : ¬ d = 0)
  go_enter Try.func14, Try.ntmps14
  go_wp2_with (first
    | (go_at_call 34; (with_reducible refine cf.mono ?_); rintro _ _ ⟨rfl, rfl⟩)
    | (go_at_call 33; (with_reducible refine (co _).mono ?_); rintro _ _ ⟨rfl, z, rfl⟩))
  refine bodyPost_ret (v := .tuple #[.agg #[.int .i64 1, .int .i64 0], .bool true]) (by simp [results, Try.results14, go_sem]) rfl (Ret.mk rfl ?_)
  first | exact ((((Below.refl _ w).alloc (Nat.le_refl _) _).alloc (by simp) _).trans (z.below.mono (by simp; omega))) | exact Below.setCell (Below.setCell ((((Below.refl _ w).alloc (Nat.le_refl _) _).alloc (by simp) _).trans (z.below.mono (by simp; omega))) (by simp) _) (by simp) _ | exact Below.setCell ((((Below.refl _ w).alloc (Nat.le_refl _) _).alloc (by simp) _).trans (z.below.mono (by simp; omega))) (by simp) _

set_option maxHeartbeats 1000000 in
theorem refAns_none {w : World} {k : Nat} (h off n : Int) {d : Int} (hd : ¬ d < 0) (hd2 : ¬ 5 < d) (hd3 : ¬ d = 0)
    (cf : Calls Try.prog 34 #[.pointer (some ⟨k, 0, none⟩), .int .i64 h] ((w.alloc (.cells #[.int .i64 d, .int .i64 h, .int .i64 off, .int .i64 n] 39)).alloc (.cells #[.int .i64 0, .int .i64 0] 35)) (fun en w' => en = .returned (.int .i64 (-1)) ∧ ((w.alloc (.cells #[.int .i64 d, .int .i64 h, .int .i64 off, .int .i64 n] 39)).alloc (.cells #[.int .i64 0, .int .i64 0] 35)) = w')) :
    Calls Try.prog 14 #[.pointer (some ⟨k, 0, none⟩), .agg #[.int .i64 d, .int .i64 h, .int .i64 off, .int .i64 n]] w (Ret w (.tuple #[.agg #[.int .i64 4, .int .i64 0], .bool true])) := by
  have co := fun W => refOf_any 4 W
  have e0 : (d == 0) = false := by simpa using hd3
  go_enter Try.func14, Try.ntmps14
  go_wp2_with (first
    | (go_at_call 34; (with_reducible refine cf.mono ?_); rintro _ _ ⟨rfl, rfl⟩)
    | (go_at_call 33; (with_reducible refine (co _).mono ?_); rintro _ _ ⟨rfl, z, rfl⟩))
  refine bodyPost_ret (v := .tuple #[.agg #[.int .i64 4, .int .i64 0], .bool true]) (by simp [results, Try.results14, go_sem]) rfl (Ret.mk rfl ?_)
  first | exact ((((Below.refl _ w).alloc (Nat.le_refl _) _).alloc (by simp) _).trans (z.below.mono (by simp; omega))) | exact Below.setCell (Below.setCell ((((Below.refl _ w).alloc (Nat.le_refl _) _).alloc (by simp) _).trans (z.below.mono (by simp; omega))) (by simp) _) (by simp) _ | exact Below.setCell ((((Below.refl _ w).alloc (Nat.le_refl _) _).alloc (by simp) _).trans (z.below.mono (by simp; omega))) (by simp) _
end Go.Proofs.Ytlcegnehlhakdaa
