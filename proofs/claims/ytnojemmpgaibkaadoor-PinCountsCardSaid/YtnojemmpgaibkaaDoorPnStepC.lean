/-
  A machine that pins, or unpins, an object: a step of it, New, and many steps alone.
  Conditions: none but that the machine and plain cells lie there, and the tables read as they are laid.
-/
import Derived.Test.YtnojemmpgaibkaaDoorPnStepB
import Derived.Test.YtnojemmpgaibkaaDoorRv
namespace Go.Proofs.YtnojemmpgaibkaaDoor
open Go.RowKit
attribute [local go_sem] Later.cell Later.frozen Later.lt Later.le Turned.cell_lo Turned.cell_hi Turned.frozen_lo Turned.frozen_hi Turned.lt Turned.le
set_option linter.unusedVariables false
set_option linter.unusedSimpArgs false

section
variable {A : PAt} {ws bs : List Int} {n : Int} {w W : World} {k : Nat} {t s : Int} {M : Pm}
theorem pdo_any (h : 1 ≤ M.step ∧ M.step ≤ 2) (hS : ESeat w A k t s) (hM : Mem w A ws bs n) (hP : Fs w k (pmL t s M)) :
    Calls Tryd.prog 55 #[.pointer (some ⟨k, 0, none⟩), ifc A] w (SRet A k w (.tuple #[]) (pmL t s (pmO t s M ws)) (pmW t s M ws) (bs)) := by
  have c6 : w.cell? ⟨k, 7, none⟩ = some (.int .i64 M.step) := hP.at' 7 rfl
  have hcs : M.step = 1 ∨ M.step = 2 := by omega
  rcases hcs with h1 | h1
  · rw [(pmO_1 h1).1, (pmO_1 h1).2]
    have hc := ple_any _ rfl hS hM hP
    rw [h1] at c6
    revert hc
    generalize pm1 (atI ws (partN t s M.slot 0)) M = M'
    skip
    intro hc
    clear hP hM hS h1 h
    unfold ifc at *
    go_enter Tryd.func55, Tryd.ntmps55
    go_wp2_with (go_at_call 76; (with_reducible refine hc.mono ?_); rintro _ w1 ⟨rfl, hV, hM1, hP1⟩)
    first | go_end0 | refine bodyPost_ret (results_none rfl _ _ _) rfl ?_
    exact ⟨rfl, hV, hM1, hP1⟩
  · rw [(pmO_2 h1).1, (pmO_2 h1).2]
    have hc := pce_any hS hM hP
    rw [h1] at c6
    revert hc
    generalize pm2 (casB ws (partN t s M.slot 0) M.word) M = M'
    skip
    intro hc
    clear hP hM hS h1 h
    unfold ifc at *
    go_enter Tryd.func55, Tryd.ntmps55
    go_wp2_with (go_at_call 77; (with_reducible refine hc.mono ?_); rintro _ w1 ⟨rfl, hV, hM1, hP1⟩)
    first | go_end0 | refine bodyPost_ret (results_none rfl _ _ _) rfl ?_
    exact ⟨rfl, hV, hM1, hP1⟩

theorem pstep_nil (m : Value) (w : World) : Calls Tryd.prog 32 #[.pointer none, m] w (Ret w (.tuple #[.agg #[.int .i64 1, .int .i64 0], .bool true])) := by
  go_enter Tryd.func32, Tryd.ntmps32
  go_wp2
  refine bodyPost_ret (v := .tuple #[.agg #[.int .i64 1, .int .i64 0], .bool true]) (by simp [results, Tryd.results32, go_sem]) rfl ?_
  exact Ret.mk rfl ((Below.refl _ _).alloc (Nat.le_refl _) _)
theorem pstep_none (a : Addr) (w : World) : Calls Tryd.prog 32 #[.pointer (some a), .nilIface] w (Ret w (.tuple #[.agg #[.int .i64 1, .int .i64 0], .bool true])) := by
  go_enter Tryd.func32, Tryd.ntmps32
  go_wp2
  refine bodyPost_ret (v := .tuple #[.agg #[.int .i64 1, .int .i64 0], .bool true]) (by simp [results, Tryd.results32, go_sem]) rfl ?_
  exact Ret.mk rfl ((Below.refl _ _).alloc (Nat.le_refl _) _)
set_option maxHeartbeats 4000000 in
theorem pstep_any (h : 0 ≤ M.step ∧ M.step ≤ 2) (hS : ESeat w A k t s) (hM : Mem w A ws bs n) (hP : Fs w k (pmL t s M)) :
    Calls Tryd.prog 32 #[.pointer (some ⟨k, 0, none⟩), ifc A] w (SRet A k w (.tuple #[.agg #[.int .i64 (pmT M (pmO t s M ws)).1, .int .i64 0], .bool (pmT M (pmO t s M ws)).2]) (pmL t s (pmO t s M ws)) (pmW t s M ws) (bs)) := by
  have c6 : w.cell? ⟨k, 7, none⟩ = some (.int .i64 M.step) := hP.at' 7 rfl
  have hk := hS.hk
  have hlt := hP.lt
  by_cases h0 : M.step = 0
  · rw [(pmO_0 h0).1, (pmO_0 h0).2]
    have eT : pmT M M = (1, true) := if_pos h0
    rw [eT]
    rw [h0] at c6
    have hPa := hP.alloc (.cells #[.int .i64 1, .int .i64 0] 41)
    have hMa := hM.alloc (.cells #[.int .i64 1, .int .i64 0] 41)
    clear eT h0 hS h hP hM
    unfold ifc
    go_enter Tryd.func32, Tryd.ntmps32
    go_wp2
    refine bodyPost_ret (v := .tuple #[.agg #[.int .i64 1, .int .i64 0], .bool true]) (by simp [results, Tryd.results32, go_sem]) rfl ?_
    exact ⟨rfl, (Moved.refl _ _).alloc _, ⟨n, hMa⟩, hPa⟩
  · have hSa := hS.alloc (.cells #[.int .i64 0, .int .i64 0] 41)
    have hMa := hM.alloc (.cells #[.int .i64 0, .int .i64 0] 41)
    have hPa := hP.alloc (.cells #[.int .i64 0, .int .i64 0] 41)
    have hRa : Fs (w.alloc (.cells #[.int .i64 0, .int .i64 0] 41)) w.heap.size [.int .i64 0, .int .i64 0] := Fs.new' _ _ rfl rfl
    have hd2 := pdo_any (by omega) hSa hMa hPa
    have HS := hM.hs
    have eT : pmT M (pmO t s M ws) = if (pmO t s M ws).step = 0 then ((pmO t s M ws).code, true) else (0, false) := if_neg h0
    rw [eT]
    revert hd2
    generalize pmO t s M ws = M'
    generalize pmW t s M ws = ws'
    skip
    intro hd2
    clear hSa hMa hS hP hM eT
    unfold ifc at *
    have hne : (M.step == 0) = false := by simpa using h0
    by_cases h1 : M'.step = 0
    · rw [if_pos h1]
      go_enter Tryd.func32, Tryd.ntmps32
      go_wp2_with (go_at_call 55; (with_reducible refine hd2.mono ?_); rintro _ w1 ⟨rfl, hV, hM1, hP1⟩; have d6 : w1.cell? ⟨k, 7, none⟩ = some (.int .i64 0) := h1 ▸ hP1.at' 7 rfl; have d10 := hP1.at' 10 rfl; have hR1 := hRa.moved hV (spanS_not (Or.inr HS) (by omega)); have r0 := hR1.at' 0 rfl; have r1 := hR1.at' 1 rfl; have q0 := hR1.fz 0; have q1 := hR1.fz 1)
      have hP2 := (hP1.other ⟨w.heap.size, 0, none⟩ (.int .i64 M'.code) (by show w.heap.size ≠ k; omega)).other ⟨w.heap.size, 1, none⟩ (.int .i64 0) (by show w.heap.size ≠ k; omega)
      have hM2 := hM1.imp fun _ m => (m.setOther ⟨w.heap.size, 0, none⟩ (.int .i64 M'.code) (Or.inr HS)).setOther ⟨w.heap.size, 1, none⟩ (.int .i64 0) (Or.inr HS)
      have hV2 := (((((Moved.refl (spanS A k) w).alloc (.cells #[.int .i64 0, .int .i64 0] 41)).trans hV).setNew ⟨w.heap.size, 0, none⟩ (.int .i64 M'.code) (Nat.le_refl _)).setNew ⟨w.heap.size, 1, none⟩ (.int .i64 0) (Nat.le_refl _))
      have hR2 := (hR1.set 0 (by simp) (.int .i64 M'.code)).set 1 (by simp) (.int .i64 0)
      generalize (w1.setCell ⟨w.heap.size, 0, none⟩ (.int .i64 M'.code)).setCell ⟨w.heap.size, 1, none⟩ (.int .i64 0) = W2 at hP2 hM2 hV2 hR2 ⊢
      have e0 : W2.cell? ⟨w.heap.size, 0, none⟩ = some (.int .i64 M'.code) := hR2.at' 0 rfl
      have e1 : W2.cell? ⟨w.heap.size, 1, none⟩ = some (.int .i64 0) := hR2.at' 1 rfl
      refine bodyPost_ret (v := .tuple #[.agg #[.int .i64 M'.code, .int .i64 0], .bool true]) (by simp [results, Tryd.results32, go_sem, e0, e1]) rfl ?_
      exact ⟨rfl, hV2, hM2, hP2⟩
    · rw [if_neg h1]
      have hne1 : (M'.step == 0) = false := by simpa using h1
      have hne2 : (M'.step != 0) = true := by simp [h1]
      go_enter Tryd.func32, Tryd.ntmps32
      go_wp2_with (go_at_call 55; (with_reducible refine hd2.mono ?_); rintro _ w1 ⟨rfl, hV, hM1, hP1⟩; have d6 : w1.cell? ⟨k, 7, none⟩ = some (.int .i64 M'.step) := hP1.at' 7 rfl; have hR1 := hRa.moved hV (spanS_not (Or.inr HS) (by omega)); have r0 := hR1.at' 0 rfl; have r1 := hR1.at' 1 rfl; have q0 := hR1.fz 0; have q1 := hR1.fz 1)
      have hP2 := (hP1.other ⟨w.heap.size, 0, none⟩ (.int .i64 0) (by show w.heap.size ≠ k; omega)).other ⟨w.heap.size, 1, none⟩ (.int .i64 0) (by show w.heap.size ≠ k; omega)
      have hM2 := hM1.imp fun _ m => (m.setOther ⟨w.heap.size, 0, none⟩ (.int .i64 0) (Or.inr HS)).setOther ⟨w.heap.size, 1, none⟩ (.int .i64 0) (Or.inr HS)
      have hV2 := (((((Moved.refl (spanS A k) w).alloc (.cells #[.int .i64 0, .int .i64 0] 41)).trans hV).setNew ⟨w.heap.size, 0, none⟩ (.int .i64 0) (Nat.le_refl _)).setNew ⟨w.heap.size, 1, none⟩ (.int .i64 0) (Nat.le_refl _))
      have hR2 := (hR1.set 0 (by simp) (.int .i64 0)).set 1 (by simp) (.int .i64 0)
      generalize (w1.setCell ⟨w.heap.size, 0, none⟩ (.int .i64 0)).setCell ⟨w.heap.size, 1, none⟩ (.int .i64 0) = W2 at hP2 hM2 hV2 hR2 ⊢
      have e0 : W2.cell? ⟨w.heap.size, 0, none⟩ = some (.int .i64 0) := hR2.at' 0 rfl
      have e1 : W2.cell? ⟨w.heap.size, 1, none⟩ = some (.int .i64 0) := hR2.at' 1 rfl
      refine bodyPost_ret (v := .tuple #[.agg #[.int .i64 0, .int .i64 0], .bool false]) (by simp [results, Tryd.results32, go_sem, e0, e1]) rfl ?_
      exact ⟨rfl, hV2, hM2, hP2⟩
end
end Go.Proofs.YtnojemmpgaibkaaDoor
