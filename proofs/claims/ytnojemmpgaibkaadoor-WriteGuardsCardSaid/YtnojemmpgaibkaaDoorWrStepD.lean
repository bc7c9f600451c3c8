/-
  A machine that writes a byte: a step of it, New, and many steps alone.
  Conditions: none but that the machine and plain cells lie there, and the tables read as they are laid.
-/
import Derived.Test.YtnojemmpgaibkaaDoorWrStepC
import Derived.Test.YtnojemmpgaibkaaDoorRv
namespace Go.Proofs.YtnojemmpgaibkaaDoor
open Go.RowKit
attribute [local go_sem] Later.cell Later.frozen Later.lt Later.le Turned.cell_lo Turned.cell_hi Turned.frozen_lo Turned.frozen_hi Turned.lt Turned.le
set_option linter.unusedVariables false
set_option linter.unusedSimpArgs false

section
variable {A : PAt} {ws bs : List Int} {n : Int} {w W : World} {k : Nat} {t s : Int} {M : Wm}
theorem wdo_any (h : 1 ≤ M.step ∧ M.step ≤ 6) (hS : ESeat w A k t s) (hM : Mem w A ws bs n) (hP : Fs w k (wmL t s M)) :
    Calls Tryd.prog 48 #[.pointer (some ⟨k, 0, none⟩), ifc A] w (SRet A k w (.tuple #[]) (wmL t s (wmO t s M ws bs)) (wmW t s M ws) (wmB M bs)) := by
  have c6 : w.cell? ⟨k, 7, none⟩ = some (.int .i64 M.step) := hP.at' 7 rfl
  have hcs : M.step = 1 ∨ M.step = 2 ∨ M.step = 3 ∨ M.step = 4 ∨ M.step = 5 ∨ M.step = 6 := by omega
  rcases hcs with h1 | h1 | h1 | h1 | h1 | h1
  · rw [(wmO_1 h1).1, (wmO_1 (bs := bs) h1).2.1, (wmO_1 (t := t) (s := s) (ws := ws) h1).2.2]
    have hc := wle_any _ rfl hS hM hP
    rw [h1] at c6
    revert hc
    generalize wm1 (atI ws (partN t s M.slot 0)) M = M'
    skip
    intro hc
    clear hP hM hS h1 h
    unfold ifc at *
    go_enter Tryd.func48, Tryd.ntmps48
    go_wp2_with (go_at_call 67; (with_reducible refine hc.mono ?_); rintro _ w1 ⟨rfl, hV, hM1, hP1⟩)
    first | go_end0 | refine bodyPost_ret (results_none rfl _ _ _) rfl ?_
    exact ⟨rfl, hV, hM1, hP1⟩
  · rw [(wmO_2 h1).1, (wmO_2 (bs := bs) h1).2.1, (wmO_2 (t := t) (s := s) (ws := ws) h1).2.2]
    have hc := wtg_any hS hM hP
    rw [h1] at c6
    revert hc
    generalize wm2 (casB ws (partN t s M.slot 0) M.word) M = M'
    skip
    intro hc
    clear hP hM hS h1 h
    unfold ifc at *
    go_enter Tryd.func48, Tryd.ntmps48
    go_wp2_with (go_at_call 68; (with_reducible refine hc.mono ?_); rintro _ w1 ⟨rfl, hV, hM1, hP1⟩)
    first | go_end0 | refine bodyPost_ret (results_none rfl _ _ _) rfl ?_
    exact ⟨rfl, hV, hM1, hP1⟩
  · rw [(wmO_3 h1).1, (wmO_3 (bs := bs) h1).2.1, (wmO_3 (t := t) (s := s) (ws := ws) h1).2.2]
    have hc := wls_any _ rfl hS hM hP
    rw [h1] at c6
    revert hc
    generalize wm3 (atI ws (partN t s M.slot 1)) M = M'
    skip
    intro hc
    clear hP hM hS h1 h
    unfold ifc at *
    go_enter Tryd.func48, Tryd.ntmps48
    go_wp2_with (go_at_call 69; (with_reducible refine hc.mono ?_); rintro _ w1 ⟨rfl, hV, hM1, hP1⟩)
    first | go_end0 | refine bodyPost_ret (results_none rfl _ _ _) rfl ?_
    exact ⟨rfl, hV, hM1, hP1⟩
  · rw [(wmO_4 h1).1, (wmO_4 (bs := bs) h1).2.1, (wmO_4 (t := t) (s := s) (ws := ws) h1).2.2]
    have hc := wsb_any hS hM hP
    rw [h1] at c6
    revert hc
    generalize wm4 M = M'
    skip
    intro hc
    clear hP hM hS h1 h
    unfold ifc at *
    go_enter Tryd.func48, Tryd.ntmps48
    go_wp2_with (go_at_call 70; (with_reducible refine hc.mono ?_); rintro _ w1 ⟨rfl, hV, hM1, hP1⟩)
    first | go_end0 | refine bodyPost_ret (results_none rfl _ _ _) rfl ?_
    exact ⟨rfl, hV, hM1, hP1⟩
  · rw [(wmO_5 h1).1, (wmO_5 (bs := bs) h1).2.1, (wmO_5 (t := t) (s := s) (ws := ws) h1).2.2]
    have hc := wla_any _ rfl hS hM hP
    rw [h1] at c6
    revert hc
    generalize wm5 (atI ws (partN t s M.slot 0)) M = M'
    skip
    intro hc
    clear hP hM hS h1 h
    unfold ifc at *
    go_enter Tryd.func48, Tryd.ntmps48
    go_wp2_with (go_at_call 71; (with_reducible refine hc.mono ?_); rintro _ w1 ⟨rfl, hV, hM1, hP1⟩)
    first | go_end0 | refine bodyPost_ret (results_none rfl _ _ _) rfl ?_
    exact ⟨rfl, hV, hM1, hP1⟩
  · rw [(wmO_6 h1).1, (wmO_6 (bs := bs) h1).2.1, (wmO_6 (t := t) (s := s) (ws := ws) h1).2.2]
    have hc := wdg_any hS hM hP
    rw [h1] at c6
    revert hc
    generalize wm6 (guardC (-1) M.word) (casB ws (partN t s M.slot 0) M.word) M = M'
    generalize (if guardC (-1) M.word = 0 then casW ws (partN t s M.slot 0) M.word (guardV (-1) M.word) else ws) = ws9
    intro hc
    clear hP hM hS h1 h
    unfold ifc at *
    go_enter Tryd.func48, Tryd.ntmps48
    go_wp2_with (go_at_call 72; (with_reducible refine hc.mono ?_); rintro _ w1 ⟨rfl, hV, hM1, hP1⟩)
    first | go_end0 | refine bodyPost_ret (results_none rfl _ _ _) rfl ?_
    exact ⟨rfl, hV, hM1, hP1⟩

theorem wstep_nil (m : Value) (w : World) : Calls Tryd.prog 19 #[.pointer none, m] w (Ret w (.tuple #[.agg #[.int .i64 1, .int .i64 0], .bool true])) := by
  go_enter Tryd.func19, Tryd.ntmps19
  go_wp2
  refine bodyPost_ret (v := .tuple #[.agg #[.int .i64 1, .int .i64 0], .bool true]) (by simp [results, Tryd.results19, go_sem]) rfl ?_
  exact Ret.mk rfl ((Below.refl _ _).alloc (Nat.le_refl _) _)
theorem wstep_none (a : Addr) (w : World) : Calls Tryd.prog 19 #[.pointer (some a), .nilIface] w (Ret w (.tuple #[.agg #[.int .i64 1, .int .i64 0], .bool true])) := by
  go_enter Tryd.func19, Tryd.ntmps19
  go_wp2
  refine bodyPost_ret (v := .tuple #[.agg #[.int .i64 1, .int .i64 0], .bool true]) (by simp [results, Tryd.results19, go_sem]) rfl ?_
  exact Ret.mk rfl ((Below.refl _ _).alloc (Nat.le_refl _) _)
set_option maxHeartbeats 4000000 in
theorem wstep_any (h : 0 ≤ M.step ∧ M.step ≤ 6) (hS : ESeat w A k t s) (hM : Mem w A ws bs n) (hP : Fs w k (wmL t s M)) :
    Calls Tryd.prog 19 #[.pointer (some ⟨k, 0, none⟩), ifc A] w (SRet A k w (.tuple #[.agg #[.int .i64 (wmT M (wmO t s M ws bs)).1, .int .i64 0], .bool (wmT M (wmO t s M ws bs)).2]) (wmL t s (wmO t s M ws bs)) (wmW t s M ws) (wmB M bs)) := by
  have c6 : w.cell? ⟨k, 7, none⟩ = some (.int .i64 M.step) := hP.at' 7 rfl
  have hk := hS.hk
  have hlt := hP.lt
  by_cases h0 : M.step = 0
  · rw [(wmO_0 h0).1, (wmO_0 (bs := bs) h0).2.1, (wmO_0 (t := t) (s := s) (ws := ws) h0).2.2]
    have eT : wmT M M = (1, true) := if_pos h0
    rw [eT]
    rw [h0] at c6
    have hPa := hP.alloc (.cells #[.int .i64 1, .int .i64 0] 41)
    have hMa := hM.alloc (.cells #[.int .i64 1, .int .i64 0] 41)
    clear eT h0 hS h hP hM
    unfold ifc
    go_enter Tryd.func19, Tryd.ntmps19
    go_wp2
    refine bodyPost_ret (v := .tuple #[.agg #[.int .i64 1, .int .i64 0], .bool true]) (by simp [results, Tryd.results19, go_sem]) rfl ?_
    exact ⟨rfl, (Moved.refl _ _).alloc _, ⟨n, hMa⟩, hPa⟩
  · have hSa := hS.alloc (.cells #[.int .i64 0, .int .i64 0] 41)
    have hMa := hM.alloc (.cells #[.int .i64 0, .int .i64 0] 41)
    have hPa := hP.alloc (.cells #[.int .i64 0, .int .i64 0] 41)
    have hRa : Fs (w.alloc (.cells #[.int .i64 0, .int .i64 0] 41)) w.heap.size [.int .i64 0, .int .i64 0] := Fs.new' _ _ rfl rfl
    have hd2 := wdo_any (by omega) hSa hMa hPa
    have HS := hM.hs
    have eT : wmT M (wmO t s M ws bs) = if (wmO t s M ws bs).step = 0 then ((wmO t s M ws bs).kept, true) else (0, false) := if_neg h0
    rw [eT]
    revert hd2
    generalize wmO t s M ws bs = M'
    generalize wmW t s M ws = ws'
    generalize wmB M bs = bs'
    intro hd2
    clear hSa hMa hS hP hM eT
    unfold ifc at *
    have hne : (M.step == 0) = false := by simpa using h0
    by_cases h1 : M'.step = 0
    · rw [if_pos h1]
      go_enter Tryd.func19, Tryd.ntmps19
      go_wp2_with (go_at_call 48; (with_reducible refine hd2.mono ?_); rintro _ w1 ⟨rfl, hV, hM1, hP1⟩; have d6 : w1.cell? ⟨k, 7, none⟩ = some (.int .i64 0) := h1 ▸ hP1.at' 7 rfl; have d10 := hP1.at' 10 rfl; have hR1 := hRa.moved hV (spanS_not (Or.inr HS) (by omega)); have r0 := hR1.at' 0 rfl; have r1 := hR1.at' 1 rfl; have q0 := hR1.fz 0; have q1 := hR1.fz 1)
      have hP2 := (hP1.other ⟨w.heap.size, 0, none⟩ (.int .i64 M'.kept) (by show w.heap.size ≠ k; omega)).other ⟨w.heap.size, 1, none⟩ (.int .i64 0) (by show w.heap.size ≠ k; omega)
      have hM2 := hM1.imp fun _ m => (m.setOther ⟨w.heap.size, 0, none⟩ (.int .i64 M'.kept) (Or.inr HS)).setOther ⟨w.heap.size, 1, none⟩ (.int .i64 0) (Or.inr HS)
      have hV2 := (((((Moved.refl (spanS A k) w).alloc (.cells #[.int .i64 0, .int .i64 0] 41)).trans hV).setNew ⟨w.heap.size, 0, none⟩ (.int .i64 M'.kept) (Nat.le_refl _)).setNew ⟨w.heap.size, 1, none⟩ (.int .i64 0) (Nat.le_refl _))
      have hR2 := (hR1.set 0 (by simp) (.int .i64 M'.kept)).set 1 (by simp) (.int .i64 0)
      generalize (w1.setCell ⟨w.heap.size, 0, none⟩ (.int .i64 M'.kept)).setCell ⟨w.heap.size, 1, none⟩ (.int .i64 0) = W2 at hP2 hM2 hV2 hR2 ⊢
      have e0 : W2.cell? ⟨w.heap.size, 0, none⟩ = some (.int .i64 M'.kept) := hR2.at' 0 rfl
      have e1 : W2.cell? ⟨w.heap.size, 1, none⟩ = some (.int .i64 0) := hR2.at' 1 rfl
      refine bodyPost_ret (v := .tuple #[.agg #[.int .i64 M'.kept, .int .i64 0], .bool true]) (by simp [results, Tryd.results19, go_sem, e0, e1]) rfl ?_
      exact ⟨rfl, hV2, hM2, hP2⟩
    · rw [if_neg h1]
      have hne1 : (M'.step == 0) = false := by simpa using h1
      have hne2 : (M'.step != 0) = true := by simp [h1]
      go_enter Tryd.func19, Tryd.ntmps19
      go_wp2_with (go_at_call 48; (with_reducible refine hd2.mono ?_); rintro _ w1 ⟨rfl, hV, hM1, hP1⟩; have d6 : w1.cell? ⟨k, 7, none⟩ = some (.int .i64 M'.step) := hP1.at' 7 rfl; have hR1 := hRa.moved hV (spanS_not (Or.inr HS) (by omega)); have r0 := hR1.at' 0 rfl; have r1 := hR1.at' 1 rfl; have q0 := hR1.fz 0; have q1 := hR1.fz 1)
      have hP2 := (hP1.other ⟨w.heap.size, 0, none⟩ (.int .i64 0) (by show w.heap.size ≠ k; omega)).other ⟨w.heap.size, 1, none⟩ (.int .i64 0) (by show w.heap.size ≠ k; omega)
      have hM2 := hM1.imp fun _ m => (m.setOther ⟨w.heap.size, 0, none⟩ (.int .i64 0) (Or.inr HS)).setOther ⟨w.heap.size, 1, none⟩ (.int .i64 0) (Or.inr HS)
      have hV2 := (((((Moved.refl (spanS A k) w).alloc (.cells #[.int .i64 0, .int .i64 0] 41)).trans hV).setNew ⟨w.heap.size, 0, none⟩ (.int .i64 0) (Nat.le_refl _)).setNew ⟨w.heap.size, 1, none⟩ (.int .i64 0) (Nat.le_refl _))
      have hR2 := (hR1.set 0 (by simp) (.int .i64 0)).set 1 (by simp) (.int .i64 0)
      generalize (w1.setCell ⟨w.heap.size, 0, none⟩ (.int .i64 0)).setCell ⟨w.heap.size, 1, none⟩ (.int .i64 0) = W2 at hP2 hM2 hV2 hR2 ⊢
      have e0 : W2.cell? ⟨w.heap.size, 0, none⟩ = some (.int .i64 0) := hR2.at' 0 rfl
      have e1 : W2.cell? ⟨w.heap.size, 1, none⟩ = some (.int .i64 0) := hR2.at' 1 rfl
      refine bodyPost_ret (v := .tuple #[.agg #[.int .i64 0, .int .i64 0], .bool false]) (by simp [results, Tryd.results19, go_sem, e0, e1]) rfl ?_
      exact ⟨rfl, hV2, hM2, hP2⟩
end
end Go.Proofs.YtnojemmpgaibkaaDoor
