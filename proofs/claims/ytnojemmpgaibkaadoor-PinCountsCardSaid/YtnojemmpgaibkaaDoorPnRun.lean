/-
  A machine that pins, or unpins, an object: New, and many steps alone.
  Conditions: none but that the machine and plain cells lie there, and the tables read as they are laid.
-/
import Derived.Test.YtnojemmpgaibkaaDoorPnStepC
import Derived.Test.YtnojemmpgaibkaaDoorHandleWalks4
namespace Go.Proofs.YtnojemmpgaibkaaDoor
open Go.RowKit
attribute [local go_sem] Later.cell Later.frozen Later.lt Later.le Turned.cell_lo Turned.cell_hi Turned.frozen_lo Turned.frozen_hi Turned.lt Turned.le
set_option linter.unusedVariables false
set_option linter.unusedSimpArgs false
/-- What a machine of a config that may not be is. -/
def pmL0 : List Value := [.int .i64 0, .int .i64 0, .bool false, .int .i64 0, .int .i64 0, .nilFunc, .bool false, .int .i64 0, .int .i64 0, .int .i64 0, .int .i64 0]
theorem turning_yes (a s t h : Int) (un : Bool) (hm : mayC a s t = true) (w : World) : Calls Tryd.prog 52 #[.agg #[.int .i64 a, .int .i64 s, .int .i64 t], .int .i64 h, turnF un, .bool (!un)] w
    fun e w' => ∃ k, e = .returned (.pointer (some ⟨k, 0, none⟩)) ∧ w.heap.size ≤ k ∧ Below w.heap.size w w' ∧ Fs w' k (pmL t s (pmNew h s un)) := by
  have cO := fun W => Of_ok a s t hm W
  have cH := fun W => Of_any h s W
  have hE := Lib.hid (show pmNew h s un = ⟨ofE h s == 0, ofS h s, ofG h s, un, 1, 0, 0, 0⟩ from by unfold pmNew ofE; cases ofB h s <;> rfl)
  generalize ofE h s = er at cH hE
  generalize ofS h s = sl at cH hE
  generalize ofG h s = ge at cH hE
  clear hm
  cases un
  · show Calls Tryd.prog 52 #[.agg #[.int .i64 a, .int .i64 s, .int .i64 t], .int .i64 h, .func (.func 53) #[] #[], .bool true] w _
    go_enter Tryd.func52, Tryd.ntmps52
    go_wp2_with (first
      | (go_at_call 46; (with_reducible refine (cO _).mono ?_); rintro _ _ ⟨rfl, x1, rfl⟩)
      | (go_at_call 47; (with_reducible refine (cH _).mono ?_); rintro _ _ ⟨rfl, x2, rfl⟩))
    go_ret
    have hb : Below w.heap.size w x2.at' := x2.cat ((x1.cat ((Below.refl _ _).alloc (Nat.le_refl _) _) (by simp)).alloc (Nat.le_trans (by simp) x1.below.size) _) (by have := x1.below.size; rw [World.size_alloc] at this ⊢; omega)
    refine ⟨_, rfl, hb.size, hb.alloc hb.size _, ?_⟩
    rw [hE.out]
    exact Fs.new' _ _ rfl (by simp [pmL, turnF])
  · show Calls Tryd.prog 52 #[.agg #[.int .i64 a, .int .i64 s, .int .i64 t], .int .i64 h, .func (.func 54) #[] #[], .bool false] w _
    go_enter Tryd.func52, Tryd.ntmps52
    go_wp2_with (first
      | (go_at_call 46; (with_reducible refine (cO _).mono ?_); rintro _ _ ⟨rfl, x1, rfl⟩)
      | (go_at_call 47; (with_reducible refine (cH _).mono ?_); rintro _ _ ⟨rfl, x2, rfl⟩))
    go_ret
    have hb : Below w.heap.size w x2.at' := x2.cat ((x1.cat ((Below.refl _ _).alloc (Nat.le_refl _) _) (by simp)).alloc (Nat.le_trans (by simp) x1.below.size) _) (by have := x1.below.size; rw [World.size_alloc] at this ⊢; omega)
    refine ⟨_, rfl, hb.size, hb.alloc hb.size _, ?_⟩
    rw [hE.out]
    exact Fs.new' _ _ rfl (by simp [pmL, turnF])
theorem turning_no (a s t h : Int) (tf : Value) (b : Bool) (hm : mayC a s t = false) (w : World) : Calls Tryd.prog 52 #[.agg #[.int .i64 a, .int .i64 s, .int .i64 t], .int .i64 h, tf, .bool b] w
    fun e w' => ∃ k, e = .returned (.pointer (some ⟨k, 0, none⟩)) ∧ w.heap.size ≤ k ∧ Below w.heap.size w w' ∧ Fs w' k pmL0 := by
  have cO := fun W => Of_bad a s t hm W
  clear hm
  go_enter Tryd.func52, Tryd.ntmps52
  go_wp2_with (first
    | (go_at_call 46; (with_reducible refine (cO _).mono ?_); rintro _ _ ⟨rfl, x1, rfl⟩))
  go_ret
  have hb : Below w.heap.size w x1.at' := x1.cat ((Below.refl _ _).alloc (Nat.le_refl _) _) (by simp)
  have hb2 := hb.alloc hb.size (.cells #[.int .i64 0, .int .i64 0] 92)
  exact ⟨_, rfl, by have := hb.size; simp; omega, hb2.alloc hb2.size _, Fs.new' _ _ (by simp) (by simp [pmL0])⟩
/-- What New, or NewUn, makes. -/
def newF (un : Bool) : FuncId := if un then 30 else 29
theorem pnew_yes (a s t h : Int) (un : Bool) (hm : mayC a s t = true) (w : World) : Calls Tryd.prog (newF un) #[.agg #[.int .i64 a, .int .i64 s, .int .i64 t], .int .i64 h] w
    fun e w' => ∃ k, e = .returned (.pointer (some ⟨k, 0, none⟩)) ∧ w.heap.size ≤ k ∧ Below w.heap.size w w' ∧ Fs w' k (pmL t s (pmNew h s un)) := by
  have hc := fun W => turning_yes a s t h un hm W
  cases un
  · show Calls Tryd.prog 29 _ _ _
    unfold turnF at hc
    simp only [Bool.not_false, Bool.false_eq_true, if_false] at hc
    go_enter Tryd.func29, Tryd.ntmps29
    go_wp2_with (go_at_call 52; (with_reducible refine (hc _).mono ?_); rintro _ w1 ⟨k, rfl, hk, hb, hf⟩)
    go_ret
    exact ⟨k, rfl, by rw [World.size_alloc] at hk; omega, ((Below.refl _ _).alloc (Nat.le_refl _) _).trans (hb.mono (by simp)), hf⟩
  · show Calls Tryd.prog 30 _ _ _
    unfold turnF at hc
    simp only [Bool.not_true, if_true] at hc
    go_enter Tryd.func30, Tryd.ntmps30
    go_wp2_with (go_at_call 52; (with_reducible refine (hc _).mono ?_); rintro _ w1 ⟨k, rfl, hk, hb, hf⟩)
    go_ret
    exact ⟨k, rfl, by rw [World.size_alloc] at hk; omega, ((Below.refl _ _).alloc (Nat.le_refl _) _).trans (hb.mono (by simp)), hf⟩
theorem pnew_no (a s t h : Int) (un : Bool) (hm : mayC a s t = false) (w : World) : Calls Tryd.prog (newF un) #[.agg #[.int .i64 a, .int .i64 s, .int .i64 t], .int .i64 h] w
    fun e w' => ∃ k, e = .returned (.pointer (some ⟨k, 0, none⟩)) ∧ w.heap.size ≤ k ∧ Below w.heap.size w w' ∧ Fs w' k pmL0 := by
  have hc := fun tf b W => turning_no a s t h tf b hm W
  cases un
  · show Calls Tryd.prog 29 _ _ _
    go_enter Tryd.func29, Tryd.ntmps29
    go_wp2_with (go_at_call 52; (with_reducible refine (hc _ _ _).mono ?_); rintro _ w1 ⟨k, rfl, hk, hb, hf⟩)
    go_ret
    exact ⟨k, rfl, by rw [World.size_alloc] at hk; omega, ((Below.refl _ _).alloc (Nat.le_refl _) _).trans (hb.mono (by simp)), hf⟩
  · show Calls Tryd.prog 30 _ _ _
    go_enter Tryd.func30, Tryd.ntmps30
    go_wp2_with (go_at_call 52; (with_reducible refine (hc _ _ _).mono ?_); rintro _ w1 ⟨k, rfl, hk, hb, hf⟩)
    go_ret
    exact ⟨k, rfl, by rw [World.size_alloc] at hk; omega, ((Below.refl _ _).alloc (Nat.le_refl _) _).trans (hb.mono (by simp)), hf⟩
/-- The rounds' relation. -/
def pRunRel (A : PAt) (w : World) (k : Nat) (t s : Int) (bs : List Int) (N : Nat) (R : Pr) (v : Value) (wr : World) : Prop :=
  ∃ (i : Nat) (Mi : Pm) (wsi : List Int), v = .int .i64 (i + 1 : Nat) ∧ i ≤ N ∧ (0 ≤ Mi.step ∧ Mi.step ≤ 2) ∧ pmRun t s (N - i) i Mi wsi = R ∧ Moved (spanS A k) w wr ∧ (∃ n, Mem wr A wsi bs n) ∧ Fs wr k (pmL t s Mi)
section
variable {A : PAt} {ws bs : List Int} {n : Int} {w W : World} {k : Nat} {t s : Int} {M : Pm}
/-- Many steps alone. -/
theorem prun_any (N : Nat) (hN : N ≤ 1000) (h : 0 ≤ M.step ∧ M.step ≤ 2) (hS : ESeat w A k t s) (hM : Mem w A ws bs n) (hP : Fs w k (pmL t s M)) :
    Calls Tryd.prog 37 #[.pointer (some ⟨A.p, 0, none⟩), .pointer (some ⟨k, 0, none⟩), .int .i64 N] w
      (SRet A k w (.tuple #[.agg #[.int .i64 (pmRun t s N 0 M ws).c, .int .i64 0], .int .i64 (pmRun t s N 0 M ws).j]) (pmL t s (pmRun t s N 0 M ws).M) (pmRun t s N 0 M ws).ws bs) := by
  have hlt := hP.lt
  have hN0 : (0 : Int) ≤ N := by omega
  have HS := hM.hs
  have hk := hS.hk
  have hRa : Fs (w.alloc (.cells #[.int .i64 0, .int .i64 0] 41)) w.heap.size [.int .i64 0, .int .i64 0] := Fs.new' _ _ rfl rfl
  have hSa := hS.alloc (.cells #[.int .i64 0, .int .i64 0] 41)
  have hMa := hM.alloc (.cells #[.int .i64 0, .int .i64 0] 41)
  have hPa := hP.alloc (.cells #[.int .i64 0, .int .i64 0] 41)
  generalize hR : pmRun t s N 0 M ws = R
  obtain ⟨rc, ri, M2, ws2⟩ := R
  have HR := Lib.hid hR
  clear hR hS hM hP
  go_enter Tryd.func37, Tryd.ntmps37
  go_wp2
  go_loopw [8] (fun v wr => pRunRel A (w.alloc (.cells #[.int .i64 0, .int .i64 0] 41)) k t s bs N ⟨rc, ri, M2, ws2⟩ v wr) (fun v _ => N + 1 - (intOf v).toNat)
  case atStart => exact ⟨0, M, ws, rfl, Nat.zero_le _, h, by rw [Nat.sub_zero]; exact HR.out, Moved.refl _ _, ⟨n, hMa⟩, hPa⟩
  case round =>
    obtain ⟨i, Mi, wsi, rfl, hi, hst, hrun, hV, ⟨m, hMi⟩, hPi⟩ := hrel
    have hRi := hRa.moved hV (spanS_not (Or.inr HS) (by omega))
    by_cases hiN : i < N
    · have i1 : ((i + 1 : Nat) : Int) ≤ N := by omega
      have hs := pstep_any hst (hSa.moved hV) hMi hPi
      have hst' := pm_step (t := t) (s := s) (ws := wsi) hst
      have hrun' : (if (pmT Mi (pmO t s Mi wsi)).2 then (⟨(pmT Mi (pmO t s Mi wsi)).1, i + 1, pmO t s Mi wsi, pmW t s Mi wsi⟩ : Pr) else pmRun t s (N - (i + 1)) (i + 1) (pmO t s Mi wsi) (pmW t s Mi wsi)) = ⟨rc, ri, M2, ws2⟩ := by
        rw [← hrun, show N - i = (N - (i + 1)) + 1 from by omega]
        rfl
      generalize pmT Mi (pmO t s Mi wsi) = T at hs hrun'
      generalize pmO t s Mi wsi = M' at hs hrun' hst'
      generalize pmW t s Mi wsi = ws' at hs hrun'
      skip
      obtain ⟨tc, td⟩ := T
      simp only at hs hrun'
      unfold ifc at *
      clear hrun hMi hPi HR
      cases td
      · have HR2 := Lib.hid hrun'
        clear hrun'
        go_wp2_with (first
          | (go_at_call 32; (with_reducible refine hs.mono ?_); rintro _ w1 ⟨rfl, hV1, hM1, hP1⟩))
        go_roundw
        case rel => exact ⟨i + 1, M', ws', by go_num, by omega, hst', by have := HR2.out; simpa using this, (hV.trans hV1).alloc _, hM1.imp fun _ m => m.alloc _, hP1.alloc _⟩
        case measure => simp [intOf]; omega
      · simp only [if_true, Pr.mk.injEq] at hrun'
        obtain ⟨rfl, rfl, rfl, rfl⟩ := hrun'
        go_wp2_with (first
          | (go_at_call 32; (with_reducible refine hs.mono ?_); rintro _ w1 ⟨rfl, hV1, hM1, hP1⟩; have hR1 := (hRi.moved hV1 (spanS_not (Or.inr HS) (by omega))).alloc (.cells #[.int .i64 tc, .int .i64 0] 41); have q0 := hR1.at' 0 rfl; have q1 := hR1.at' 1 rfl; have q2 := hR1.fz 0; have q3 := hR1.fz 1))
        clear q0 q1 q2 q3
        have hne : w.heap.size ≠ k := by omega
        have hR2 := (hR1.set 0 (by simp) (.int .i64 tc)).set 1 (by simp) (.int .i64 0)
        have hP2 := ((hP1.alloc (.cells #[.int .i64 tc, .int .i64 0] 41)).other ⟨w.heap.size, 0, none⟩ (.int .i64 tc) hne).other ⟨w.heap.size, 1, none⟩ (.int .i64 0) hne
        have hM2 := hM1.imp fun _ m => ((m.alloc (.cells #[.int .i64 tc, .int .i64 0] 41)).setOther ⟨w.heap.size, 0, none⟩ (.int .i64 tc) (Or.inr HS)).setOther ⟨w.heap.size, 1, none⟩ (.int .i64 0) (Or.inr HS)
        have hV2 := ((((((Moved.refl (spanS A k) w).alloc (.cells #[.int .i64 0, .int .i64 0] 41)).trans hV).trans hV1).alloc (.cells #[.int .i64 tc, .int .i64 0] 41)).setNew ⟨w.heap.size, 0, none⟩ (.int .i64 tc) (Nat.le_refl _)).setNew ⟨w.heap.size, 1, none⟩ (.int .i64 0) (Nat.le_refl _)
        generalize ((w1.alloc (.cells #[.int .i64 tc, .int .i64 0] 41)).setCell ⟨w.heap.size, 0, none⟩ (.int .i64 tc)).setCell ⟨w.heap.size, 1, none⟩ (.int .i64 0) = W2 at hR2 hP2 hM2 hV2 ⊢
        have e0 : W2.cell? ⟨w.heap.size, 0, none⟩ = some (.int .i64 tc) := hR2.at' 0 rfl
        have e1 : W2.cell? ⟨w.heap.size, 1, none⟩ = some (.int .i64 0) := hR2.at' 1 rfl
        refine bodyPost_ret (v := .tuple #[.agg #[.int .i64 tc, .int .i64 0], .int .i64 (i + 1 : Nat)]) (by simp [results, Tryd.results37, go_sem, e0, e1]) rfl ?_
        exact ⟨rfl, hV2, hM2, hP2⟩
    · have ei : i = N := by omega
      subst ei
      have i1 : ¬ ((i + 1 : Nat) : Int) ≤ i := by omega
      rw [Nat.sub_self] at hrun
      unfold pmRun at hrun
      simp only [Pr.mk.injEq] at hrun
      obtain ⟨rfl, rfl, rfl, rfl⟩ := hrun
      have q0 := hRi.at' 0 rfl
      have q1 := hRi.at' 1 rfl
      have q2 := hRi.fz 0
      have q3 := hRi.fz 1
      go_wp2_with fail
      clear q0 q1 q2 q3
      have hne : w.heap.size ≠ k := by omega
      have hR2 := (hRi.set 0 (by simp) (.int .i64 (-1))).set 1 (by simp) (.int .i64 0)
      have hP2 := (hPi.other ⟨w.heap.size, 0, none⟩ (.int .i64 (-1)) hne).other ⟨w.heap.size, 1, none⟩ (.int .i64 0) hne
      have hM2 := (hMi.setOther ⟨w.heap.size, 0, none⟩ (.int .i64 (-1)) (Or.inr HS)).setOther ⟨w.heap.size, 1, none⟩ (.int .i64 0) (Or.inr HS)
      have hV2 := ((((Moved.refl (spanS A k) w).alloc (.cells #[.int .i64 0, .int .i64 0] 41)).trans hV).setNew ⟨w.heap.size, 0, none⟩ (.int .i64 (-1)) (Nat.le_refl _)).setNew ⟨w.heap.size, 1, none⟩ (.int .i64 0) (Nat.le_refl _)
      generalize (wr.setCell ⟨w.heap.size, 0, none⟩ (.int .i64 (-1))).setCell ⟨w.heap.size, 1, none⟩ (.int .i64 0) = W2 at hR2 hP2 hM2 hV2 ⊢
      have e0 : W2.cell? ⟨w.heap.size, 0, none⟩ = some (.int .i64 (-1)) := hR2.at' 0 rfl
      have e1 : W2.cell? ⟨w.heap.size, 1, none⟩ = some (.int .i64 0) := hR2.at' 1 rfl
      refine bodyPost_ret (v := .tuple #[.agg #[.int .i64 (-1), .int .i64 0], .int .i64 i]) (by simp [results, Tryd.results37, go_sem, e0, e1]) rfl ?_
      exact ⟨rfl, hV2, ⟨_, hM2⟩, hP2⟩
end
end Go.Proofs.YtnojemmpgaibkaaDoor
