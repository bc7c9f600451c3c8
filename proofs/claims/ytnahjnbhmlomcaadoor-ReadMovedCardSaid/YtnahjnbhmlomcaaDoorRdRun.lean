/-
  A machine that reads a byte: a step of it, New, and many steps alone.
  Conditions: none but that the machine and plain cells lie there, and the table of fields reads as it is laid.
-/
import Derived.Test.YtnahjnbhmlomcaaDoorRdStepC
import Derived.Test.YtnahjnbhmlomcaaDoorHandleWalks4
namespace Go.Proofs.YtnahjnbhmlomcaaDoor
open Go.RowKit
attribute [local go_sem] Later.cell Later.frozen Later.lt Later.le Turned.cell_lo Turned.cell_hi Turned.frozen_lo Turned.frozen_hi Turned.lt Turned.le
set_option linter.unusedVariables false
set_option linter.unusedSimpArgs false

/-- The rounds' relation. -/
def RunRel (A : PAt) (w : World) (k : Nat) (t s : Int) (ws bs : List Int) (N : Nat) (R : (Int × Int) × Nat × Rm) (v : Value) (wr : World) : Prop :=
  ∃ (i : Nat) (Mi : Rm), v = .int .i64 (i + 1 : Nat) ∧ i ≤ N ∧ (0 ≤ Mi.step ∧ Mi.step ≤ 4) ∧ rmRun t s ws bs (N - i) i Mi = R ∧ Moved (spanS A k) w wr ∧ (∃ n, Mem wr A ws bs n) ∧ Fs wr k (rmL t s Mi)
section
variable {A : PAt} {ws bs : List Int} {n : Int} {w W : World} {k : Nat} {t s : Int} {M : Rm}
theorem ESeat.alloc (h : ESeat w A k t s) (o : Obj) : ESeat (w.alloc o) A k t s := { h with hE := h.hE.alloc o }
set_option maxHeartbeats 4000000 in
theorem rstep_any (h : 0 ≤ M.step ∧ M.step ≤ 4) (hS : ESeat w A k t s) (hM : Mem w A ws bs n) (hP : Fs w k (rmL t s M)) :
    Calls Tryd.prog 13 #[.pointer (some ⟨k, 0, none⟩), ifc A] w (SRet A k w (.tuple #[.agg #[.int .i64 (rmT M (rmO t s M ws bs)).1, .int .i64 (rmT M (rmO t s M ws bs)).2.1], .bool (rmT M (rmO t s M ws bs)).2.2]) (rmL t s (rmO t s M ws bs)) ws bs) := by
  have c6 : w.cell? ⟨k, 6, none⟩ = some (.int .i64 M.step) := hP.at' 6 rfl
  have hk := hS.hk
  have hlt := hP.lt
  by_cases h0 : M.step = 0
  · have eO : rmO t s M ws bs = M := by unfold rmO; rw [if_neg (by omega), if_neg (by omega), if_neg (by omega), if_neg (by omega)]
    have eT : rmT M M = (1, 0, true) := if_pos h0
    rw [eO, eT]
    rw [h0] at c6
    have hPa := hP.alloc (.cells #[.int .i64 1, .int .i64 0] 37)
    have hMa := hM.alloc (.cells #[.int .i64 1, .int .i64 0] 37)
    clear eO eT h0 hS h hP hM
    unfold ifc
    go_enter Tryd.func13, Tryd.ntmps13
    go_wp2
    refine bodyPost_ret (v := .tuple #[.agg #[.int .i64 1, .int .i64 0], .bool true]) (by simp [results, Tryd.results13, go_sem]) rfl ?_
    exact ⟨rfl, (Moved.refl _ _).alloc _, ⟨n, hMa⟩, hPa⟩
  · have hd := fun (W : World) hS (n : Int) hM hP => rdo_any (A := A) (ws := ws) (bs := bs) (n := n) (w := W) (k := k) (t := t) (s := s) (M := M) (by omega) hS hM hP
    have hSa := hS.alloc (.cells #[.int .i64 0, .int .i64 0] 37)
    have hMa := hM.alloc (.cells #[.int .i64 0, .int .i64 0] 37)
    have hPa := hP.alloc (.cells #[.int .i64 0, .int .i64 0] 37)
    have hRa : Fs (w.alloc (.cells #[.int .i64 0, .int .i64 0] 37)) w.heap.size [.int .i64 0, .int .i64 0] := Fs.new' _ _ rfl rfl
    have hd2 := hd _ hSa n hMa hPa
    have HS := hM.hs
    have eT : rmT M (rmO t s M ws bs) = if (rmO t s M ws bs).step = 0 then ((rmO t s M ws bs).rc, (rmO t s M ws bs).rn, true) else (0, 0, false) := if_neg h0
    rw [eT]
    generalize rmO t s M ws bs = M' at hd2 ⊢
    clear hd hSa hMa hS hP hM eT
    unfold ifc at *
    have hne : (M.step == 0) = false := by simpa using h0
    by_cases h1 : M'.step = 0
    · rw [if_pos h1]
      go_enter Tryd.func13, Tryd.ntmps13
      go_wp2_with (go_at_call 24; (with_reducible refine hd2.mono ?_); rintro _ w1 ⟨rfl, hV, hM1, hP1⟩; have d6 : w1.cell? ⟨k, 6, none⟩ = some (.int .i64 0) := h1 ▸ hP1.at' 6 rfl; have d10 := hP1.at' 10 rfl; have d11 := hP1.at' 11 rfl; have hR1 := hRa.moved hV (spanS_not (Or.inr HS) (by omega)); have r0 := hR1.at' 0 rfl; have r1 := hR1.at' 1 rfl; have q0 := hR1.fz 0; have q1 := hR1.fz 1)
      have hP2 := (hP1.other ⟨w.heap.size, 0, none⟩ (.int .i64 M'.rc) (by show w.heap.size ≠ k; omega)).other ⟨w.heap.size, 1, none⟩ (.int .i64 M'.rn) (by show w.heap.size ≠ k; omega)
      have hM2 := hM1.imp fun _ m => (m.setOther ⟨w.heap.size, 0, none⟩ (.int .i64 M'.rc) (Or.inr HS)).setOther ⟨w.heap.size, 1, none⟩ (.int .i64 M'.rn) (Or.inr HS)
      have hV2 := (((((Moved.refl (spanS A k) w).alloc (.cells #[.int .i64 0, .int .i64 0] 37)).trans hV).setNew ⟨w.heap.size, 0, none⟩ (.int .i64 M'.rc) (Nat.le_refl _)).setNew ⟨w.heap.size, 1, none⟩ (.int .i64 M'.rn) (Nat.le_refl _))
      have hR2 := (hR1.set 0 (by simp) (.int .i64 M'.rc)).set 1 (by simp) (.int .i64 M'.rn)
      generalize (w1.setCell ⟨w.heap.size, 0, none⟩ (.int .i64 M'.rc)).setCell ⟨w.heap.size, 1, none⟩ (.int .i64 M'.rn) = W2 at hP2 hM2 hV2 hR2 ⊢
      have e0 : W2.cell? ⟨w.heap.size, 0, none⟩ = some (.int .i64 M'.rc) := hR2.at' 0 rfl
      have e1 : W2.cell? ⟨w.heap.size, 1, none⟩ = some (.int .i64 M'.rn) := hR2.at' 1 rfl
      refine bodyPost_ret (v := .tuple #[.agg #[.int .i64 M'.rc, .int .i64 M'.rn], .bool true]) (by simp [results, Tryd.results13, go_sem, e0, e1]) rfl ?_
      exact ⟨rfl, hV2, hM2, hP2⟩
    · rw [if_neg h1]
      have hne1 : (M'.step == 0) = false := by simpa using h1
      have hne2 : (M'.step != 0) = true := by simp [h1]
      go_enter Tryd.func13, Tryd.ntmps13
      go_wp2_with (go_at_call 24; (with_reducible refine hd2.mono ?_); rintro _ w1 ⟨rfl, hV, hM1, hP1⟩; have d6 : w1.cell? ⟨k, 6, none⟩ = some (.int .i64 M'.step) := hP1.at' 6 rfl; have hR1 := hRa.moved hV (spanS_not (Or.inr HS) (by omega)); have r0 := hR1.at' 0 rfl; have r1 := hR1.at' 1 rfl; have q0 := hR1.fz 0; have q1 := hR1.fz 1)
      have hP2 := (hP1.other ⟨w.heap.size, 0, none⟩ (.int .i64 0) (by show w.heap.size ≠ k; omega)).other ⟨w.heap.size, 1, none⟩ (.int .i64 0) (by show w.heap.size ≠ k; omega)
      have hM2 := hM1.imp fun _ m => (m.setOther ⟨w.heap.size, 0, none⟩ (.int .i64 0) (Or.inr HS)).setOther ⟨w.heap.size, 1, none⟩ (.int .i64 0) (Or.inr HS)
      have hV2 := (((((Moved.refl (spanS A k) w).alloc (.cells #[.int .i64 0, .int .i64 0] 37)).trans hV).setNew ⟨w.heap.size, 0, none⟩ (.int .i64 0) (Nat.le_refl _)).setNew ⟨w.heap.size, 1, none⟩ (.int .i64 0) (Nat.le_refl _))
      have hR2 := (hR1.set 0 (by simp) (.int .i64 0)).set 1 (by simp) (.int .i64 0)
      generalize (w1.setCell ⟨w.heap.size, 0, none⟩ (.int .i64 0)).setCell ⟨w.heap.size, 1, none⟩ (.int .i64 0) = W2 at hP2 hM2 hV2 hR2 ⊢
      have e0 : W2.cell? ⟨w.heap.size, 0, none⟩ = some (.int .i64 0) := hR2.at' 0 rfl
      have e1 : W2.cell? ⟨w.heap.size, 1, none⟩ = some (.int .i64 0) := hR2.at' 1 rfl
      refine bodyPost_ret (v := .tuple #[.agg #[.int .i64 0, .int .i64 0], .bool false]) (by simp [results, Tryd.results13, go_sem, e0, e1]) rfl ?_
      exact ⟨rfl, hV2, hM2, hP2⟩

/-- What New makes. -/
theorem rnew_yes (a s t h off : Int) (hm : mayC a s t = true) (w : World) : Calls Tryd.prog 12 #[.agg #[.int .i64 a, .int .i64 s, .int .i64 t], .int .i64 h, .int .i64 off] w
    fun e w' => ∃ k, e = .returned (.pointer (some ⟨k, 0, none⟩)) ∧ w.heap.size ≤ k ∧ Below w.heap.size w w' ∧ Fs w' k (rmL t s (rmNew h s off)) := by
  have cO := fun W => Of_ok a s t hm W
  have cH := fun W => Of_any h s W
  have hE := Lib.hid (show rmNew h s off = ⟨ofE h s == 0, ofS h s, ofG h s, off, 1, 0, false, 0, 0, 0⟩ from by unfold rmNew ofE; cases ofB h s <;> rfl)
  generalize ofE h s = er at cH hE
  generalize ofS h s = sl at cH hE
  generalize ofG h s = ge at cH hE
  clear hm
  go_enter Tryd.func12, Tryd.ntmps12
  go_wp2_with (first
    | (go_at_call 22; (with_reducible refine (cO _).mono ?_); rintro _ _ ⟨rfl, x1, rfl⟩)
    | (go_at_call 23; (with_reducible refine (cH _).mono ?_); rintro _ _ ⟨rfl, x2, rfl⟩))
  go_ret
  have hb : Below w.heap.size w x2.at' := x2.cat ((x1.cat ((Below.refl _ _).alloc (Nat.le_refl _) _) (by simp)).alloc (Nat.le_trans (by simp) x1.below.size) _) (by have := x1.below.size; rw [World.size_alloc] at this ⊢; omega)
  refine ⟨_, rfl, hb.size, hb.alloc hb.size _, ?_⟩
  rw [hE.out]
  exact Fs.new' _ _ rfl (by simp [rmL])
theorem rnew_no (a s t h off : Int) (hm : mayC a s t = false) (w : World) : Calls Tryd.prog 12 #[.agg #[.int .i64 a, .int .i64 s, .int .i64 t], .int .i64 h, .int .i64 off] w
    fun e w' => ∃ k, e = .returned (.pointer (some ⟨k, 0, none⟩)) ∧ w.heap.size ≤ k ∧ Below w.heap.size w w' ∧ Fs w' k (rmL 0 0 rmNil) := by
  have cO := fun W => Of_bad a s t hm W
  clear hm
  go_enter Tryd.func12, Tryd.ntmps12
  go_wp2_with (first
    | (go_at_call 22; (with_reducible refine (cO _).mono ?_); rintro _ _ ⟨rfl, x1, rfl⟩))
  go_ret
  have hb : Below w.heap.size w x1.at' := x1.cat ((Below.refl _ _).alloc (Nat.le_refl _) _) (by simp)
  have hb2 := hb.alloc hb.size (.cells #[.int .i64 0, .int .i64 0] 60)
  exact ⟨_, rfl, by have := hb.size; simp; omega, hb2.alloc hb2.size _, Fs.new' _ _ (by simp) (by simp [rmL, rmNil])⟩

theorem rm_step {M : Rm} (h : 0 ≤ M.step ∧ M.step ≤ 4) : 0 ≤ (rmO t s M ws bs).step ∧ (rmO t s M ws bs).step ≤ 4 := by
  unfold rmO rm1 rm2 rm3 rm4 rmEnd
  repeat' split
  all_goals simp_all
/-- Many steps alone. -/
theorem rrun_any (N : Nat) (hN : N ≤ 1000) (h : 0 ≤ M.step ∧ M.step ≤ 4) (hS : ESeat w A k t s) (hM : Mem w A ws bs n) (hP : Fs w k (rmL t s M)) :
    Calls Tryd.prog 14 #[.pointer (some ⟨A.p, 0, none⟩), .pointer (some ⟨k, 0, none⟩), .int .i64 N] w
      (SRet A k w (.tuple #[.agg #[.int .i64 (rmRun t s ws bs N 0 M).1.1, .int .i64 (rmRun t s ws bs N 0 M).1.2], .int .i64 (rmRun t s ws bs N 0 M).2.1]) (rmL t s (rmRun t s ws bs N 0 M).2.2) ws bs) := by
  have hlt := hP.lt
  have hN0 : (0 : Int) ≤ N := by omega
  have HS := hM.hs
  have hk := hS.hk
  have hRa : Fs (w.alloc (.cells #[.int .i64 0, .int .i64 0] 37)) w.heap.size [.int .i64 0, .int .i64 0] := Fs.new' _ _ rfl rfl
  have hSa := hS.alloc (.cells #[.int .i64 0, .int .i64 0] 37)
  have hMa := hM.alloc (.cells #[.int .i64 0, .int .i64 0] 37)
  have hPa := hP.alloc (.cells #[.int .i64 0, .int .i64 0] 37)
  generalize hR : rmRun t s ws bs N 0 M = R
  obtain ⟨⟨rc, rn⟩, ri, M2⟩ := R
  have HR := Lib.hid hR
  clear hR hS hM hP
  go_enter Tryd.func14, Tryd.ntmps14
  go_wp2
  go_loopw [8] (fun v wr => RunRel A (w.alloc (.cells #[.int .i64 0, .int .i64 0] 37)) k t s ws bs N ((rc, rn), ri, M2) v wr) (fun v _ => N + 1 - (intOf v).toNat)
  case atStart => exact ⟨0, M, rfl, Nat.zero_le _, h, by rw [Nat.sub_zero]; exact HR.out, Moved.refl _ _, ⟨n, hMa⟩, hPa⟩
  case round =>
    obtain ⟨i, Mi, rfl, hi, hst, hrun, hV, ⟨m, hMi⟩, hPi⟩ := hrel
    have hRi := hRa.moved hV (spanS_not (Or.inr HS) (by omega))
    by_cases hiN : i < N
    · have i1 : ((i + 1 : Nat) : Int) ≤ N := by omega
      have hs := rstep_any hst (hSa.moved hV) hMi hPi
      have hst' := rm_step (t := t) (s := s) (ws := ws) (bs := bs) hst
      have hrun' : (if (rmT Mi (rmO t s Mi ws bs)).2.2 then (((rmT Mi (rmO t s Mi ws bs)).1, (rmT Mi (rmO t s Mi ws bs)).2.1), i + 1, rmO t s Mi ws bs) else rmRun t s ws bs (N - (i + 1)) (i + 1) (rmO t s Mi ws bs)) = ((rc, rn), ri, M2) := by
        rw [← hrun, show N - i = (N - (i + 1)) + 1 from by omega]
        rfl
      generalize rmT Mi (rmO t s Mi ws bs) = T at hs hrun'
      generalize rmO t s Mi ws bs = M' at hs hrun' hst'
      obtain ⟨tc, tn, td⟩ := T
      simp only at hs hrun'
      unfold ifc at *
      clear hrun hMi hPi HR
      cases td
      · have HR2 := Lib.hid hrun'
        clear hrun'
        go_wp2_with (first
          | (go_at_call 13; (with_reducible refine hs.mono ?_); rintro _ w1 ⟨rfl, hV1, hM1, hP1⟩))
        go_roundw
        case rel => exact ⟨i + 1, M', by go_num, by omega, hst', by have := HR2.out; simpa using this, (hV.trans hV1).alloc _, hM1.imp fun _ m => m.alloc _, hP1.alloc _⟩
        case measure => simp [intOf]; omega
      · simp only [if_true, Prod.mk.injEq] at hrun'
        obtain ⟨⟨rfl, rfl⟩, rfl, rfl⟩ := hrun'
        go_wp2_with (first
          | (go_at_call 13; (with_reducible refine hs.mono ?_); rintro _ w1 ⟨rfl, hV1, hM1, hP1⟩; have hR1 := (hRi.moved hV1 (spanS_not (Or.inr HS) (by omega))).alloc (.cells #[.int .i64 tc, .int .i64 tn] 37); have q0 := hR1.at' 0 rfl; have q1 := hR1.at' 1 rfl; have q2 := hR1.fz 0; have q3 := hR1.fz 1))
        clear q0 q1 q2 q3
        have hne : w.heap.size ≠ k := by omega
        have hR2 := (hR1.set 0 (by simp) (.int .i64 tc)).set 1 (by simp) (.int .i64 tn)
        have hP2 := ((hP1.alloc (.cells #[.int .i64 tc, .int .i64 tn] 37)).other ⟨w.heap.size, 0, none⟩ (.int .i64 tc) hne).other ⟨w.heap.size, 1, none⟩ (.int .i64 tn) hne
        have hM2 := hM1.imp fun _ m => ((m.alloc (.cells #[.int .i64 tc, .int .i64 tn] 37)).setOther ⟨w.heap.size, 0, none⟩ (.int .i64 tc) (Or.inr HS)).setOther ⟨w.heap.size, 1, none⟩ (.int .i64 tn) (Or.inr HS)
        have hV2 := ((((((Moved.refl (spanS A k) w).alloc (.cells #[.int .i64 0, .int .i64 0] 37)).trans hV).trans hV1).alloc (.cells #[.int .i64 tc, .int .i64 tn] 37)).setNew ⟨w.heap.size, 0, none⟩ (.int .i64 tc) (Nat.le_refl _)).setNew ⟨w.heap.size, 1, none⟩ (.int .i64 tn) (Nat.le_refl _)
        generalize ((w1.alloc (.cells #[.int .i64 tc, .int .i64 tn] 37)).setCell ⟨w.heap.size, 0, none⟩ (.int .i64 tc)).setCell ⟨w.heap.size, 1, none⟩ (.int .i64 tn) = W2 at hR2 hP2 hM2 hV2 ⊢
        have e0 : W2.cell? ⟨w.heap.size, 0, none⟩ = some (.int .i64 tc) := hR2.at' 0 rfl
        have e1 : W2.cell? ⟨w.heap.size, 1, none⟩ = some (.int .i64 tn) := hR2.at' 1 rfl
        refine bodyPost_ret (v := .tuple #[.agg #[.int .i64 tc, .int .i64 tn], .int .i64 (i + 1 : Nat)]) (by simp [results, Tryd.results14, go_sem, e0, e1]) rfl ?_
        exact ⟨rfl, hV2, hM2, hP2⟩
    · have ei : i = N := by omega
      subst ei
      have i1 : ¬ ((i + 1 : Nat) : Int) ≤ i := by omega
      rw [Nat.sub_self] at hrun
      unfold rmRun at hrun
      simp only [Prod.mk.injEq] at hrun
      obtain ⟨⟨rfl, rfl⟩, rfl, rfl⟩ := hrun
      have q0 := hRi.at' 0 rfl
      have q1 := hRi.at' 1 rfl
      have q2 := hRi.fz 0
      have q3 := hRi.fz 1
      go_wp2_with fail
      clear q0 q1 q2 q3
      have hne : w.heap.size ≠ k := by omega
      have hR2 := (hRi.set 0 (by simp) (.int .i64 (-1))).set 1 (by simp) (.int .i64 0)
      have hP2 := (hPi.other ⟨w.heap.size, 0, none⟩ (.int .i64 (-1)) hne).other ⟨w.heap.size, 1, none⟩ (.int .i64 0) hne
      have hM2 := (hMi.setOther ⟨w.heap.size, 0, none⟩ (.int .i64 (-1)) (Or.inr HS)).setOther ⟨w.heap.size, 1, none⟩ (.int .i64 0) (Or.inr HS)
      have hV2 := ((((Moved.refl (spanS A k) w).alloc (.cells #[.int .i64 0, .int .i64 0] 37)).trans hV).setNew ⟨w.heap.size, 0, none⟩ (.int .i64 (-1)) (Nat.le_refl _)).setNew ⟨w.heap.size, 1, none⟩ (.int .i64 0) (Nat.le_refl _)
      generalize (wr.setCell ⟨w.heap.size, 0, none⟩ (.int .i64 (-1))).setCell ⟨w.heap.size, 1, none⟩ (.int .i64 0) = W2 at hR2 hP2 hM2 hV2 ⊢
      have e0 : W2.cell? ⟨w.heap.size, 0, none⟩ = some (.int .i64 (-1)) := hR2.at' 0 rfl
      have e1 : W2.cell? ⟨w.heap.size, 1, none⟩ = some (.int .i64 0) := hR2.at' 1 rfl
      refine bodyPost_ret (v := .tuple #[.agg #[.int .i64 (-1), .int .i64 0], .int .i64 i]) (by simp [results, Tryd.results14, go_sem, e0, e1]) rfl ?_
      exact ⟨rfl, hV2, ⟨_, hM2⟩, hP2⟩
end
end Go.Proofs.YtnahjnbhmlomcaaDoor
