/-
  The statement ModelWritten of layer 7, walked: true, whatever the calls are.
  Conditions: that the calls lie as they are read.
-/
import Derived.Test.YtlcegnehlhakdaaMdRound
namespace Go.Proofs.Ytlcegnehlhakdaa
open Go.RowKit Go.Maps Go
attribute [local go_sem] Later.cell Later.frozen Later.lt Later.le
set_option linter.unusedVariables false
set_option linter.unusedSimpArgs false
set_option maxRecDepth 8000

theorem back_mod (n : Int) : n % 256 = n.tmod 256 % 256 := by
  obtain ⟨h1, h2, q, h3⟩ := tmod_bd n
  omega
theorem tmod2 (n : Int) : 1 ≤ n.tmod 256 + 256 ∧ n.tmod 256 + 256 ≤ 511 := by
  obtain ⟨h1, h2, _⟩ := tmod_bd n
  omega
theorem wr_cells {W3 : World} {q : Nat} {a b c d : Value} {T : TypeId} (h : W3.heap[q]? = some (.cells #[a, b] T (0, 0))) (y2 : Later W3) (y3 : Later (y2.at'.alloc (.cells #[c, d] T))) (o : Obj) :
    (y3.at'.alloc o).cell? ⟨q, 0, none⟩ = some a ∧ (y3.at'.alloc o).cell? ⟨q, 1, none⟩ = some b ∧ (y3.at'.alloc o).cell? ⟨y2.at'.heap.size, 0, none⟩ = some c ∧ (y3.at'.alloc o).cell? ⟨y2.at'.heap.size, 1, none⟩ = some d := by
  have l0 := (Array.getElem?_eq_some_iff.1 h).1
  have h2 : (y2.at'.alloc (.cells #[c, d] T)).heap[q]? = some (.cells #[a, b] T (0, 0)) := (((Below.refl y2.at'.heap.size y2.at').alloc (Nat.le_refl _) _).block q (Nat.lt_of_lt_of_le l0 y2.below.size)).trans ((y2.below.block q l0).trans h)
  have h5 := heap_alloc_new y2.at' (.cells #[c, d] T)
  have k : Below (y2.at'.alloc (.cells #[c, d] T)).heap.size (y2.at'.alloc (.cells #[c, d] T)) (y3.at'.alloc o) := y3.below.alloc y3.below.size _
  have q1 := (k.block q (Array.getElem?_eq_some_iff.1 h2).1).trans h2
  have q2 := (k.block _ (Array.getElem?_eq_some_iff.1 h5).1).trans h5
  exact ⟨by simp [World.cell?, q1], by simp [World.cell?, q1], by simp [World.cell?, q2], by simp [World.cell?, q2]⟩
/-- The program's map, whose base's two last blocks are two ops: what is stored there is of no moment to it. -/
theorem PM.setOp {w W : World} {g : Nat} {S : St} {B : List Nat} (h : PM w W g S B) (a : Addr) (u : Value) (B0 : Nat) (v : World) (hv : Below B0 v w) (hB0 : B0 ≤ w.heap.size) (ha : B0 ≤ a.block) (hw : a.block < w.heap.size) : ∃ w', PM w' (W.setCell a u) g S B ∧ Below B0 v w' ∧ w'.heap.size = w.heap.size ∧ (∀ b, b < w.heap.size → b ≠ a.block → w'.heap[b]? = w.heap[b]?) ∧ w'.heap[a.block]? = (W.setCell a u).heap[a.block]? := by
  obtain ⟨bo, bt, hM, hB, hF, hD⟩ := h
  have hWw := hB.block a.block hw
  have hst : Stay (foot g bo bt) W (W.setCell a u) := fun b hb => Go.Deep.blk_setCell_other _ _ _ _ (by have := hF b hb; omega)
  refine ⟨w.setCell a u, ⟨bo, bt, hM.stay hst, ⟨hB.os, hB.tape, hB.output, by simpa using hB.size, fun b hb => ?_⟩, fun b hb => by simpa using hF b hb, fun b hb => ⟨(hD b hb).1, by simpa using (hD b hb).2⟩⟩, ⟨hv.os, hv.tape, hv.output, by simpa using hv.size, fun b hb => ?_⟩, by simp, fun b hb hne => Go.Deep.blk_setCell_other _ _ _ _ hne, ?_⟩
  · have hb' : b < w.heap.size := by simpa using hb
    by_cases e : b = a.block
    · subst e
      simp [World.setCell, Array.getElem?_modify, hWw]
    · rw [Go.Deep.blk_setCell_other _ _ _ _ e, Go.Deep.blk_setCell_other _ _ _ _ e]
      exact hB.block b hb'
  · rw [Go.Deep.blk_setCell_other _ _ _ _ (by omega)]
    exact hv.block b hb
  · simp [World.setCell, Array.getElem?_modify, hWw]

set_option maxHeartbeats 16000000 in
theorem ModelWritten_any {p : Option Addr} {cap : Nat} {l : List Ca} {w : World} (hE : CaP w p l) (d1 h1 o1 n1 d2 h2 o2 n2 : Int) (hh1 : (Lit.int .i64 h1).wf = true) (hh2 : (Lit.int .i64 h2).wf = true) :
    Calls Try.prog 4 #[.slice p l.length cap, .agg #[.int .i64 d1, .int .i64 h1, .int .i64 o1, .int .i64 n1], .agg #[.int .i64 d2, .int .i64 h2, .int .i64 o2, .int .i64 n2]] w (Ret w (.bool true)) := by
  have hlv := fun W => live_any W
  have hsm := fun W => small_any p l.length cap 30 W
  have hw0 : Below w.heap.size w ((w.alloc (.cells #[.int .i64 d1, .int .i64 h1, .int .i64 o1, .int .i64 n1] 39)).alloc (.cells #[.int .i64 d2, .int .i64 h2, .int .i64 o2, .int .i64 n2] 39)) := ((Below.refl _ _).alloc (Nat.le_refl _) _).alloc (by simp) _
  by_cases hl : l.length ≤ 30
  · have hl1 : decide ((l.length : Int) ≤ 30) = true := decide_eq_true (by omega)
    rw [hl1] at hsm
    clear hl1
    go_enter Try.func4, Try.ntmps4
    go_wp2_with (first
      | (go_at_call 8; (with_reducible refine (hsm _).mono ?_); rintro _ _ ⟨rfl, rfl⟩)
      | (go_at_call 10; (with_reducible refine (New_any _).mono ?_); rintro _ _ ⟨rfl, rfl⟩))
    go_loopw [9] (fun v wr => Rd7 ((w.alloc (.cells #[.int .i64 d1, .int .i64 h1, .int .i64 o1, .int .i64 n1] 39)).alloc (.cells #[.int .i64 d2, .int .i64 h2, .int .i64 o2, .int .i64 n2] 39)) l.length (w.heap.size + 1 + 1) (w.heap.size + 1 + 1 + 1) v wr) (fun v _ => l.length - (intOf v).toNat)
    case atStart => have := Rd7.begin ((w.alloc (.cells #[.int .i64 d1, .int .i64 h1, .int .i64 o1, .int .i64 n1] 39)).alloc (.cells #[.int .i64 d2, .int .i64 h2, .int .i64 o2, .int .i64 n2] 39)) l.length _ rfl _ rfl; simpa using this
    case round =>
      obtain ⟨i, S, rfl, hi, hP, hR, hG, hL, hT⟩ := hrel
      have hbw := hw0.trans (hP.size.mono hw0.size)
      by_cases hil : i < l.length
      · have i1 : (i : Int) < l.length := by omega
        have i0 : (0 : Int) ≤ i := by omega
        obtain ⟨b, off0, rfl, hb, hc⟩ := hE (by intro e; rw [e] at hil; simp at hil)
        obtain ⟨d1, h1, o1, n1, c1, r1, own1, hw1, hcs⟩ := ca_cells hbw hb hc hil
        obtain ⟨x0, x1, x2, x3, x4, x5, x6⟩ := hcs wr hbw
        have ht := tried_any hR hG (by omega) d1 h1 o1 n1 c1 r1 own1
        have HWR := Lib.hid (trR_wf (S := S) (d := d1) (h := h1) (off := o1) (n := n1) (own := own1) hw1.2.2.2.2.2)
        generalize trC S d1 h1 o1 n1 c1 own1 = C at ht
        generalize trR S d1 h1 o1 n1 r1 own1 = R at ht HWR
        have HW1 := Lib.hid hw1
        have HCS := Lib.hid hcs
        have HC := Lib.hid hc
        clear hw1 hcs hc
        go_wp2_with (first
          | (go_at_call 15; (with_reducible refine ht.mono ?_); rintro _ _ ⟨rfl, y, rfl⟩))
        have hP1 := (hP.later y).guard (.cells #[.int .i64 C, .int .i64 R] 35)
        have hR1 := (hR.later y).later ⟨_, (Below.refl _ _).alloc (Nat.le_refl _) (.cells #[.int .i64 C, .int .i64 R] 35)⟩
        have hq := heap_alloc_new y.at' (.cells #[.int .i64 C, .int .i64 R] 35)
        simp only at hP1 hR1 hq
        generalize y.at'.alloc (.cells #[.int .i64 C, .int .i64 R] 35) = W1 at hP1 hR1 hq ⊢
        generalize y.at'.heap.size = qb at hP1 hq ⊢
        clear ht y x0 x1 x2 x3 x4 x5 x6 hP hR
        refine region_tail 7 (by kernel_rfl) (by kernel_rfl) ?_
        have hP2 := hP1.drew
        have hR2 := hR1.drew
        have hq2 : W1.drew.heap[qb]? = some (.cells #[.int .i64 C, .int .i64 R] 35 (0, 0)) := hq
        generalize W1.drew = W2 at hP2 hR2 hq2 ⊢
        clear hP1 hR1 hq
        have hb2 := hw0.trans (hP2.size.mono hw0.size)
        obtain ⟨x0, x1, x2, x3, x4, x5, x6⟩ := HCS.out W2 hb2
        have q0 : W2.cell? ⟨qb, 0, none⟩ = some (.int .i64 C) := by simp [World.cell?, hq2]
        have q1 : W2.cell? ⟨qb, 1, none⟩ = some (.int .i64 R) := by simp [World.cell?, hq2]
        have T := hP2.tryN hG ⟨by omega, by omega⟩ d1 h1 o1 n1 C R HW1.out.2.1 HWR.out
        simp only [List.take_succ_cons, List.take_zero, List.drop_succ_cons, List.drop_zero]
        repeat still_step
        refine wpStill_nil ?_
        go_wp2_with (first
          | (go_at_call 16; (with_reducible refine T.mono ?_); rintro _ W3 ⟨rfl, hP3, hS3, hN3⟩))
        have hR3 := hR2.nt hN3
        have hq3 := (hS3 qb (by simp)).trans hq2
        clear x0 x1 x2 x3 x4 x5 x6 q0 q1 T hP2 hR2 hq2 hb2 hS3 hN3
        refine region_tail 7 (by kernel_rfl) (by kernel_rfl) ?_
        have hP4 := hP3.drew
        have hR4 := hR3.drew
        have hq4 : W3.drew.heap[qb]? = some (.cells #[.int .i64 C, .int .i64 R] 35 (0, 0)) := hq3
        generalize W3.drew = W4 at hP4 hR4 hq4 ⊢
        clear hP3 hR3 hq3
        have hb4 := hw0.trans (hP4.size.mono hw0.size)
        obtain ⟨x0, x1, x2, x3, x4, x5, x6⟩ := HCS.out W4 hb4
        have q0 : W4.cell? ⟨qb, 0, none⟩ = some (.int .i64 C) := by simp [World.cell?, hq4]
        have q1 : W4.cell? ⟨qb, 1, none⟩ = some (.int .i64 R) := by simp [World.cell?, hq4]
        have T := refTry_any hR4 hG ⟨by omega, by omega⟩ d1 h1 o1 n1 C R
        unfold opV resV at T
        simp only [List.take_succ_cons, List.take_zero, List.drop_succ_cons, List.drop_zero]
        repeat still_step
        refine wpStill_nil ?_
        go_wp2_with (first
          | (go_at_call 17; (with_reducible refine T.mono ?_); rintro _ W5 ⟨rfl, hR5, hN5⟩))
        have hP5 := ((hP4.ref (by simp) (by simp) hN5).1).sub (B' := [(w.heap.size + 1 + 1 + 1)]) (by simp)
        have hl5 := tryS_len S d1 h1 o1 n1 C R
        go_roundw
        case rel => exact ⟨i + 1, _, by go_num, by omega, hP5, hR5, hG.tryS _ _ _ _ _ _, by omega, by omega⟩
        case measure => simp [intOf]; omega
      · have i1 : ¬ (i : Int) < l.length := by omega
        have hz0 : ((w.alloc (.cells #[.int .i64 d1, .int .i64 h1, .int .i64 o1, .int .i64 n1] 39)).alloc (.cells #[.int .i64 d2, .int .i64 h2, .int .i64 o2, .int .i64 n2] 39)).heap.size = w.heap.size + 1 + 1 := by rw [World.size_alloc, World.size_alloc]
        have hb1 : wr.heap[w.heap.size]? = some (.cells #[.int .i64 d1, .int .i64 h1, .int .i64 o1, .int .i64 n1] 39 (0, 0)) := (hP.size.block _ (by rw [hz0]; omega)).trans ((((Below.refl _ (w.alloc (.cells #[.int .i64 d1, .int .i64 h1, .int .i64 o1, .int .i64 n1] 39))).alloc (Nat.le_refl _) _).block w.heap.size (by rw [World.size_alloc]; omega)).trans (heap_alloc_new w _))
        have hb2 : wr.heap[w.heap.size + 1]? = some (.cells #[.int .i64 d2, .int .i64 h2, .int .i64 o2, .int .i64 n2] 39 (0, 0)) := (hP.size.block _ (by rw [hz0]; omega)).trans (by have := heap_alloc_new (w.alloc (.cells #[.int .i64 d1, .int .i64 h1, .int .i64 o1, .int .i64 n1] 39)) (.cells #[.int .i64 d2, .int .i64 h2, .int .i64 o2, .int .i64 n2] 39); rwa [World.size_alloc] at this)
        have s0 : wr.cell? ⟨w.heap.size, 0, none⟩ = some (.int .i64 d1) := by simp [World.cell?, hb1]
        have s1 : wr.frozen? ⟨w.heap.size, 0, none⟩ = false := by simp [World.frozen?, hb1]
        have s2 : wr.cell? ⟨w.heap.size + 1, 0, none⟩ = some (.int .i64 d2) := by simp [World.cell?, hb2]
        have s3 : wr.frozen? ⟨w.heap.size + 1, 0, none⟩ = false := by simp [World.frozen?, hb2]
        have s4 : wr.cell? ⟨w.heap.size, 1, none⟩ = some (.int .i64 h1) := by simp [World.cell?, hb1]
        have s5 : wr.cell? ⟨w.heap.size, 2, none⟩ = some (.int .i64 o1) := by simp [World.cell?, hb1]
        have s6 : wr.cell? ⟨w.heap.size, 3, none⟩ = some (.int .i64 n1) := by simp [World.cell?, hb1]
        have s7 : wr.cell? ⟨w.heap.size + 1, 1, none⟩ = some (.int .i64 h2) := by simp [World.cell?, hb2]
        have s8 : wr.cell? ⟨w.heap.size + 1, 2, none⟩ = some (.int .i64 o2) := by simp [World.cell?, hb2]
        have s9 : wr.cell? ⟨w.heap.size + 1, 3, none⟩ = some (.int .i64 n2) := by simp [World.cell?, hb2]
        go_wp2_with fail
        obtain ⟨wA, hPA, hBA, hzA, hkA, hcA⟩ := hP.setOp ⟨w.heap.size, 0, none⟩ (.int .i64 3) w.heap.size w hw0 (by rw [hz0]; omega) (Nat.le_refl _) (by show w.heap.size < _; rw [hz0]; omega)
        obtain ⟨wB, hP2, hBB, hzB, hkB, hcB⟩ := hPA.setOp ⟨w.heap.size + 1, 0, none⟩ (.int .i64 2) w.heap.size w hBA (by rw [hzA, hz0]; omega) (Nat.le_succ _) (by show w.heap.size + 1 < _; rw [hzA, hz0]; omega)
        have g1 : wB.heap[w.heap.size]? = some (.cells #[.int .i64 3, .int .i64 h1, .int .i64 o1, .int .i64 n1] 39 (0, 0)) := ((hkB w.heap.size (by rw [hzA, hz0]; omega) (by show w.heap.size ≠ w.heap.size + 1; omega)).trans hcA).trans (by simp [World.setCell, Array.getElem?_modify, hb1])
        have g2 : wB.heap[w.heap.size + 1]? = some (.cells #[.int .i64 2, .int .i64 h2, .int .i64 o2, .int .i64 n2] 39 (0, 0)) := hcB.trans (by simp [World.setCell, Array.getElem?_modify, hb2])
        generalize (wr.setCell ⟨w.heap.size, 0, none⟩ (.int .i64 3)).setCell ⟨w.heap.size + 1, 0, none⟩ (.int .i64 2) = W at hP2 ⊢
        have hcc : ∀ W' : World, Below wB.heap.size wB W' → W'.cell? ⟨w.heap.size, 0, none⟩ = some (.int .i64 3) ∧ W'.cell? ⟨w.heap.size, 1, none⟩ = some (.int .i64 h1) ∧ W'.cell? ⟨w.heap.size, 2, none⟩ = some (.int .i64 o1) ∧ W'.cell? ⟨w.heap.size, 3, none⟩ = some (.int .i64 n1) ∧ W'.cell? ⟨w.heap.size + 1, 0, none⟩ = some (.int .i64 2) ∧ W'.cell? ⟨w.heap.size + 1, 1, none⟩ = some (.int .i64 h2) ∧ W'.cell? ⟨w.heap.size + 1, 2, none⟩ = some (.int .i64 o2) ∧ W'.cell? ⟨w.heap.size + 1, 3, none⟩ = some (.int .i64 n2) := fun W' hb => by
          have q1 := (hb.block _ (Array.getElem?_eq_some_iff.1 g1).1).trans g1
          have q2 := (hb.block _ (Array.getElem?_eq_some_iff.1 g2).1).trans g2
          exact ⟨by simp [World.cell?, q1], by simp [World.cell?, q1], by simp [World.cell?, q1], by simp [World.cell?, q1], by simp [World.cell?, q2], by simp [World.cell?, q2], by simp [World.cell?, q2], by simp [World.cell?, q2]⟩
        clear s0 s1 s2 s3 s4 s5 s6 s7 s8 s9 hb1 hb2 hP hR hPA hBA hkA hcA hkB hcB g1 g2 hbw
        have HCC := Lib.hid hcc
        obtain ⟨z1, z2, z3, z4, z5, z6, z7, z8⟩ := hcc _ hP2.size
        have ha0 := hP2.answer hG 2 h2 o2 n2 hh2
        have T := fun (W : World) (B : List Nat) (hp : PM wB W (w.heap.size + 1 + 1) S B) => hp.tryN hG ⟨by omega, by omega⟩ 3 h1 o1 n1 0 0 hh1 rfl
        cases ht : tryB S 3 h1 o1 n1 0 0
        · simp only [ht] at T
          generalize ansE S 2 h2 o2 n2 = e1 at ha0
          generalize ansN' S 2 h2 o2 n2 = m1 at ha0
          clear hcc
          go_wp2_with (first
            | (go_at_call 13; (with_reducible refine ha0.mono ?_); rintro _ _ ⟨rfl, y, rfl⟩; have hP3 := (hP2.later y).guard (.cells #[.int .i64 e1, .int .i64 m1] 35); clear z1 z2 z3 z4 z5 z6 z7 z8; obtain ⟨z1, z2, z3, z4, z5, z6, z7, z8⟩ := HCC.out _ hP3.size)
            | (go_at_call 16; (with_reducible refine (T _ _ hP3).mono ?_); rintro _ W3 ⟨rfl, hP4, hS4, hN4⟩)
            | (go_at_call 9; (with_reducible refine (hlv _).mono ?_); rintro _ _ ⟨rfl, x, rfl⟩))
          go_ret
          exact Ret.mk rfl (x.cat (hBB.trans (hP4.size.mono (by rw [hzB, hzA, hz0]; omega))) (Nat.le_trans (by rw [hzB, hzA, hz0]; omega) hP4.size.size))
        · have hr := wrote_read hG ht
          rw [back_mod] at hr
          have ho := wrote_other hG ht h2 o2 n2
          have hG1 := hG.tryS 3 h1 o1 n1 0 0
          have T2 := fun (W : World) (B : List Nat) (hp : PM wB W (w.heap.size + 1 + 1) (tryS S 3 h1 o1 n1 0 0) B) => hp.answer hG1 2 h1 o1 0 hh1
          have T3 := fun (W : World) (B : List Nat) (hp : PM wB W (w.heap.size + 1 + 1) (tryS S 3 h1 o1 n1 0 0) B) => hp.answer hG1 2 h2 o2 n2 hh2
          simp only [ht] at T
          rw [hr.1, hr.2] at T2
          obtain ⟨tb1, tb2, tb3⟩ := tmod_bd n1
          have tb := tmod2 n1
          generalize tryS S 3 h1 o1 n1 0 0 = S' at T T2 T3 ho
          generalize ansE S 2 h2 o2 n2 = e1 at ha0 ho
          generalize ansN' S 2 h2 o2 n2 = m1 at ha0 ho
          clear hcc hr hG1
          by_cases hq : ansE S' 2 h2 o2 n2 = e1 ∧ ansN' S' 2 h2 o2 n2 = m1
          · rw [hq.1, hq.2] at T3
            clear ho hq
            go_wp2_with (first
              | (go_at_call 13; (with_reducible refine ha0.mono ?_); rintro _ _ ⟨rfl, y, rfl⟩; have hP3 := (hP2.later y).guard (.cells #[.int .i64 e1, .int .i64 m1] 35); have hq3 := heap_alloc_new y.at' (.cells #[.int .i64 e1, .int .i64 m1] 35); clear z1 z2 z3 z4 z5 z6 z7 z8; obtain ⟨z1, z2, z3, z4, z5, z6, z7, z8⟩ := HCC.out _ hP3.size)
              | (go_at_call 16; (with_reducible refine (T _ _ hP3).mono ?_); rintro _ W3 ⟨rfl, hP4, hS4, hN4⟩; clear z1 z2 z3 z4 z5 z6 z7 z8; obtain ⟨z1, z2, z3, z4, z5, z6, z7, z8⟩ := HCC.out _ hP4.size; have hq4 := (hS4 y.at'.heap.size (by simp)).trans hq3)
              | (go_at_call 13; (with_reducible refine (T2 _ _ hP4).mono ?_); rintro _ _ ⟨rfl, y2, rfl⟩; have hP5 := (hP4.later y2).guard (.cells #[.int .i64 0, .int .i64 (n1.tmod 256 % 256)] 35); clear z1 z2 z3 z4 z5 z6 z7 z8; obtain ⟨z1, z2, z3, z4, z5, z6, z7, z8⟩ := HCC.out _ hP5.size)
              | (go_at_call 13; (with_reducible refine (T3 _ _ hP5).mono ?_); rintro _ _ ⟨rfl, y3, rfl⟩; have hP6 := (hP5.later y3).alloc (.cells #[.int .i64 e1, .int .i64 m1] 35); clear z1 z2 z3 z4 z5 z6 z7 z8; obtain ⟨z1, z2, z3, z4, z5, z6, z7, z8⟩ := HCC.out _ hP6.size; obtain ⟨r0, r1, r2, r3⟩ := wr_cells hq4 y2 y3 (.cells #[.int .i64 e1, .int .i64 m1] 35))
              | (go_at_call 9; (with_reducible refine (hlv _).mono ?_); rintro _ _ ⟨rfl, x, rfl⟩))
            go_ret
            exact Ret.mk rfl (x.cat (hBB.trans (hP6.size.mono (by rw [hzB, hzA, hz0]; omega))) (Nat.le_trans (by rw [hzB, hzA, hz0]; omega) hP6.size.size))
          · obtain ⟨rfl, rfl⟩ := ho.resolve_right hq
            generalize ansE S' 2 h2 o2 n2 = e2 at T3 hq
            generalize ansN' S' 2 h2 o2 n2 = m2 at T3 hq
            clear ho
            by_cases he : e2 = e1
            · subst he
              have hm : ¬ m2 = m1 := fun d => hq ⟨rfl, d⟩
              have hm2 : (m2 == m1) = false := by simpa using hm
              clear hq
              go_wp2_with (first
                | (go_at_call 13; (with_reducible refine ha0.mono ?_); rintro _ _ ⟨rfl, y, rfl⟩; have hP3 := (hP2.later y).guard (.cells #[.int .i64 e2, .int .i64 m1] 35); have hq3 := heap_alloc_new y.at' (.cells #[.int .i64 e2, .int .i64 m1] 35); clear z1 z2 z3 z4 z5 z6 z7 z8; obtain ⟨z1, z2, z3, z4, z5, z6, z7, z8⟩ := HCC.out _ hP3.size)
                | (go_at_call 16; (with_reducible refine (T _ _ hP3).mono ?_); rintro _ W3 ⟨rfl, hP4, hS4, hN4⟩; clear z1 z2 z3 z4 z5 z6 z7 z8; obtain ⟨z1, z2, z3, z4, z5, z6, z7, z8⟩ := HCC.out _ hP4.size; have hq4 := (hS4 y.at'.heap.size (by simp)).trans hq3)
                | (go_at_call 13; (with_reducible refine (T2 _ _ hP4).mono ?_); rintro _ _ ⟨rfl, y2, rfl⟩; have hP5 := (hP4.later y2).guard (.cells #[.int .i64 0, .int .i64 (n1.tmod 256 % 256)] 35); clear z1 z2 z3 z4 z5 z6 z7 z8; obtain ⟨z1, z2, z3, z4, z5, z6, z7, z8⟩ := HCC.out _ hP5.size)
                | (go_at_call 13; (with_reducible refine (T3 _ _ hP5).mono ?_); rintro _ _ ⟨rfl, y3, rfl⟩; have hP6 := (hP5.later y3).alloc (.cells #[.int .i64 e2, .int .i64 m2] 35); clear z1 z2 z3 z4 z5 z6 z7 z8; obtain ⟨z1, z2, z3, z4, z5, z6, z7, z8⟩ := HCC.out _ hP6.size; obtain ⟨r0, r1, r2, r3⟩ := wr_cells hq4 y2 y3 (.cells #[.int .i64 e2, .int .i64 m2] 35))
                | (go_at_call 9; (with_reducible refine (hlv _).mono ?_); rintro _ _ ⟨rfl, x, rfl⟩))
              go_ret
              exact Ret.mk rfl (x.cat (hBB.trans (hP6.size.mono (by rw [hzB, hzA, hz0]; omega))) (Nat.le_trans (by rw [hzB, hzA, hz0]; omega) hP6.size.size))
            · have he2 : (e2 == e1) = false := by simpa using he
              clear hq
              go_wp2_with (first
                | (go_at_call 13; (with_reducible refine ha0.mono ?_); rintro _ _ ⟨rfl, y, rfl⟩; have hP3 := (hP2.later y).guard (.cells #[.int .i64 e1, .int .i64 m1] 35); have hq3 := heap_alloc_new y.at' (.cells #[.int .i64 e1, .int .i64 m1] 35); clear z1 z2 z3 z4 z5 z6 z7 z8; obtain ⟨z1, z2, z3, z4, z5, z6, z7, z8⟩ := HCC.out _ hP3.size)
                | (go_at_call 16; (with_reducible refine (T _ _ hP3).mono ?_); rintro _ W3 ⟨rfl, hP4, hS4, hN4⟩; clear z1 z2 z3 z4 z5 z6 z7 z8; obtain ⟨z1, z2, z3, z4, z5, z6, z7, z8⟩ := HCC.out _ hP4.size; have hq4 := (hS4 y.at'.heap.size (by simp)).trans hq3)
                | (go_at_call 13; (with_reducible refine (T2 _ _ hP4).mono ?_); rintro _ _ ⟨rfl, y2, rfl⟩; have hP5 := (hP4.later y2).guard (.cells #[.int .i64 0, .int .i64 (n1.tmod 256 % 256)] 35); clear z1 z2 z3 z4 z5 z6 z7 z8; obtain ⟨z1, z2, z3, z4, z5, z6, z7, z8⟩ := HCC.out _ hP5.size)
                | (go_at_call 13; (with_reducible refine (T3 _ _ hP5).mono ?_); rintro _ _ ⟨rfl, y3, rfl⟩; have hP6 := (hP5.later y3).alloc (.cells #[.int .i64 e2, .int .i64 m2] 35); clear z1 z2 z3 z4 z5 z6 z7 z8; obtain ⟨z1, z2, z3, z4, z5, z6, z7, z8⟩ := HCC.out _ hP6.size; obtain ⟨r0, r1, r2, r3⟩ := wr_cells hq4 y2 y3 (.cells #[.int .i64 e2, .int .i64 m2] 35))
                | (go_at_call 9; (with_reducible refine (hlv _).mono ?_); rintro _ _ ⟨rfl, x, rfl⟩))
              go_ret
              exact Ret.mk rfl (x.cat (hBB.trans (hP6.size.mono (by rw [hzB, hzA, hz0]; omega))) (Nat.le_trans (by rw [hzB, hzA, hz0]; omega) hP6.size.size))

  · have hl1 : decide ((l.length : Int) ≤ 30) = false := decide_eq_false (by omega)
    rw [hl1] at hsm
    clear hl1
    go_enter Try.func4, Try.ntmps4
    go_wp2_with (first
      | (go_at_call 8; (with_reducible refine (hsm _).mono ?_); rintro _ _ ⟨rfl, rfl⟩)
      | (go_at_call 9; (with_reducible refine (hlv _).mono ?_); rintro _ _ ⟨rfl, x, rfl⟩))
    go_ret
    exact Ret.mk rfl (x.cat hw0 hw0.size)
end Go.Proofs.Ytlcegnehlhakdaa
