/-
  The statement ModelStale of layer 7, walked: true, whatever the calls are.
  Conditions: that the calls lie as they are read.
-/
import Derived.Test.YtlcegnehlhakdaaMdRound
namespace Go.Proofs.Ytlcegnehlhakdaa
open Go.RowKit Go.Maps Go
attribute [local go_sem] Later.cell Later.frozen Later.lt Later.le
set_option linter.unusedVariables false
set_option linter.unusedSimpArgs false
set_option maxRecDepth 8000

set_option maxHeartbeats 16000000 in
theorem ModelStale_any {p p2 : Option Addr} {cap cap2 : Nat} {l l2 : List Ca} {w : World} (hE : CaP w p l) (h : Int) (hE2 : CaP w p2 l2) (hh : (Lit.int .i64 h).wf = true) :
    Calls Try.prog 5 #[.slice p l.length cap, .int .i64 h, .slice p2 l2.length cap2] w (Ret w (.bool true)) := by
  have hlv := fun W => live_any W
  have hsm := fun W => small_any p l.length cap 30 W
  have hsm2 := fun W => small_any p2 l2.length cap2 30 W
  have hw0 : Below w.heap.size w w := Below.refl _ _
  by_cases hl : l.length ≤ 30
  · have hl1 : decide ((l.length : Int) ≤ 30) = true := decide_eq_true (by omega)
    rw [hl1] at hsm
    clear hl1
    by_cases hl2 : l2.length ≤ 30
    · have hl1 : decide ((l2.length : Int) ≤ 30) = true := decide_eq_true (by omega)
      rw [hl1] at hsm2
      clear hl1
      go_enter Try.func5, Try.ntmps5
      go_wp2_with (first
        | (go_at_call 8; (with_reducible refine (hsm _).mono ?_); rintro _ _ ⟨rfl, rfl⟩)
        | (go_at_call 8; (with_reducible refine (hsm2 _).mono ?_); rintro _ _ ⟨rfl, rfl⟩)
        | (go_at_call 10; (with_reducible refine (New_any _).mono ?_); rintro _ _ ⟨rfl, rfl⟩))
      go_loopw [9] (fun v wr => Rd7 (w) l.length w.heap.size (w.heap.size + 1) v wr) (fun v _ => l.length - (intOf v).toNat)
      case atStart => have := Rd7.begin w l.length _ rfl _ rfl; simpa using this
      case round =>
        obtain ⟨i, S, rfl, hi, hP, hR, hG, hL, hT⟩ := hrel
        have hbw := hw0.trans (hP.size.mono hw0.size)
        by_cases hil : i < l.length
        · have i1 : (i : Int) < l.length := by omega
          have i0 : (0 : Int) ≤ i := by omega
          obtain ⟨b, off0, rfl, hb, hc⟩ := hE (by intro e; rw [e] at hil; simp at hil)
          obtain ⟨d1, h1, o1, n1, c1, r1, own1, hw1, hcs⟩ := ca_cells hbw hb hc hil
          obtain ⟨x0, x1, x2, x3, x4, x5, x6⟩ := hcs wr hbw
          have ht := tried_any hR hG (by omega) d1 h1 o1 n1 c1 r1 own1
          have HWR := Lib.hid (trR_wf (S := S) (d := d1) (h := h1) (off := o1) (n := n1) (own := own1) hw1.2.2.2.2.2)
          generalize trC S d1 h1 o1 n1 c1 own1 = C at ht
          generalize trR S d1 h1 o1 n1 r1 own1 = R at ht HWR
          have HW1 := Lib.hid hw1
          have HCS := Lib.hid hcs
          have HC := Lib.hid hc
          clear hw1 hcs hc
          go_wp2_with (first
            | (go_at_call 15; (with_reducible refine ht.mono ?_); rintro _ _ ⟨rfl, y, rfl⟩))
          have hP1 := (hP.later y).guard (.cells #[.int .i64 C, .int .i64 R] 35)
          have hR1 := (hR.later y).later ⟨_, (Below.refl _ _).alloc (Nat.le_refl _) (.cells #[.int .i64 C, .int .i64 R] 35)⟩
          have hq := heap_alloc_new y.at' (.cells #[.int .i64 C, .int .i64 R] 35)
          simp only at hP1 hR1 hq
          generalize y.at'.alloc (.cells #[.int .i64 C, .int .i64 R] 35) = W1 at hP1 hR1 hq ⊢
          generalize y.at'.heap.size = qb at hP1 hq ⊢
          clear ht y x0 x1 x2 x3 x4 x5 x6 hP hR
          refine region_tail 7 (by kernel_rfl) (by kernel_rfl) ?_
          have hP2 := hP1.drew
          have hR2 := hR1.drew
          have hq2 : W1.drew.heap[qb]? = some (.cells #[.int .i64 C, .int .i64 R] 35 (0, 0)) := hq
          generalize W1.drew = W2 at hP2 hR2 hq2 ⊢
          clear hP1 hR1 hq
          have hb2 := hw0.trans (hP2.size.mono hw0.size)
          obtain ⟨x0, x1, x2, x3, x4, x5, x6⟩ := HCS.out W2 hb2
          have q0 : W2.cell? ⟨qb, 0, none⟩ = some (.int .i64 C) := by simp [World.cell?, hq2]
          have q1 : W2.cell? ⟨qb, 1, none⟩ = some (.int .i64 R) := by simp [World.cell?, hq2]
          have T := hP2.tryN hG ⟨by omega, by omega⟩ d1 h1 o1 n1 C R HW1.out.2.1 HWR.out
          simp only [List.take_succ_cons, List.take_zero, List.drop_succ_cons, List.drop_zero]
          repeat still_step
          refine wpStill_nil ?_
          go_wp2_with (first
            | (go_at_call 16; (with_reducible refine T.mono ?_); rintro _ W3 ⟨rfl, hP3, hS3, hN3⟩))
          have hR3 := hR2.nt hN3
          have hq3 := (hS3 qb (by simp)).trans hq2
          clear x0 x1 x2 x3 x4 x5 x6 q0 q1 T hP2 hR2 hq2 hb2 hS3 hN3
          refine region_tail 7 (by kernel_rfl) (by kernel_rfl) ?_
          have hP4 := hP3.drew
          have hR4 := hR3.drew
          have hq4 : W3.drew.heap[qb]? = some (.cells #[.int .i64 C, .int .i64 R] 35 (0, 0)) := hq3
          generalize W3.drew = W4 at hP4 hR4 hq4 ⊢
          clear hP3 hR3 hq3
          have hb4 := hw0.trans (hP4.size.mono hw0.size)
          obtain ⟨x0, x1, x2, x3, x4, x5, x6⟩ := HCS.out W4 hb4
          have q0 : W4.cell? ⟨qb, 0, none⟩ = some (.int .i64 C) := by simp [World.cell?, hq4]
          have q1 : W4.cell? ⟨qb, 1, none⟩ = some (.int .i64 R) := by simp [World.cell?, hq4]
          have T := refTry_any hR4 hG ⟨by omega, by omega⟩ d1 h1 o1 n1 C R
          unfold opV resV at T
          simp only [List.take_succ_cons, List.take_zero, List.drop_succ_cons, List.drop_zero]
          repeat still_step
          refine wpStill_nil ?_
          go_wp2_with (first
            | (go_at_call 17; (with_reducible refine T.mono ?_); rintro _ W5 ⟨rfl, hR5, hN5⟩))
          have hP5 := ((hP4.ref (by simp) (by simp) hN5).1).sub (B' := [(w.heap.size + 1)]) (by simp)
          have hl5 := tryS_len S d1 h1 o1 n1 C R
          go_roundw
          case rel => exact ⟨i + 1, _, by go_num, by omega, hP5, hR5, hG.tryS _ _ _ _ _ _, by omega, by omega⟩
          case measure => simp [intOf]; omega
        · have i1 : ¬ (i : Int) < l.length := by omega
          have T := hP.tryN hG ⟨by omega, by omega⟩ 1 h 0 0 0 0 hh rfl
          cases ht : tryB S 1 h 0 0 0 0
          · rw [ht] at T
            go_wp2_with (first
              | (go_at_call 16; (with_reducible refine T.mono ?_); rintro _ W3 ⟨rfl, hP3, hS3, hN3⟩)
              | (go_at_call 9; (with_reducible refine (hlv _).mono ?_); rintro _ _ ⟨rfl, x, rfl⟩))
            go_ret
            exact Ret.mk rfl (x.cat hP3.size hP3.size.size)
          · rw [ht] at T
            have hg1 := gone_of hG ht
            have hG1 := hG.tryS 1 h 0 0 0 0
            have hl9 := tryS_len S 1 h 0 0 0 0
            have T2 := fun (W : World) (hr : RefAt W (w.heap.size + 1) S) => refTry_any hr hG ⟨by omega, by omega⟩ 1 h 0 0 0 0
            unfold opV resV at T2
            simp only [ht] at T2
            generalize tryS S 1 h 0 0 0 0 = S1 at T T2 hg1 hG1 hl9
            go_wp2_with (first
              | (go_at_call 16; (with_reducible refine T.mono ?_); rintro _ W3 ⟨rfl, hP3, hS3, hN3⟩; have hR3 := hR.nt hN3)
              | (go_at_call 17; (with_reducible refine (T2 _ hR3).mono ?_); rintro _ W4 ⟨rfl, hR4, hN4⟩))
            have hP4 := (hP3.ref (by simp) (by simp) hN4).1
            clear T T2 hP3 hS3 hN3 hR3 hN4 hP hR
            go_loopw [11] (fun v wr => Rd8 (w) l2.length w.heap.size (w.heap.size + 1) 31 (fun S => Gone S h) v wr) (fun v _ => l2.length - (intOf v).toNat)
            case atStart => exact ⟨0, S1, rfl, Nat.zero_le _, hP4, hR4, hG1, by omega, by omega, hg1⟩
            case round =>
              obtain ⟨i, S, rfl, hi, hP, hR, hG, hL, hT, hQ⟩ := hrel
              have hbw := hw0.trans (hP.size.mono hw0.size)
              by_cases hil : i < l2.length
              · have i1 : (i : Int) < l2.length := by omega
                have i0 : (0 : Int) ≤ i := by omega
                obtain ⟨b, off0, rfl, hb, hc⟩ := hE2 (by intro e; rw [e] at hil; simp at hil)
                obtain ⟨d1, h1, o1, n1, c1, r1, own1, hw1, hcs⟩ := ca_cells hbw hb hc hil
                obtain ⟨x0, x1, x2, x3, x4, x5, x6⟩ := hcs wr hbw
                have ht := tried_any hR hG (by omega) d1 h1 o1 n1 c1 r1 own1
                have HWR := Lib.hid (trR_wf (S := S) (d := d1) (h := h1) (off := o1) (n := n1) (own := own1) hw1.2.2.2.2.2)
                generalize trC S d1 h1 o1 n1 c1 own1 = C at ht
                generalize trR S d1 h1 o1 n1 r1 own1 = R at ht HWR
                have HW1 := Lib.hid hw1
                have HCS := Lib.hid hcs
                have HC := Lib.hid hc
                clear hw1 hcs hc
                go_wp2_with (first
                  | (go_at_call 15; (with_reducible refine ht.mono ?_); rintro _ _ ⟨rfl, y, rfl⟩))
                have hP1 := (hP.later y).guard (.cells #[.int .i64 C, .int .i64 R] 35)
                have hR1 := (hR.later y).later ⟨_, (Below.refl _ _).alloc (Nat.le_refl _) (.cells #[.int .i64 C, .int .i64 R] 35)⟩
                have hq := heap_alloc_new y.at' (.cells #[.int .i64 C, .int .i64 R] 35)
                simp only at hP1 hR1 hq
                generalize y.at'.alloc (.cells #[.int .i64 C, .int .i64 R] 35) = W1 at hP1 hR1 hq ⊢
                generalize y.at'.heap.size = qb at hP1 hq ⊢
                clear ht y x0 x1 x2 x3 x4 x5 x6 hP hR
                refine region_tail 7 (by kernel_rfl) (by kernel_rfl) ?_
                have hP2 := hP1.drew
                have hR2 := hR1.drew
                have hq2 : W1.drew.heap[qb]? = some (.cells #[.int .i64 C, .int .i64 R] 35 (0, 0)) := hq
                generalize W1.drew = W2 at hP2 hR2 hq2 ⊢
                clear hP1 hR1 hq
                have hb2 := hw0.trans (hP2.size.mono hw0.size)
                obtain ⟨x0, x1, x2, x3, x4, x5, x6⟩ := HCS.out W2 hb2
                have q0 : W2.cell? ⟨qb, 0, none⟩ = some (.int .i64 C) := by simp [World.cell?, hq2]
                have q1 : W2.cell? ⟨qb, 1, none⟩ = some (.int .i64 R) := by simp [World.cell?, hq2]
                have T := hP2.tryN hG ⟨by omega, by omega⟩ d1 h1 o1 n1 C R HW1.out.2.1 HWR.out
                simp only [List.take_succ_cons, List.take_zero, List.drop_succ_cons, List.drop_zero]
                repeat still_step
                refine wpStill_nil ?_
                go_wp2_with (first
                  | (go_at_call 16; (with_reducible refine T.mono ?_); rintro _ W3 ⟨rfl, hP3, hS3, hN3⟩))
                have hR3 := hR2.nt hN3
                have hq3 := (hS3 qb (by simp)).trans hq2
                clear x0 x1 x2 x3 x4 x5 x6 q0 q1 T hP2 hR2 hq2 hb2 hS3 hN3
                refine region_tail 7 (by kernel_rfl) (by kernel_rfl) ?_
                have hP4 := hP3.drew
                have hR4 := hR3.drew
                have hq4 : W3.drew.heap[qb]? = some (.cells #[.int .i64 C, .int .i64 R] 35 (0, 0)) := hq3
                generalize W3.drew = W4 at hP4 hR4 hq4 ⊢
                clear hP3 hR3 hq3
                have hb4 := hw0.trans (hP4.size.mono hw0.size)
                obtain ⟨x0, x1, x2, x3, x4, x5, x6⟩ := HCS.out W4 hb4
                have q0 : W4.cell? ⟨qb, 0, none⟩ = some (.int .i64 C) := by simp [World.cell?, hq4]
                have q1 : W4.cell? ⟨qb, 1, none⟩ = some (.int .i64 R) := by simp [World.cell?, hq4]
                have T := refTry_any hR4 hG ⟨by omega, by omega⟩ d1 h1 o1 n1 C R
                unfold opV resV at T
                simp only [List.take_succ_cons, List.take_zero, List.drop_succ_cons, List.drop_zero]
                repeat still_step
                refine wpStill_nil ?_
                go_wp2_with (first
                  | (go_at_call 17; (with_reducible refine T.mono ?_); rintro _ W5 ⟨rfl, hR5, hN5⟩))
                have hP5 := ((hP4.ref (by simp) (by simp) hN5).1).sub (B' := [(w.heap.size + 1)]) (by simp)
                have hl5 := tryS_len S d1 h1 o1 n1 C R
                go_roundw
                case rel => exact ⟨i + 1, _, by go_num, by omega, hP5, hR5, hG.tryS _ _ _ _ _ _, by omega, by omega, gone_stays hG hQ _ _ _ _ _ _⟩
                case measure => simp [intOf]; omega
              · have i1 : ¬ (i : Int) < l2.length := by omega
                obtain ⟨e1, e2, e3⟩ := gone_stale hQ
                have ha := hP.answer hG 2 h 0 0 hh
                rw [e1, e2] at ha
                have T := fun (W : World) (B : List Nat) (hp : PM w W w.heap.size S B) => hp.tryN hG ⟨by omega, by omega⟩ 0 0 0 1 0 h rfl hh
                simp only [e3] at T
                clear hbw hP4 hR4
                go_wp2_with (first
                  | (go_at_call 13; (with_reducible refine ha.mono ?_); rintro _ _ ⟨rfl, y, rfl⟩; have hP5 := (hP.later y).guard (.cells #[.int .i64 4, .int .i64 0] 35); have hq := heap_alloc_new y.at' (.cells #[.int .i64 4, .int .i64 0] 35))
                  | (go_at_call 16; (with_reducible refine (T _ _ hP5).mono ?_); rintro _ W5 ⟨rfl, hP6, hS6, hN6⟩; have hq6 := (hS6 y.at'.heap.size (by simp)).trans hq; have q0 : W5.cell? ⟨y.at'.heap.size, 0, none⟩ = some (.int .i64 4) := (by simp [World.cell?, hq6]); have q1 : W5.cell? ⟨y.at'.heap.size, 1, none⟩ = some (.int .i64 0) := (by simp [World.cell?, hq6]))
                  | (go_at_call 9; (with_reducible refine (hlv _).mono ?_); rintro _ _ ⟨rfl, x, rfl⟩))
                go_ret
                exact Ret.mk rfl (x.cat hP6.size hP6.size.size)
    · have hl1 : decide ((l2.length : Int) ≤ 30) = false := decide_eq_false (by omega)
      rw [hl1] at hsm2
      clear hl1
      go_enter Try.func5, Try.ntmps5
      go_wp2_with (first
        | (go_at_call 8; (with_reducible refine (hsm _).mono ?_); rintro _ _ ⟨rfl, rfl⟩)
        | (go_at_call 8; (with_reducible refine (hsm2 _).mono ?_); rintro _ _ ⟨rfl, rfl⟩)
        | (go_at_call 9; (with_reducible refine (hlv _).mono ?_); rintro _ _ ⟨rfl, x, rfl⟩))
      go_ret
      exact Ret.mk rfl x.below
  · have hl1 : decide ((l.length : Int) ≤ 30) = false := decide_eq_false (by omega)
    rw [hl1] at hsm
    clear hl1
    go_enter Try.func5, Try.ntmps5
    go_wp2_with (first
      | (go_at_call 8; (with_reducible refine (hsm _).mono ?_); rintro _ _ ⟨rfl, rfl⟩)
      | (go_at_call 8; (with_reducible refine (hsm2 _).mono ?_); rintro _ _ ⟨rfl, rfl⟩)
      | (go_at_call 9; (with_reducible refine (hlv _).mono ?_); rintro _ _ ⟨rfl, x, rfl⟩))
    go_ret
    exact Ret.mk rfl x.below
end Go.Proofs.Ytlcegnehlhakdaa
