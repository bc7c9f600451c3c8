/-
  The statement ModelRefused of layer 7, walked: true, whatever the calls are.
  Conditions: that the calls lie as they are read.
-/
import Derived.Test.YtlcegnehlhakdaaMdRound
namespace Go.Proofs.Ytlcegnehlhakdaa
open Go.RowKit Go.Maps Go
attribute [local go_sem] Later.cell Later.frozen Later.lt Later.le
set_option linter.unusedVariables false
set_option linter.unusedSimpArgs false
set_option maxRecDepth 8000

set_option maxHeartbeats 8000000 in
theorem ModelRefused_any {p : Option Addr} {cap : Nat} {l : List Ca} {w : World} (hE : CaP w p l) (d h off n c r : Int) (own : Bool) (hh : (Lit.int .i64 h).wf = true) (hr : (Lit.int .i64 r).wf = true) :
    Calls Try.prog 6 #[.slice p l.length cap, .agg #[.int .i64 d, .int .i64 h, .int .i64 off, .int .i64 n, .int .i64 c, .int .i64 r, .bool own]] w (Ret w (.bool true)) := by
  have hlv := fun W => live_any W
  have hsm := fun W => small_any p l.length cap 30 W
  have hw0 : Below w.heap.size w (w.alloc (.cells #[.int .i64 d, .int .i64 h, .int .i64 off, .int .i64 n, .int .i64 c, .int .i64 r, .bool own] 41)) := (Below.refl _ _).alloc (Nat.le_refl _) _
  by_cases hl : l.length ≤ 30
  · have hl1 : decide ((l.length : Int) ≤ 30) = true := decide_eq_true (by omega)
    rw [hl1] at hsm
    clear hl1
    go_enter Try.func6, Try.ntmps6
    go_wp2_with (first
      | (go_at_call 8; (with_reducible refine (hsm _).mono ?_); rintro _ _ ⟨rfl, rfl⟩)
      | (go_at_call 10; (with_reducible refine (New_any _).mono ?_); rintro _ _ ⟨rfl, rfl⟩))
    go_loopw [7] (fun v wr => Rd7 (w.alloc (.cells #[.int .i64 d, .int .i64 h, .int .i64 off, .int .i64 n, .int .i64 c, .int .i64 r, .bool own] 41)) l.length (w.heap.size + 1) (w.heap.size + 1 + 1) v wr) (fun v _ => l.length - (intOf v).toNat)
    case atStart => have := Rd7.begin (w.alloc (.cells #[.int .i64 d, .int .i64 h, .int .i64 off, .int .i64 n, .int .i64 c, .int .i64 r, .bool own] 41)) l.length _ rfl _ rfl; simpa using this
    case round =>
      obtain ⟨i, S, rfl, hi, hP, hR, hG, hL, hT⟩ := hrel
      have hbw := hw0.trans (hP.size.mono hw0.size)
      by_cases hil : i < l.length
      · have i1 : (i : Int) < l.length := by omega
        have i0 : (0 : Int) ≤ i := by omega
        obtain ⟨b, off0, rfl, hb, hc⟩ := hE (by intro e; rw [e] at hil; simp at hil)
        obtain ⟨d1, h1, o1, n1, c1, r1, own1, hw1, hcs⟩ := ca_cells hbw hb hc hil
        obtain ⟨x0, x1, x2, x3, x4, x5, x6⟩ := hcs wr hbw
        have ht := tried_any hR hG (by omega) d1 h1 o1 n1 c1 r1 own1
        have HWR := Lib.hid (trR_wf (S := S) (d := d1) (h := h1) (off := o1) (n := n1) (own := own1) hw1.2.2.2.2.2)
        generalize trC S d1 h1 o1 n1 c1 own1 = C at ht
        generalize trR S d1 h1 o1 n1 r1 own1 = R at ht HWR
        have HW1 := Lib.hid hw1
        have HCS := Lib.hid hcs
        have HC := Lib.hid hc
        clear hw1 hcs hc
        go_wp2_with (first
          | (go_at_call 15; (with_reducible refine ht.mono ?_); rintro _ _ ⟨rfl, y, rfl⟩))
        have hP1 := (hP.later y).guard (.cells #[.int .i64 C, .int .i64 R] 35)
        have hR1 := (hR.later y).later ⟨_, (Below.refl _ _).alloc (Nat.le_refl _) (.cells #[.int .i64 C, .int .i64 R] 35)⟩
        have hq := heap_alloc_new y.at' (.cells #[.int .i64 C, .int .i64 R] 35)
        simp only at hP1 hR1 hq
        generalize y.at'.alloc (.cells #[.int .i64 C, .int .i64 R] 35) = W1 at hP1 hR1 hq ⊢
        generalize y.at'.heap.size = qb at hP1 hq ⊢
        clear ht y x0 x1 x2 x3 x4 x5 x6 hP hR
        refine region_tail 7 (by kernel_rfl) (by kernel_rfl) ?_
        have hP2 := hP1.drew
        have hR2 := hR1.drew
        have hq2 : W1.drew.heap[qb]? = some (.cells #[.int .i64 C, .int .i64 R] 35 (0, 0)) := hq
        generalize W1.drew = W2 at hP2 hR2 hq2 ⊢
        clear hP1 hR1 hq
        have hb2 := hw0.trans (hP2.size.mono hw0.size)
        obtain ⟨x0, x1, x2, x3, x4, x5, x6⟩ := HCS.out W2 hb2
        have q0 : W2.cell? ⟨qb, 0, none⟩ = some (.int .i64 C) := by simp [World.cell?, hq2]
        have q1 : W2.cell? ⟨qb, 1, none⟩ = some (.int .i64 R) := by simp [World.cell?, hq2]
        have T := hP2.tryN hG ⟨by omega, by omega⟩ d1 h1 o1 n1 C R HW1.out.2.1 HWR.out
        simp only [List.take_succ_cons, List.take_zero, List.drop_succ_cons, List.drop_zero]
        repeat still_step
        refine wpStill_nil ?_
        go_wp2_with (first
          | (go_at_call 16; (with_reducible refine T.mono ?_); rintro _ W3 ⟨rfl, hP3, hS3, hN3⟩))
        have hR3 := hR2.nt hN3
        have hq3 := (hS3 qb (by simp)).trans hq2
        clear x0 x1 x2 x3 x4 x5 x6 q0 q1 T hP2 hR2 hq2 hb2 hS3 hN3
        refine region_tail 7 (by kernel_rfl) (by kernel_rfl) ?_
        have hP4 := hP3.drew
        have hR4 := hR3.drew
        have hq4 : W3.drew.heap[qb]? = some (.cells #[.int .i64 C, .int .i64 R] 35 (0, 0)) := hq3
        generalize W3.drew = W4 at hP4 hR4 hq4 ⊢
        clear hP3 hR3 hq3
        have hb4 := hw0.trans (hP4.size.mono hw0.size)
        obtain ⟨x0, x1, x2, x3, x4, x5, x6⟩ := HCS.out W4 hb4
        have q0 : W4.cell? ⟨qb, 0, none⟩ = some (.int .i64 C) := by simp [World.cell?, hq4]
        have q1 : W4.cell? ⟨qb, 1, none⟩ = some (.int .i64 R) := by simp [World.cell?, hq4]
        have T := refTry_any hR4 hG ⟨by omega, by omega⟩ d1 h1 o1 n1 C R
        unfold opV resV at T
        simp only [List.take_succ_cons, List.take_zero, List.drop_succ_cons, List.drop_zero]
        repeat still_step
        refine wpStill_nil ?_
        go_wp2_with (first
          | (go_at_call 17; (with_reducible refine T.mono ?_); rintro _ W5 ⟨rfl, hR5, hN5⟩))
        have hP5 := ((hP4.ref (by simp) (by simp) hN5).1).sub (B' := [(w.heap.size + 1 + 1)]) (by simp)
        have hl5 := tryS_len S d1 h1 o1 n1 C R
        go_roundw
        case rel => exact ⟨i + 1, _, by go_num, by omega, hP5, hR5, hG.tryS _ _ _ _ _ _, by omega, by omega⟩
        case measure => simp [intOf]; omega
      · have i1 : ¬ (i : Int) < l.length := by omega
        have hcp := hP.copy
        have hcc : ∀ W' : World, Below (w.alloc (.cells #[.int .i64 d, .int .i64 h, .int .i64 off, .int .i64 n, .int .i64 c, .int .i64 r, .bool own] 41)).heap.size (w.alloc (.cells #[.int .i64 d, .int .i64 h, .int .i64 off, .int .i64 n, .int .i64 c, .int .i64 r, .bool own] 41)) W' → W'.cell? ⟨w.heap.size, 0, none⟩ = some (.int .i64 d) ∧ W'.cell? ⟨w.heap.size, 1, none⟩ = some (.int .i64 h) ∧ W'.cell? ⟨w.heap.size, 2, none⟩ = some (.int .i64 off) ∧ W'.cell? ⟨w.heap.size, 3, none⟩ = some (.int .i64 n) ∧ W'.cell? ⟨w.heap.size, 4, none⟩ = some (.int .i64 c) ∧ W'.cell? ⟨w.heap.size, 5, none⟩ = some (.int .i64 r) ∧ W'.cell? ⟨w.heap.size, 6, none⟩ = some (.bool own) := fun W' hb => by
          have hq : W'.heap[w.heap.size]? = some (.cells #[.int .i64 d, .int .i64 h, .int .i64 off, .int .i64 n, .int .i64 c, .int .i64 r, .bool own] 41 (0, 0)) := (hb.block _ (by simp)).trans (heap_alloc_new w _)
          exact ⟨by simp [World.cell?, hq], by simp [World.cell?, hq], by simp [World.cell?, hq], by simp [World.cell?, hq], by simp [World.cell?, hq], by simp [World.cell?, hq], by simp [World.cell?, hq]⟩
        clear hbw hP hR
        cases ht : tryB S d h off n c r
        · have hre : tryS S d h off n c r = S := refused (fun e => by rw [ht] at e; simp at e)
          have T := fun (W : World) (g2 : Nat) (B : List Nat) (hp : PM (w.alloc (.cells #[.int .i64 d, .int .i64 h, .int .i64 off, .int .i64 n, .int .i64 c, .int .i64 r, .bool own] 41)) W (w.heap.size + 1) S B) => hp.tryN hG ⟨by omega, by omega⟩ d h off n c r hh hr
          simp only [ht] at T
          go_wp2_with (first
            | (go_at_call 11; (with_reducible refine hcp.mono ?_); rintro _ _ ⟨g2, F2, rfl, ⟨bo2, bt2, hF2, hM2⟩, hP2, y, rfl⟩; obtain ⟨z0, z1, z2, z3, z4, z5, z6⟩ := hcc _ hP2.size)
            | (go_at_call 16; (with_reducible refine (T _ g2 _ hP2).mono ?_); rintro _ W3 ⟨rfl, hP3, hS3, hN3⟩; clear z0 z1 z2 z3 z4 z5 z6; obtain ⟨z0, z1, z2, z3, z4, z5, z6⟩ := hcc _ hP3.size; have hb3 := hw0.trans (hP3.size.mono hw0.size); have hS4 : Stay (foot g2 bo2 bt2) y.at' W3 := fun b hb => hS3 b (List.mem_append_left _ (hF2 ▸ hb)); have hM3 := hM2.stay hS4; obtain ⟨bo3, bt3, hMm, hMrest⟩ := hP3; rw [hre] at hMm; have s1 := Same_any hMm hM3 hG hG; have s2 := fun (x : Later W3) => Same_any (hM3.later x) (hMm.later x) hG hG; rw [same_self] at s1; simp only [same_self] at s2)
            | (go_at_call 25; (with_reducible refine s1.mono ?_); rintro _ _ ⟨rfl, x1, rfl⟩)
            | (go_at_call 25; (with_reducible refine (later_of _ (s2 _)).mono ?_); rintro _ _ ⟨rfl, x2, rfl⟩)
            | (go_at_call 9; (with_reducible refine (hlv _).mono ?_); rintro _ _ ⟨rfl, x3, rfl⟩))
          go_ret
          exact Ret.mk rfl (x3.cat (x2.cat hb3 hb3.size) (Nat.le_trans hb3.size x2.below.size))
        · by_cases hc0 : c = 0
          · subst hc0
            have T := fun (W : World) (g2 : Nat) (B : List Nat) (hp : PM (w.alloc (.cells #[.int .i64 d, .int .i64 h, .int .i64 off, .int .i64 n, .int .i64 0, .int .i64 r, .bool own] 41)) W (w.heap.size + 1) S B) => hp.tryN hG ⟨by omega, by omega⟩ d h off n 0 r hh hr
            simp only [ht] at T
            go_wp2_with (first
              | (go_at_call 11; (with_reducible refine hcp.mono ?_); rintro _ _ ⟨g2, F2, rfl, ⟨bo2, bt2, hF2, hM2⟩, hP2, y, rfl⟩; obtain ⟨z0, z1, z2, z3, z4, z5, z6⟩ := hcc _ hP2.size)
              | (go_at_call 16; (with_reducible refine (T _ g2 _ hP2).mono ?_); rintro _ W3 ⟨rfl, hP3, hS3, hN3⟩; clear z0 z1 z2 z3 z4 z5 z6; obtain ⟨z0, z1, z2, z3, z4, z5, z6⟩ := hcc _ hP3.size; have hb3 := hw0.trans (hP3.size.mono hw0.size))
              | (go_at_call 9; (with_reducible refine (hlv _).mono ?_); rintro _ _ ⟨rfl, x, rfl⟩))
            go_ret
            exact Ret.mk rfl (x.cat hb3 hb3.size)
          · have hre : tryS S d h off n c r = S := refused (fun e => hc0 e.2)
            have hc1 : (c == 0) = false := by simpa using hc0
            have T := fun (W : World) (g2 : Nat) (B : List Nat) (hp : PM (w.alloc (.cells #[.int .i64 d, .int .i64 h, .int .i64 off, .int .i64 n, .int .i64 c, .int .i64 r, .bool own] 41)) W (w.heap.size + 1) S B) => hp.tryN hG ⟨by omega, by omega⟩ d h off n c r hh hr
            simp only [ht] at T
            go_wp2_with (first
              | (go_at_call 11; (with_reducible refine hcp.mono ?_); rintro _ _ ⟨g2, F2, rfl, ⟨bo2, bt2, hF2, hM2⟩, hP2, y, rfl⟩; obtain ⟨z0, z1, z2, z3, z4, z5, z6⟩ := hcc _ hP2.size)
              | (go_at_call 16; (with_reducible refine (T _ g2 _ hP2).mono ?_); rintro _ W3 ⟨rfl, hP3, hS3, hN3⟩; clear z0 z1 z2 z3 z4 z5 z6; obtain ⟨z0, z1, z2, z3, z4, z5, z6⟩ := hcc _ hP3.size; have hb3 := hw0.trans (hP3.size.mono hw0.size); have hS4 : Stay (foot g2 bo2 bt2) y.at' W3 := fun b hb => hS3 b (List.mem_append_left _ (hF2 ▸ hb)); have hM3 := hM2.stay hS4; obtain ⟨bo3, bt3, hMm, hMrest⟩ := hP3; rw [hre] at hMm; have s1 := Same_any hMm hM3 hG hG; have s2 := fun (x : Later W3) => Same_any (hM3.later x) (hMm.later x) hG hG; rw [same_self] at s1; simp only [same_self] at s2)
              | (go_at_call 25; (with_reducible refine s1.mono ?_); rintro _ _ ⟨rfl, x1, rfl⟩)
              | (go_at_call 25; (with_reducible refine (later_of _ (s2 _)).mono ?_); rintro _ _ ⟨rfl, x2, rfl⟩)
              | (go_at_call 9; (with_reducible refine (hlv _).mono ?_); rintro _ _ ⟨rfl, x3, rfl⟩))
            go_ret
            exact Ret.mk rfl (x3.cat (x2.cat hb3 hb3.size) (Nat.le_trans hb3.size x2.below.size))
  · have hl1 : decide ((l.length : Int) ≤ 30) = false := decide_eq_false (by omega)
    rw [hl1] at hsm
    clear hl1
    go_enter Try.func6, Try.ntmps6
    go_wp2_with (first
      | (go_at_call 8; (with_reducible refine (hsm _).mono ?_); rintro _ _ ⟨rfl, rfl⟩)
      | (go_at_call 9; (with_reducible refine (hlv _).mono ?_); rintro _ _ ⟨rfl, x, rfl⟩))
    go_ret
    exact Ret.mk rfl (x.cat hw0 hw0.size)
end Go.Proofs.Ytlcegnehlhakdaa
