/-
  The walk of ReadWaits.
  Conditions: none but that the tables read as they are laid.
-/
import Derived.Test.YtnahjnbhmlomcaaDoorRdObj
import Derived.Test.YtnahjnbhmlomcaaDoorRdLive
namespace Go.Proofs.YtnahjnbhmlomcaaDoor
open Go.RowKit
attribute [local go_sem] Later.cell Later.frozen Later.lt Later.le
set_option linter.unusedVariables false
set_option linter.unusedSimpArgs false

/-- The words of a layout of one thread and one slot, at first; with an object of 8 bytes at 0, locked, and not. -/
def wo0 : List Int := [0, 1, 0, 0, 0, 0, 0, 0]
theorem wo_at (ws : List Int) (hl : (ws.length : Int) = wordsN 1 1) (ha : ∀ y, atI ws y = stV 1 1 (fun _ => 0) y) : ws = wo0 := by
  have h11 : ws.length = 8 := by have : wordsN 1 1 = 8 := by decide
                                 omega
  refine List.ext_getElem (by rw [h11]; rfl) fun i h1 h2 => ?_
  have h := ha i
  rw [atI_nat, show ws.getD i 0 = ws[i] from by simp [h1]] at h
  rw [h]
  have h9 : i < 8 := by omega
  clear h ha hl h11 h1
  have : ∀ j : Fin 8, stV 1 1 (fun _ => 0) ((j.val : Nat) : Int) = wo0[j.val]'j.isLt := by decide +kernel
  exact this ⟨i, h9⟩
theorem mk00 : mkV 0 0 = 1099511627776 ∧ mkE 0 0 = 0 := by decide +kernel
/-- The bytes: the first one is b's lowest eight bits. -/
def waB (b : Int) : List Int := b % 256 :: List.replicate 7 0
theorem wa_bytes (b : Int) : setI (List.replicate (8 : Int).toNat 0) 0 (b % 256) = waB b := by rfl
theorem tmod_bd (n : Int) : -256 < n.tmod 256 ∧ n.tmod 256 < 256 ∧ n = 256 * n.tdiv 256 + n.tmod 256 := by
  refine ⟨?_, Int.tmod_lt_of_pos n (by decide), (Int.mul_tdiv_add_tmod n 256).symm⟩
  by_cases h : 0 ≤ n
  · have := Int.tmod_nonneg 256 h
    omega
  · have h1 := Int.tmod_lt_of_pos (-n) (show (0 : Int) < 256 by decide)
    rw [Int.neg_tmod] at h1
    omega
theorem back_mod (n : Int) : n % 256 = n.tmod 256 % 256 := by
  obtain ⟨h1, h2, h3⟩ := tmod_bd n
  omega
def woL : List Int := [0, 1, 0, 0, 0, 844424930131968, 8, 0]
def woU : List Int := [0, 1, 0, 0, 0, 562949953421312, 8, 0]
theorem wo_lock : setI (setI wo0 5 844424930131968) 6 8 = woL := by decide +kernel
theorem wo_free : setI woL 5 562949953421312 = woU := by decide +kernel
def mw0 : Rm := ⟨true, 0, 0, 0, 1, 0, false, 0, 0, 0⟩
theorem mw_new : rmNew 1099511627776 1 0 = mw0 := by
  unfold rmNew mw0
  rw [show ofB 1099511627776 1 = true from by decide +kernel, show ofS 1099511627776 1 = 0 from by decide +kernel, show ofG 1099511627776 1 = 0 from by decide +kernel]
theorem wa_step (bs : List Int) : rmO 1 1 mw0 woL bs = mw0 := by
  rw [rmO_1 rfl]
  unfold rm1
  rw [if_pos (show mw0.kn = true from rfl), if_pos (show ownB (atI woL (partN 1 1 mw0.slot 0)) mw0.gen = true from by decide +kernel), if_pos (show (upV (atI woL (partN 1 1 mw0.slot 0))).lk = true from by decide +kernel)]
theorem wa_tells : rmT mw0 mw0 = (0, 0, false) := by decide +kernel
theorem wa_own : OwnAt 562949953421312 0 0 := ⟨by decide +kernel, by decide +kernel, by decide +kernel, by decide, by decide⟩
theorem wa_run (b : Int) : (rmRun 1 1 woU (waB b) 10 0 mw0).1 = (0, b.tmod 256 % 256) ∧ ((rmRun 1 1 woU (waB b) 10 0 mw0).2.1 : Int) = 4 := by
  have := rm_reads (t := 1) (s := 1) (ws := woU) (bs := waB b) (M := mw0) (f := 6) (i := 0) (x := 562949953421312) (o := 0) (z := 8) rfl rfl (by decide +kernel) wa_own (by decide +kernel) (by decide) (by decide) (by decide)
  rw [this.1, this.2, ← back_mod]
  exact ⟨rfl, rfl⟩
section
variable {w W : World} {A : PAt} {t s : Int} {ws bs : List Int} {K : List (Nat × List Value)} {k : Nat} {M : Rm}
theorem rvRun2 (N : Nat) (NI : Int) (hNI : NI = N) (hN : N ≤ 1000) {c r j : Int} (h : Rv w A t s ws bs K W) (hk : A.hi ≤ k) (hK : ∀ p ∈ K, p.1 ≠ k) (hP : Fs W k (rmL t s M)) (hst : 0 ≤ M.step ∧ M.step ≤ 4) (hr : (rmRun t s ws bs N 0 M).1 = (c, r) ∧ ((rmRun t s ws bs N 0 M).2.1 : Int) = j) :
    Calls Tryd.prog 14 #[.pointer (some ⟨A.p, 0, none⟩), .pointer (some ⟨k, 0, none⟩), .int .i64 NI] W fun e w' => e = .returned (.tuple #[.agg #[.int .i64 c, .int .i64 r], .int .i64 j]) ∧ Rv w A t s ws bs K w' := by
  subst hNI
  obtain ⟨n, hm⟩ := h.mem
  have := rrun_any N hN hst (h.seat hk) hm hP
  rw [hr.1, hr.2] at this
  have hlo := h.lo
  have hlh := h.lohi
  exact this.mono fun _ _ ⟨he, m, hm', _⟩ => ⟨he, h.steps' (by omega) hK m hm'⟩
theorem rvStep {c r : Int} {d : Bool} {M' : Rm} (h : Rv w A t s ws bs K W) (hk : A.hi ≤ k) (hK : ∀ p ∈ K, p.1 ≠ k) (hP : Fs W k (rmL t s M)) (hst : 0 ≤ M.step ∧ M.step ≤ 4) (hO : rmO t s M ws bs = M') (hT : rmT M M' = (c, r, d)) :
    Calls Tryd.prog 13 #[.pointer (some ⟨k, 0, none⟩), ifc A] W fun e w' => e = .returned (.tuple #[.agg #[.int .i64 c, .int .i64 r], .bool d]) ∧ Rv w A t s ws bs K w' ∧ Fs w' k (rmL t s M') := by
  obtain ⟨n, hm⟩ := h.mem
  have := rstep_any hst (h.seat hk) hm hP
  rw [hO, hT] at this
  have hlo := h.lo
  have hlh := h.lohi
  exact this.mono fun _ _ ⟨he, m, hm', hf⟩ => ⟨he, h.steps' (by omega) hK m hm', hf⟩
end
/-- The rounds' relation. -/
def WaRel (w : World) (A : PAt) (k : Nat) (bs : List Int) (N : Nat) (v : Value) (wr : World) : Prop := ∃ i : Nat, v = .int .i64 i ∧ i ≤ N ∧ Rv w A 1 1 woL bs [] wr ∧ Fs wr k (rmL 1 1 mw0)

set_option maxHeartbeats 8000000 in
set_option maxRecDepth 8000 in
theorem waits_yes (N : Nat) (b : Int) (hN : N ≤ 50) {w : World} (hH : HasHead w) (hE : HasFields w) : Calls Tryd.prog 4 #[.int .i64 N, .int .i64 b] w (Ret w (.bool true)) := by
  have hst := start_yes 8 1 1 (by decide) (w.alloc (.cells #[.int .i64 8, .int .i64 1, .int .i64 1] 26)) (hH.alloc _)
  have hmk := fun W => Make_same 0 0 W
  rw [mk00.1, mk00.2] at hmk
  have n1 := fun W => rnew_yes 8 1 1 1099511627776 0 (by decide) W
  rw [mw_new] at n1
  have hE0 := hE.alloc (.cells #[.int .i64 8, .int .i64 1, .int .i64 1] 26)
  have hw0 : Below w.heap.size w (w.alloc (.cells #[.int .i64 8, .int .i64 1, .int .i64 1] 26)) := (Below.refl _ _).alloc (Nat.le_refl _) _
  have hlv := fun W => rlive_any W
  have hn0 : (0 : Int) ≤ N := by omega
  have hn1 : (N : Int) ≤ 50 := by omega
  go_enter Tryd.func4, Tryd.ntmps4
  go_wp2_with (first
    | (go_at_call 7; (with_reducible refine hst.mono ?_); rintro _ V1 ⟨A, rfl, hlo, hB1, ws, n, hM1, hlen, hat⟩; have hws := wo_at ws hlen hat; subst hws; have hv1 : Rv (w.alloc (.cells #[.int .i64 8, .int .i64 1, .int .i64 1] 26)) A 1 1 wo0 (List.replicate (8 : Int).toNat 0) [] V1 := ⟨hB1, hE0, ⟨n, hM1⟩, hlo, (fun p hp => absurd hp (by simp)), (by decide), (by decide), (by decide), (by decide)⟩)
    | (go_at_call 8; (with_reducible refine (hmk _).mono ?_); rintro _ _ ⟨rfl, rfl⟩)
    | (go_at_call 10; (with_reducible refine (rvStore hv1 _ _).mono ?_); rintro _ V2 ⟨rfl, hv2, -⟩; clear hv1)
    | (go_at_call 10; (with_reducible refine (rvStore hv2 _ _).mono ?_); rintro _ V3 ⟨rfl, hv3, -⟩; rw [wo_lock] at hv3; clear hv2)
    | (go_at_call 11; (with_reducible refine (rvByte hv3 _ _).mono ?_); rintro _ V4 ⟨rfl, hv4, -⟩; rw [wa_bytes] at hv4; obtain ⟨a0, a1, a2⟩ := rv_cell hv4)
    | (go_at_call 12; (with_reducible refine (n1 _).mono ?_); rintro _ V5 ⟨k1, rfl, hk1, hb1, hf1⟩; have hv5 := hv4.below hb1))
  have hk : A.hi ≤ k1 := by
    obtain ⟨n, hm⟩ := hv4.mem
    have := hm.hs
    omega
  clear hst hmk n1 hv4 hb1 a0 a1 a2 hk1 hB1 hM1 hlen hat
  go_loopw [10] (fun v wr => WaRel (w.alloc (.cells #[.int .i64 8, .int .i64 1, .int .i64 1] 26)) A k1 (waB b) N v wr) (fun v _ => N - (intOf v).toNat)
  case atStart => exact ⟨0, rfl, Nat.zero_le _, hv5, hf1⟩
  case round =>
    obtain ⟨i, rfl, hi, hv, hf⟩ := hrel
    clear hv5 hf1
    by_cases hiN : i < N
    · have i1 : (i : Int) < N := by omega
      have hs := rvStep hv hk (fun p hp => absurd hp (by simp)) hf (by decide) (wa_step _) wa_tells
      unfold ifc at hs
      go_wp2_with (first
        | (go_at_call 13; (with_reducible refine hs.mono ?_); rintro _ W1 ⟨rfl, hv1, hf1⟩))
      go_roundw
      case rel => exact ⟨i + 1, by go_num, by omega, hv1.alloc _, hf1.alloc _⟩
      case measure => simp [intOf]; omega
    · have i1 : ¬ (i : Int) < N := by omega
      have hrn := fun (W : World) (hv : Rv (w.alloc (.cells #[.int .i64 8, .int .i64 1, .int .i64 1] 26)) A 1 1 woU (waB b) [] W) (hf : Fs W k1 (rmL 1 1 mw0)) => rvRun2 10 10 rfl (by decide) hv hk (fun p hp => absurd hp (by simp)) hf (by decide) (wa_run b)
      obtain ⟨tb1, tb2, tb3⟩ := tmod_bd b
      clear tb3
      go_wp2_with (first
        | (go_at_call 10; (with_reducible refine (rvStore hv _ _).mono ?_); rintro _ V2 ⟨rfl, hv2, ht2⟩; rw [wo_free] at hv2; have hf2 := hf.touch ht2 (Or.inr hk))
        | (go_at_call 14; (with_reducible refine (hrn _ hv2 hf2).mono ?_); rintro _ V3 ⟨rfl, hv3⟩; have hv4 := hv3.alloc (.cells #[.int .i64 0, .int .i64 (b.tmod 256 % 256)] 37); have hB4 := hw0.trans (hv4.bel.mono hw0.size))
        | (go_at_call 9; (with_reducible refine (hlv _ (hH.below hB4) (hE.below hB4 hE.lt)).mono ?_); rintro _ _ ⟨rfl, x5, rfl⟩))
      go_ret
      exact Ret.mk rfl (x5.cat hB4 hB4.size)

set_option maxHeartbeats 4000000 in
theorem ReadWaits_walk {n b : Int} {w : World} (hH : HasHead w) (hE : HasFields w) : Calls Tryd.prog 4 #[.int .i64 n, .int .i64 b] w (Ret w (.bool true)) := by
  by_cases hn : 0 ≤ n ∧ n ≤ 50
  · obtain ⟨N, rfl⟩ := Int.eq_ofNat_of_zero_le hn.1
    exact waits_yes N b (by omega) hH hE
  · have hst := start_yes 8 1 1 (by decide) (w.alloc (.cells #[.int .i64 8, .int .i64 1, .int .i64 1] 26)) (hH.alloc _)
    have hmk := fun W => Make_same 0 0 W
    rw [mk00.1, mk00.2] at hmk
    have hw0 : Below w.heap.size w (w.alloc (.cells #[.int .i64 8, .int .i64 1, .int .i64 1] 26)) := (Below.refl _ _).alloc (Nat.le_refl _) _
    have hlv := fun W => rlive_any W
    by_cases h0 : n < 0
    · go_enter Tryd.func4, Tryd.ntmps4
      go_wp2_with (first
        | (go_at_call 7; (with_reducible refine hst.mono ?_); rintro _ V1 ⟨A, rfl, hlo, hB1, ws, n, hM1, hlen, hat⟩; have hB4 := hw0.trans (hB1.mono hw0.size))
        | (go_at_call 8; (with_reducible refine (hmk _).mono ?_); rintro _ _ ⟨rfl, rfl⟩)
        | (go_at_call 9; (with_reducible refine (hlv _ (hH.below hB4) (hE.below hB4 hE.lt)).mono ?_); rintro _ _ ⟨rfl, x5, rfl⟩))
      go_ret
      exact Ret.mk rfl (x5.cat hB4 hB4.size)
    · have h1 : 50 < n := by omega
      go_enter Tryd.func4, Tryd.ntmps4
      go_wp2_with (first
        | (go_at_call 7; (with_reducible refine hst.mono ?_); rintro _ V1 ⟨A, rfl, hlo, hB1, ws, n, hM1, hlen, hat⟩; have hB4 := hw0.trans (hB1.mono hw0.size))
        | (go_at_call 8; (with_reducible refine (hmk _).mono ?_); rintro _ _ ⟨rfl, rfl⟩)
        | (go_at_call 9; (with_reducible refine (hlv _ (hH.below hB4) (hE.below hB4 hE.lt)).mono ?_); rintro _ _ ⟨rfl, x5, rfl⟩))
      go_ret
      exact Ret.mk rfl (x5.cat hB4 hB4.size)
end Go.Proofs.YtnahjnbhmlomcaaDoor
