/-
  The walk of PinWaits.
  Conditions: none but that the tables read as they are laid.
-/
import Derived.Test.YtnojemmpgaibkaaDoorPnLive
namespace Go.Proofs.YtnojemmpgaibkaaDoor
open Go.RowKit
attribute [local go_sem] Later.cell Later.frozen Later.lt Later.le
set_option linter.unusedVariables false
set_option linter.unusedSimpArgs false

def pwM (x : Int) : Pm := ⟨true, 0, 0, false, 1, x, 0, 0⟩
theorem pw_new : pmNew 1099511627776 1 false = pwM 0 := by kernel_rfl
theorem pw_step (x : Int) : pmO 1 1 (pwM x) (wpX 844424930131968) = pwM 844424930131968 := by kernel_rfl
theorem pw_run (x : Int) : ∃ M, pmRun 1 1 10 0 (pwM x) (wpX 562949953421312) = ⟨0, 2, M, wpX 564049465049088⟩ := ⟨(pmRun 1 1 10 0 (pwM x) (wpX 562949953421312)).M, by kernel_rfl⟩
/-- The rounds' relation. -/
def PwRel (w : World) (A : PAt) (k : Nat) (bs : List Int) (N : Nat) (v : Value) (wr : World) : Prop := ∃ (i : Nat) (x : Int), v = .int .i64 i ∧ i ≤ N ∧ Rv w A 1 1 (wpX 844424930131968) bs [] wr ∧ Fs wr k (pmL 1 1 (pwM x))

set_option maxHeartbeats 8000000 in
set_option maxRecDepth 8000 in
theorem pwaits_yes (N : Nat) (hN : N ≤ 50) {w : World} (hH : HasHead w) (hE : HasFields w) : Calls Tryd.prog 10 #[.int .i64 N] w (Ret w (.bool true)) := by
  have hst := start14_yes 8 1 1 (by decide) (w.alloc (.cells #[.int .i64 8, .int .i64 1, .int .i64 1] 26)) (hH.alloc _)
  have hmk := fun W => Make_same 0 0 W
  rw [mk00.1, mk00.2] at hmk
  have n1 : ∀ W, Calls Tryd.prog 29 #[.agg #[.int .i64 8, .int .i64 1, .int .i64 1], .int .i64 1099511627776] W fun e w' => ∃ k, e = .returned (.pointer (some ⟨k, 0, none⟩)) ∧ W.heap.size ≤ k ∧ Below W.heap.size W w' ∧ Fs w' k (pmL 1 1 (pwM 0)) := fun W => pw_new ▸ pnew_yes 8 1 1 1099511627776 false (by decide) W
  have hE0 := hE.alloc (.cells #[.int .i64 8, .int .i64 1, .int .i64 1] 26)
  have hw0 : Below w.heap.size w (w.alloc (.cells #[.int .i64 8, .int .i64 1, .int .i64 1] 26)) := (Below.refl _ _).alloc (Nat.le_refl _) _
  have hlv := fun W => plive_any W
  have hn0 : (0 : Int) ≤ N := by omega
  have hn1 : (N : Int) ≤ 50 := by omega
  go_enter Tryd.func10, Tryd.ntmps10
  go_wp2_with (first
    | (go_at_call 26; (with_reducible refine hst.mono ?_); rintro _ V1 ⟨A, rfl, hlo, hB1, ws, n, hM1, hlen, hat⟩; have hws := words_of 1 1 wp0 (by decide) (by decide +kernel) ws hlen hat; subst hws; have hv1 := Rv.begin (t := 1) (s := 1) hE0 hlo hB1 hM1 (by decide))
    | (go_at_call 14; (with_reducible refine (hmk _).mono ?_); rintro _ _ ⟨rfl, rfl⟩)
    | (go_at_call 17; (with_reducible refine (rvStore hv1 _ _).mono ?_); rintro _ V3 ⟨rfl, hv3, -⟩; rw [(wp_set 844424930131968 0).1] at hv3; obtain ⟨a0, a1, a2⟩ := rv_cell hv3; clear hv1)
    | (go_at_call 29; (with_reducible refine (n1 _).mono ?_); rintro _ V5 ⟨k1, rfl, hk1, hb1, hf1⟩; have hv5 := hv3.below hb1; have hk := Nat.le_trans hv3.hi_le hk1))
  clear hst hmk n1 hv3 hb1 a0 a1 a2 hk1 hB1 hM1 hlen hat
  generalize List.replicate (8 : Int).toNat (0 : Int) = bs at hv5
  go_loopw [8] (fun v wr => PwRel (w.alloc (.cells #[.int .i64 8, .int .i64 1, .int .i64 1] 26)) A k1 bs N v wr) (fun v _ => N - (intOf v).toNat)
  case atStart => exact ⟨0, 0, rfl, Nat.zero_le _, hv5, hf1⟩
  case round =>
    obtain ⟨i, x, rfl, hi, hv, hf⟩ := hrel
    clear hv5 hf1
    by_cases hiN : i < N
    · have i1 : (i : Int) < N := by omega
      have hs := rvpStep (c := 0) (d := false) hv hk (fun p hp => absurd hp (by simp)) hf (show (0 : Int) ≤ 1 ∧ (1 : Int) ≤ 2 by decide) (pw_step x) (pmO_1 rfl).2 rfl
      unfold ifc at hs
      go_wp2_with (first
        | (go_at_call 32; (with_reducible refine hs.mono ?_); rintro _ W1 ⟨rfl, hv1, hf1, -⟩; have hv2 := hv1.alloc (.cells #[.int .i64 0, .int .i64 0] 41); have hf2 := hf1.alloc (.cells #[.int .i64 0, .int .i64 0] 41))
        | (go_at_call 22; (with_reducible refine (rvLoad hv2 _).mono ?_); rintro _ W2 ⟨rfl, hv4, ht3⟩; have hf4 := hf2.touch ht3 (Or.inr hk); rw [(wp_set 844424930131968 0).2.2]))
      go_roundw
      case rel => exact ⟨i + 1, 844424930131968, by go_num, by omega, hv4, hf4⟩
      case measure => simp [intOf]; omega
    · have i1 : ¬ (i : Int) < N := by omega
      obtain ⟨M6, e6⟩ := pw_run x
      have hrn := fun (W : World) (hv : Rv (w.alloc (.cells #[.int .i64 8, .int .i64 1, .int .i64 1] 26)) A 1 1 (wpX 562949953421312) bs [] W) (hf : Fs W k1 (pmL 1 1 (pwM x))) => rvpRun 10 10 rfl (by decide) hv hk (fun p hp => absurd hp (by simp)) hf (show (0 : Int) ≤ 1 ∧ (1 : Int) ≤ 2 by decide) e6
      clear e6
      go_wp2_with (first
        | (go_at_call 17; (with_reducible refine (rvStore hv _ _).mono ?_); rintro _ V2 ⟨rfl, hv2, ht2⟩; rw [(wp_set 844424930131968 562949953421312).2.1] at hv2; have hf2 := hf.touch ht2 (Or.inr hk))
        | (go_at_call 37; (with_reducible refine (hrn _ hv2 hf2).mono ?_); rintro _ V3 ⟨rfl, hv3, -, -⟩; have hv4 := hv3.alloc (.cells #[.int .i64 0, .int .i64 0] 41))
        | (go_at_call 22; (with_reducible refine (rvLoad hv4 _).mono ?_); rintro _ V5 ⟨rfl, hv5, -⟩; have hB4 := hw0.trans (hv5.bel.mono hw0.size); rw [(wp_set 564049465049088 0).2.2])
        | (go_at_call 25; (with_reducible refine (hlv _ (hH.below hB4) (hE.below hB4 hE.lt)).mono ?_); rintro _ _ ⟨rfl, x5, rfl⟩))
      go_ret
      exact Ret.mk rfl (x5.cat hB4 hB4.size)
set_option maxHeartbeats 4000000 in
theorem PinWaits_walk {n : Int} {w : World} (hH : HasHead w) (hE : HasFields w) : Calls Tryd.prog 10 #[.int .i64 n] w (Ret w (.bool true)) := by
  by_cases hn : 0 ≤ n ∧ n ≤ 50
  · obtain ⟨N, rfl⟩ := Int.eq_ofNat_of_zero_le hn.1
    exact pwaits_yes N (by omega) hH hE
  · have hst := start14_yes 8 1 1 (by decide) (w.alloc (.cells #[.int .i64 8, .int .i64 1, .int .i64 1] 26)) (hH.alloc _)
    have hmk := fun W => Make_same 0 0 W
    rw [mk00.1, mk00.2] at hmk
    have hw0 : Below w.heap.size w (w.alloc (.cells #[.int .i64 8, .int .i64 1, .int .i64 1] 26)) := (Below.refl _ _).alloc (Nat.le_refl _) _
    have hlv := fun W => plive_any W
    by_cases h0 : n < 0
    · skip
      go_enter Tryd.func10, Tryd.ntmps10
      go_wp2_with (first
        | (go_at_call 26; (with_reducible refine hst.mono ?_); rintro _ V1 ⟨A, rfl, hlo, hB1, ws, n, hM1, hlen, hat⟩; have hB4 := hw0.trans (hB1.mono hw0.size))
        | (go_at_call 14; (with_reducible refine (hmk _).mono ?_); rintro _ _ ⟨rfl, rfl⟩)
        | (go_at_call 25; (with_reducible refine (hlv _ (hH.below hB4) (hE.below hB4 hE.lt)).mono ?_); rintro _ _ ⟨rfl, x5, rfl⟩))
      go_ret
      exact Ret.mk rfl (x5.cat hB4 hB4.size)
    · have h1 : 50 < n := by omega
      go_enter Tryd.func10, Tryd.ntmps10
      go_wp2_with (first
        | (go_at_call 26; (with_reducible refine hst.mono ?_); rintro _ V1 ⟨A, rfl, hlo, hB1, ws, n, hM1, hlen, hat⟩; have hB4 := hw0.trans (hB1.mono hw0.size))
        | (go_at_call 14; (with_reducible refine (hmk _).mono ?_); rintro _ _ ⟨rfl, rfl⟩)
        | (go_at_call 25; (with_reducible refine (hlv _ (hH.below hB4) (hE.below hB4 hE.lt)).mono ?_); rintro _ _ ⟨rfl, x5, rfl⟩))
      go_ret
      exact Ret.mk rfl (x5.cat hB4 hB4.size)
end Go.Proofs.YtnojemmpgaibkaaDoor
