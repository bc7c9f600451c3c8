/-
  The walk of WriteWaits.
  Conditions: none but that the tables read as they are laid.
-/
import Derived.Test.YtnojemmpgaibkaaDoorWrObj
namespace Go.Proofs.YtnojemmpgaibkaaDoor
open Go.RowKit
attribute [local go_sem] Later.cell Later.frozen Later.lt Later.le
set_option linter.unusedVariables false
set_option linter.unusedSimpArgs false

/-- The words with a word of the entry. -/
def wwL (x : Int) : List Int := [0, 1, 0, 0, 0, x, 8, 0]
theorem ww_set (x y : Int) : setI (setI wo0 5 x) 6 8 = wwL x ∧ setI (wwL x) 5 y = wwL y ∧ atI (wwL x) 5 = x := ⟨rfl, rfl, rfl⟩
def mwW (b v : Int) : Wm := ⟨true, 0, 0, 0, b, 1, v, 0, 0⟩
theorem ww_step1 (b v : Int) (bs : List Int) : wmO 1 1 (mwW b v) (wwL 844424930131968) bs = mwW b 844424930131968 := by kernel_rfl
theorem ww_step0 (b v : Int) (bs : List Int) : wmO 1 1 (mwW b v) (wwL 826832744087552) bs = mwW b 826832744087552 := by kernel_rfl
def wwZ : List Int := [0, 0, 0, 0, 0, 0, 0, 0]
theorem ww_zero : List.replicate (8 : Int).toNat (0 : Int) = wwZ := rfl
/-- The rounds' relation. -/
def WwRel (w : World) (A : PAt) (k : Nat) (b X : Int) (N : Nat) (v : Value) (wr : World) : Prop := ∃ (i : Nat) (x : Int), v = .int .i64 i ∧ i ≤ N ∧ Rv w A 1 1 (wwL X) wwZ [] wr ∧ Fs wr k (wmL 1 1 (mwW b x))

set_option maxHeartbeats 8000000 in
set_option maxRecDepth 8000 in
theorem wwaits_true (N : Nat) (b : Int) (hN : N ≤ 50) {w : World} (hH : HasHead w) (hE : HasFields w) : Calls Tryd.prog 4 #[.int .i64 N, .int .i64 b, .bool true] w (Ret w (.bool true)) := by
  have hst := start_yes 8 1 1 (by decide) (w.alloc (.cells #[.int .i64 8, .int .i64 1, .int .i64 1] 26)) (hH.alloc _)
  have hmk := fun W => Make_same 0 0 W
  rw [mk00.1, mk00.2] at hmk
  have n1 := fun W => wnew_yes 8 1 1 1099511627776 0 b (by decide) W
  rw [wo_new] at n1
  have hE0 := hE.alloc (.cells #[.int .i64 8, .int .i64 1, .int .i64 1] 26)
  have hw0 : Below w.heap.size w (w.alloc (.cells #[.int .i64 8, .int .i64 1, .int .i64 1] 26)) := (Below.refl _ _).alloc (Nat.le_refl _) _
  have hlv := fun W => wlive_any W
  have hn0 : (0 : Int) ≤ N := by omega
  have hn1 : (N : Int) ≤ 50 := by omega
  go_enter Tryd.func4, Tryd.ntmps4
  go_wp2_with (first
    | (go_at_call 13; (with_reducible refine hst.mono ?_); rintro _ V1 ⟨A, rfl, hlo, hB1, ws, n, hM1, hlen, hat⟩; have hws := words_of 1 1 wo0 (by decide) (by decide +kernel) ws hlen hat; subst hws; rw [ww_zero] at hM1; have hv1 := Rv.begin (t := 1) (s := 1) hE0 hlo hB1 hM1 (by decide))
    | (go_at_call 14; (with_reducible refine (hmk _).mono ?_); rintro _ _ ⟨rfl, rfl⟩)
    | (go_at_call 17; (with_reducible refine (rvStore hv1 _ _).mono ?_); rintro _ V2 ⟨rfl, hv2, -⟩; clear hv1)
    | (go_at_call 17; (with_reducible refine (rvStore hv2 _ _).mono ?_); rintro _ V3 ⟨rfl, hv3, -⟩; rw [(ww_set 844424930131968 0).1] at hv3; obtain ⟨a0, a1, a2⟩ := rv_cell hv3; clear hv2)
    | (go_at_call 18; (with_reducible refine (n1 _).mono ?_); rintro _ V5 ⟨k1, rfl, hk1, hb1, hf1⟩; have hv5 := hv3.below hb1; have hk := Nat.le_trans hv3.hi_le hk1))
  clear hst hmk n1 hv3 hb1 a0 a1 a2 hk1 hB1 hM1 hlen hat
  go_loopw [13] (fun v wr => WwRel (w.alloc (.cells #[.int .i64 8, .int .i64 1, .int .i64 1] 26)) A k1 b 844424930131968 N v wr) (fun v _ => N - (intOf v).toNat)
  case atStart => exact ⟨0, 0, rfl, Nat.zero_le _, hv5, hf1⟩
  case round =>
    obtain ⟨i, x, rfl, hi, hv, hf⟩ := hrel
    clear hv5 hf1
    by_cases hiN : i < N
    · have i1 : (i : Int) < N := by omega
      have hs := rvwStep (c := 0) (d := false) hv hk (fun p hp => absurd hp (by simp)) hf (show (0 : Int) ≤ 1 ∧ (1 : Int) ≤ 6 by decide) (ww_step1 b x wwZ) (wmO_1 (bs := wwZ) rfl).2.1 (wmO_1 (t := 1) (s := 1) (ws := wwL 844424930131968) rfl).2.2 rfl
      unfold ifc at hs
      go_wp2_with (first
        | (go_at_call 19; (with_reducible refine hs.mono ?_); rintro _ W1 ⟨rfl, hv1, hf1, -⟩; have hv2 := hv1.alloc (.cells #[.int .i64 0, .int .i64 0] 41); have hf2 := hf1.alloc (.cells #[.int .i64 0, .int .i64 0] 41))
        | (go_at_call 20; (with_reducible refine (wguards_any hf2).mono ?_); rintro _ _ ⟨rfl, rfl⟩; rw [show wmG (mwW b 844424930131968) = false from rfl])
        | (go_at_call 22; (with_reducible refine (rvLoad hv2 _).mono ?_); rintro _ W2 ⟨rfl, hv3, ht3⟩; have hf3 := hf2.touch ht3 (Or.inr hk); rw [(ww_set 844424930131968 0).2.2])
        | (go_at_call 24; (with_reducible refine (rvByteAt hv3 _).mono ?_); rintro _ W3 ⟨rfl, hv4, ht4⟩; have hf4 := hf3.touch ht4 (Or.inr hk); rw [show atI wwZ 0 = 0 from rfl]))
      go_roundw
      case rel => exact ⟨i + 1, 844424930131968, by go_num, by omega, hv4, hf4⟩
      case measure => simp [intOf]; omega
    · have i1 : ¬ (i : Int) < N := by omega
      obtain ⟨M6, h60, e6⟩ := wo_run (off := 0) (b := b) (wd := x) (ba := 0) (bs := wwZ) (by decide) (by decide)
      have hrn := fun (W : World) (hv : Rv (w.alloc (.cells #[.int .i64 8, .int .i64 1, .int .i64 1] 26)) A 1 1 (wwL 562949953421312) wwZ [] W) (hf : Fs W k1 (wmL 1 1 (mwW b x))) => rvwRun 10 10 rfl (by decide) hv hk (fun p hp => absurd hp (by simp)) hf (show (0 : Int) ≤ 1 ∧ (1 : Int) ≤ 6 by decide) e6
      obtain ⟨tb1, tb2, tb3⟩ := tmod_bd b
      clear tb3 e6
      go_wp2_with (first
        | (go_at_call 17; (with_reducible refine (rvStore hv _ _).mono ?_); rintro _ V2 ⟨rfl, hv2, ht2⟩; rw [(ww_set 844424930131968 562949953421312).2.1] at hv2; have hf2 := hf.touch ht2 (Or.inr hk))
        | (go_at_call 23; (with_reducible refine (hrn _ hv2 hf2).mono ?_); rintro _ V3 ⟨rfl, hv3, -, -⟩; have hv4 := hv3.alloc (.cells #[.int .i64 0, .int .i64 0] 41))
        | (go_at_call 24; (with_reducible refine (rvByteAt hv4 _).mono ?_); rintro _ V5 ⟨rfl, hv5, -⟩; have hB4 := hw0.trans (hv5.bel.mono hw0.size); rw [show atI (setI wwZ 0 (b % 256)) 0 = b.tmod 256 % 256 from back_mod b])
        | (go_at_call 16; (with_reducible refine (hlv _ (hH.below hB4) (hE.below hB4 hE.lt)).mono ?_); rintro _ _ ⟨rfl, x5, rfl⟩))
      go_ret
      exact Ret.mk rfl (x5.cat hB4 hB4.size)
set_option maxHeartbeats 8000000 in
set_option maxRecDepth 8000 in
theorem wwaits_false (N : Nat) (b : Int) (hN : N ≤ 50) {w : World} (hH : HasHead w) (hE : HasFields w) : Calls Tryd.prog 4 #[.int .i64 N, .int .i64 b, .bool false] w (Ret w (.bool true)) := by
  have hst := start_yes 8 1 1 (by decide) (w.alloc (.cells #[.int .i64 8, .int .i64 1, .int .i64 1] 26)) (hH.alloc _)
  have hmk := fun W => Make_same 0 0 W
  rw [mk00.1, mk00.2] at hmk
  have n1 := fun W => wnew_yes 8 1 1 1099511627776 0 b (by decide) W
  rw [wo_new] at n1
  have hE0 := hE.alloc (.cells #[.int .i64 8, .int .i64 1, .int .i64 1] 26)
  have hw0 : Below w.heap.size w (w.alloc (.cells #[.int .i64 8, .int .i64 1, .int .i64 1] 26)) := (Below.refl _ _).alloc (Nat.le_refl _) _
  have hlv := fun W => wlive_any W
  have hn0 : (0 : Int) ≤ N := by omega
  have hn1 : (N : Int) ≤ 50 := by omega
  go_enter Tryd.func4, Tryd.ntmps4
  go_wp2_with (first
    | (go_at_call 13; (with_reducible refine hst.mono ?_); rintro _ V1 ⟨A, rfl, hlo, hB1, ws, n, hM1, hlen, hat⟩; have hws := words_of 1 1 wo0 (by decide) (by decide +kernel) ws hlen hat; subst hws; rw [ww_zero] at hM1; have hv1 := Rv.begin (t := 1) (s := 1) hE0 hlo hB1 hM1 (by decide))
    | (go_at_call 14; (with_reducible refine (hmk _).mono ?_); rintro _ _ ⟨rfl, rfl⟩)
    | (go_at_call 17; (with_reducible refine (rvStore hv1 _ _).mono ?_); rintro _ V2 ⟨rfl, hv2, -⟩; clear hv1)
    | (go_at_call 17; (with_reducible refine (rvStore hv2 _ _).mono ?_); rintro _ V3 ⟨rfl, hv3, -⟩; rw [(ww_set 826832744087552 0).1] at hv3; obtain ⟨a0, a1, a2⟩ := rv_cell hv3; clear hv2)
    | (go_at_call 18; (with_reducible refine (n1 _).mono ?_); rintro _ V5 ⟨k1, rfl, hk1, hb1, hf1⟩; have hv5 := hv3.below hb1; have hk := Nat.le_trans hv3.hi_le hk1))
  clear hst hmk n1 hv3 hb1 a0 a1 a2 hk1 hB1 hM1 hlen hat
  go_loopw [13] (fun v wr => WwRel (w.alloc (.cells #[.int .i64 8, .int .i64 1, .int .i64 1] 26)) A k1 b 826832744087552 N v wr) (fun v _ => N - (intOf v).toNat)
  case atStart => exact ⟨0, 0, rfl, Nat.zero_le _, hv5, hf1⟩
  case round =>
    obtain ⟨i, x, rfl, hi, hv, hf⟩ := hrel
    clear hv5 hf1
    by_cases hiN : i < N
    · have i1 : (i : Int) < N := by omega
      have hs := rvwStep (c := 0) (d := false) hv hk (fun p hp => absurd hp (by simp)) hf (show (0 : Int) ≤ 1 ∧ (1 : Int) ≤ 6 by decide) (ww_step0 b x wwZ) (wmO_1 (bs := wwZ) rfl).2.1 (wmO_1 (t := 1) (s := 1) (ws := wwL 826832744087552) rfl).2.2 rfl
      unfold ifc at hs
      go_wp2_with (first
        | (go_at_call 19; (with_reducible refine hs.mono ?_); rintro _ W1 ⟨rfl, hv1, hf1, -⟩; have hv2 := hv1.alloc (.cells #[.int .i64 0, .int .i64 0] 41); have hf2 := hf1.alloc (.cells #[.int .i64 0, .int .i64 0] 41))
        | (go_at_call 20; (with_reducible refine (wguards_any hf2).mono ?_); rintro _ _ ⟨rfl, rfl⟩; rw [show wmG (mwW b 826832744087552) = false from rfl])
        | (go_at_call 22; (with_reducible refine (rvLoad hv2 _).mono ?_); rintro _ W2 ⟨rfl, hv3, ht3⟩; have hf3 := hf2.touch ht3 (Or.inr hk); rw [(ww_set 826832744087552 0).2.2])
        | (go_at_call 24; (with_reducible refine (rvByteAt hv3 _).mono ?_); rintro _ W3 ⟨rfl, hv4, ht4⟩; have hf4 := hf3.touch ht4 (Or.inr hk); rw [show atI wwZ 0 = 0 from rfl]))
      go_roundw
      case rel => exact ⟨i + 1, 826832744087552, by go_num, by omega, hv4, hf4⟩
      case measure => simp [intOf]; omega
    · have i1 : ¬ (i : Int) < N := by omega
      obtain ⟨M6, h60, e6⟩ := wo_run (off := 0) (b := b) (wd := x) (ba := 0) (bs := wwZ) (by decide) (by decide)
      have hrn := fun (W : World) (hv : Rv (w.alloc (.cells #[.int .i64 8, .int .i64 1, .int .i64 1] 26)) A 1 1 (wwL 562949953421312) wwZ [] W) (hf : Fs W k1 (wmL 1 1 (mwW b x))) => rvwRun 10 10 rfl (by decide) hv hk (fun p hp => absurd hp (by simp)) hf (show (0 : Int) ≤ 1 ∧ (1 : Int) ≤ 6 by decide) e6
      obtain ⟨tb1, tb2, tb3⟩ := tmod_bd b
      clear tb3 e6
      go_wp2_with (first
        | (go_at_call 17; (with_reducible refine (rvStore hv _ _).mono ?_); rintro _ V2 ⟨rfl, hv2, ht2⟩; rw [(ww_set 826832744087552 562949953421312).2.1] at hv2; have hf2 := hf.touch ht2 (Or.inr hk))
        | (go_at_call 23; (with_reducible refine (hrn _ hv2 hf2).mono ?_); rintro _ V3 ⟨rfl, hv3, -, -⟩; have hv4 := hv3.alloc (.cells #[.int .i64 0, .int .i64 0] 41))
        | (go_at_call 24; (with_reducible refine (rvByteAt hv4 _).mono ?_); rintro _ V5 ⟨rfl, hv5, -⟩; have hB4 := hw0.trans (hv5.bel.mono hw0.size); rw [show atI (setI wwZ 0 (b % 256)) 0 = b.tmod 256 % 256 from back_mod b])
        | (go_at_call 16; (with_reducible refine (hlv _ (hH.below hB4) (hE.below hB4 hE.lt)).mono ?_); rintro _ _ ⟨rfl, x5, rfl⟩))
      go_ret
      exact Ret.mk rfl (x5.cat hB4 hB4.size)
set_option maxHeartbeats 4000000 in
theorem WriteWaits_walk {n b : Int} {lock : Bool} {w : World} (hH : HasHead w) (hE : HasFields w) : Calls Tryd.prog 4 #[.int .i64 n, .int .i64 b, .bool lock] w (Ret w (.bool true)) := by
  by_cases hn : 0 ≤ n ∧ n ≤ 50
  · obtain ⟨N, rfl⟩ := Int.eq_ofNat_of_zero_le hn.1
    cases lock
    · exact wwaits_false N b (by omega) hH hE
    · exact wwaits_true N b (by omega) hH hE
  · have hst := start_yes 8 1 1 (by decide) (w.alloc (.cells #[.int .i64 8, .int .i64 1, .int .i64 1] 26)) (hH.alloc _)
    have hmk := fun W => Make_same 0 0 W
    rw [mk00.1, mk00.2] at hmk
    have hw0 : Below w.heap.size w (w.alloc (.cells #[.int .i64 8, .int .i64 1, .int .i64 1] 26)) := (Below.refl _ _).alloc (Nat.le_refl _) _
    have hlv := fun W => wlive_any W
    by_cases h0 : n < 0
    · go_enter Tryd.func4, Tryd.ntmps4
      go_wp2_with (first
        | (go_at_call 13; (with_reducible refine hst.mono ?_); rintro _ V1 ⟨A, rfl, hlo, hB1, ws, n, hM1, hlen, hat⟩; have hB4 := hw0.trans (hB1.mono hw0.size))
        | (go_at_call 14; (with_reducible refine (hmk _).mono ?_); rintro _ _ ⟨rfl, rfl⟩)
        | (go_at_call 16; (with_reducible refine (hlv _ (hH.below hB4) (hE.below hB4 hE.lt)).mono ?_); rintro _ _ ⟨rfl, x5, rfl⟩))
      go_ret
      exact Ret.mk rfl (x5.cat hB4 hB4.size)
    · have h1 : 50 < n := by omega
      go_enter Tryd.func4, Tryd.ntmps4
      go_wp2_with (first
        | (go_at_call 13; (with_reducible refine hst.mono ?_); rintro _ V1 ⟨A, rfl, hlo, hB1, ws, n, hM1, hlen, hat⟩; have hB4 := hw0.trans (hB1.mono hw0.size))
        | (go_at_call 14; (with_reducible refine (hmk _).mono ?_); rintro _ _ ⟨rfl, rfl⟩)
        | (go_at_call 16; (with_reducible refine (hlv _ (hH.below hB4) (hE.below hB4 hE.lt)).mono ?_); rintro _ _ ⟨rfl, x5, rfl⟩))
      go_ret
      exact Ret.mk rfl (x5.cat hB4 hB4.size)
end Go.Proofs.YtnojemmpgaibkaaDoor
