/-
  The walk of ReadSame.
  Conditions: none but that the tables read as they are laid.
-/
import Derived.Test.YtnahjnbhmlomcaaDoorReadWaitsLaw
namespace Go.Proofs.YtnahjnbhmlomcaaDoor
open Go.RowKit
attribute [local go_sem] Later.cell Later.frozen Later.lt Later.le
set_option linter.unusedVariables false
set_option linter.unusedSimpArgs false

def woS : List Int := [0, 1, 0, 0, 0, 562949953421320, 16, 0]
theorem wo_same : setI (setI wo0 5 562949953421320) 6 16 = woS := by decide +kernel
theorem sa_own : OwnAt 562949953421320 0 8 := ⟨by decide +kernel, by decide +kernel, by decide +kernel, by decide, by decide⟩
/-- What is told of a read at off. -/
def saC (off : Int) : Int := if 0 ≤ off ∧ off < 16 then 0 else 5
def saN (bs : List Int) (off : Int) : Int := if 0 ≤ off ∧ off < 16 then atI bs (8 + off) else 0
theorem sa_new (off : Int) : rmNew 1099511627776 1 off = ⟨true, 0, 0, off, 1, 0, false, 0, 0, 0⟩ := by
  unfold rmNew
  rw [show ofB 1099511627776 1 = true from by decide +kernel, show ofS 1099511627776 1 = 0 from by decide +kernel, show ofG 1099511627776 1 = 0 from by decide +kernel]
theorem sa_run (bs : List Int) (off : Int) : ∃ j : Int, (rmRun 1 1 woS bs 10 0 (rmNew 1099511627776 1 off)).1 = (saC off, saN bs off) ∧ ((rmRun 1 1 woS bs 10 0 (rmNew 1099511627776 1 off)).2.1 : Int) = j := by
  refine ⟨_, ?_, rfl⟩
  rw [sa_new]
  unfold saC saN
  by_cases h : 0 ≤ off ∧ off < 16
  · rw [if_pos h, if_pos h]
    exact (rm_reads (t := 1) (s := 1) (ws := woS) (bs := bs) (M := ⟨true, 0, 0, off, 1, 0, false, 0, 0, 0⟩) (f := 6) (i := 0) (x := 562949953421320) (o := 8) (z := 16) rfl rfl (by show atI woS (partN 1 1 0 0) = _; decide +kernel) sa_own (by show atI woS (partN 1 1 0 1) = _; decide +kernel) (by decide) (by decide) h).1
  · rw [if_neg h, if_neg h]
    exact (rm_outside (t := 1) (s := 1) (ws := woS) (bs := bs) (M := ⟨true, 0, 0, off, 1, 0, false, 0, 0, 0⟩) (f := 7) (i := 0) (x := 562949953421320) (o := 8) (z := 16) rfl rfl (by show atI woS (partN 1 1 0 0) = _; decide +kernel) sa_own (by show atI woS (partN 1 1 0 1) = _; decide +kernel) (by decide) (by decide) h).1
/-- The bytes behind the loop's rounds. -/
def saB (v : Nat → Int) : Nat → List Int
  | 0 => List.replicate 32 0
  | i + 1 => setI (saB v i) (8 + i) (v i % 256)
theorem saB_len (v : Nat → Int) : ∀ i, (saB v i).length = 32
  | 0 => by simp [saB]
  | i + 1 => by
    unfold saB setI
    split
    · rw [List.length_set]; exact saB_len v i
    · exact saB_len v i
theorem saB_at (v : Nat → Int) (j : Nat) (hj : j < 16) : ∀ i, j < i → i ≤ 16 → atI (saB v i) (8 + j) = v j % 256
  | 0, h, _ => absurd h (by omega)
  | i + 1, h, h16 => by
    have hin : inI (saB v i) (8 + i) = true := inI_iff.2 ⟨by omega, by rw [saB_len]; omega⟩
    show atI (setI (saB v i) (8 + i) (v i % 256)) (8 + j) = _
    rw [atI_set _ _ _ _ hin]
    by_cases e : j = i
    · subst e
      rw [if_pos rfl]
    · rw [if_neg (by omega)]
      exact saB_at v j hj i (by omega) (by omega)
/-- The array's cells. -/
theorem sa_cell {w W : World} {A : PAt} {ws bs : List Int} {K : List (Nat × List Value)} {v : Nat → Int} (h : Rv ((w.alloc (.cells #[.int .i64 (v 0), .int .i64 (v 1), .int .i64 (v 2), .int .i64 (v 3), .int .i64 (v 4), .int .i64 (v 5), .int .i64 (v 6), .int .i64 (v 7), .int .i64 (v 8), .int .i64 (v 9), .int .i64 (v 10), .int .i64 (v 11), .int .i64 (v 12), .int .i64 (v 13), .int .i64 (v 14), .int .i64 (v 15)] 45)).alloc (.cells #[.int .i64 32, .int .i64 1, .int .i64 1] 26)) A 1 1 ws bs K W) (i : Nat) (hi : i < 16) : W.cell? ⟨w.heap.size, i, none⟩ = some (.int .i64 (v i)) := by
  have hf : Fs W w.heap.size ((List.range 16).map fun i => .int .i64 (v i)) := ((Fs.new' (w := w) #[.int .i64 (v 0), .int .i64 (v 1), .int .i64 (v 2), .int .i64 (v 3), .int .i64 (v 4), .int .i64 (v 5), .int .i64 (v 6), .int .i64 (v 7), .int .i64 (v 8), .int .i64 (v 9), .int .i64 (v 10), .int .i64 (v 11), .int .i64 (v 12), .int .i64 (v 13), .int .i64 (v 14), .int .i64 (v 15)] 45 rfl rfl).alloc _).below h.bel (by simp; omega)
  exact hf.at' i (by simp [hi])
theorem sa_lt {w W : World} {A : PAt} {ws bs : List Int} {K : List (Nat × List Value)} {v : Nat → Int} (h : Rv ((w.alloc (.cells #[.int .i64 (v 0), .int .i64 (v 1), .int .i64 (v 2), .int .i64 (v 3), .int .i64 (v 4), .int .i64 (v 5), .int .i64 (v 6), .int .i64 (v 7), .int .i64 (v 8), .int .i64 (v 9), .int .i64 (v 10), .int .i64 (v 11), .int .i64 (v 12), .int .i64 (v 13), .int .i64 (v 14), .int .i64 (v 15)] 45)).alloc (.cells #[.int .i64 32, .int .i64 1, .int .i64 1] 26)) A 1 1 ws bs K W) : w.heap.size < W.heap.size := by
  have := h.bel.size
  simp at this
  omega
theorem sa_conf {w W : World} {A : PAt} {ws bs : List Int} {K : List (Nat × List Value)} {v : Nat → Int} (h : Rv ((w.alloc (.cells #[.int .i64 (v 0), .int .i64 (v 1), .int .i64 (v 2), .int .i64 (v 3), .int .i64 (v 4), .int .i64 (v 5), .int .i64 (v 6), .int .i64 (v 7), .int .i64 (v 8), .int .i64 (v 9), .int .i64 (v 10), .int .i64 (v 11), .int .i64 (v 12), .int .i64 (v 13), .int .i64 (v 14), .int .i64 (v 15)] 45)).alloc (.cells #[.int .i64 32, .int .i64 1, .int .i64 1] 26)) A 1 1 ws bs K W) : W.cell? ⟨w.heap.size + 1, 0, none⟩ = some (.int .i64 32) ∧ W.cell? ⟨w.heap.size + 1, 1, none⟩ = some (.int .i64 1) ∧ W.cell? ⟨w.heap.size + 1, 2, none⟩ = some (.int .i64 1) := by
  have := rv_cell h
  rwa [World.size_alloc] at this
def SaRel (w : World) (A : PAt) (v : Nat → Int) (u : Value) (wr : World) : Prop := ∃ i : Nat, u = .int .i64 i ∧ i ≤ 16 ∧ Rv ((w.alloc (.cells #[.int .i64 (v 0), .int .i64 (v 1), .int .i64 (v 2), .int .i64 (v 3), .int .i64 (v 4), .int .i64 (v 5), .int .i64 (v 6), .int .i64 (v 7), .int .i64 (v 8), .int .i64 (v 9), .int .i64 (v 10), .int .i64 (v 11), .int .i64 (v 12), .int .i64 (v 13), .int .i64 (v 14), .int .i64 (v 15)] 45)).alloc (.cells #[.int .i64 32, .int .i64 1, .int .i64 1] 26)) A 1 1 woS (saB v i) [] wr

set_option maxHeartbeats 16000000 in
set_option maxRecDepth 8000 in
theorem ReadSame_walk (v : Nat → Int) (off other : Int) {w : World} (hH : HasHead w) (hE : HasFields w) : Calls Tryd.prog 6 #[.agg #[.int .i64 (v 0), .int .i64 (v 1), .int .i64 (v 2), .int .i64 (v 3), .int .i64 (v 4), .int .i64 (v 5), .int .i64 (v 6), .int .i64 (v 7), .int .i64 (v 8), .int .i64 (v 9), .int .i64 (v 10), .int .i64 (v 11), .int .i64 (v 12), .int .i64 (v 13), .int .i64 (v 14), .int .i64 (v 15)], .int .i64 off, .int .i64 other] w (Ret w (.bool true)) := by
  have hw0 : Below w.heap.size w ((w.alloc (.cells #[.int .i64 (v 0), .int .i64 (v 1), .int .i64 (v 2), .int .i64 (v 3), .int .i64 (v 4), .int .i64 (v 5), .int .i64 (v 6), .int .i64 (v 7), .int .i64 (v 8), .int .i64 (v 9), .int .i64 (v 10), .int .i64 (v 11), .int .i64 (v 12), .int .i64 (v 13), .int .i64 (v 14), .int .i64 (v 15)] 45)).alloc (.cells #[.int .i64 32, .int .i64 1, .int .i64 1] 26)) := ((Below.refl _ _).alloc (Nat.le_refl _) _).alloc (by simp) _
  have hst := start_yes 32 1 1 (by decide) ((w.alloc (.cells #[.int .i64 (v 0), .int .i64 (v 1), .int .i64 (v 2), .int .i64 (v 3), .int .i64 (v 4), .int .i64 (v 5), .int .i64 (v 6), .int .i64 (v 7), .int .i64 (v 8), .int .i64 (v 9), .int .i64 (v 10), .int .i64 (v 11), .int .i64 (v 12), .int .i64 (v 13), .int .i64 (v 14), .int .i64 (v 15)] 45)).alloc (.cells #[.int .i64 32, .int .i64 1, .int .i64 1] 26)) ((hH.alloc _).alloc _)
  have hmk := fun W => Make_same 0 0 W
  rw [mk00.1, mk00.2] at hmk
  have n1 := fun W => rnew_yes 32 1 1 1099511627776 off (by decide) W
  have n2 := fun W => rnew_yes 32 1 1 1099511627776 other (by decide) W
  have hE0 := (hE.alloc (.cells #[.int .i64 (v 0), .int .i64 (v 1), .int .i64 (v 2), .int .i64 (v 3), .int .i64 (v 4), .int .i64 (v 5), .int .i64 (v 6), .int .i64 (v 7), .int .i64 (v 8), .int .i64 (v 9), .int .i64 (v 10), .int .i64 (v 11), .int .i64 (v 12), .int .i64 (v 13), .int .i64 (v 14), .int .i64 (v 15)] 45)).alloc (.cells #[.int .i64 32, .int .i64 1, .int .i64 1] 26)
  have hlv := fun W => rlive_any W
  go_enter Tryd.func6, Tryd.ntmps6
  go_wp2_with (first
    | (go_at_call 7; (with_reducible refine hst.mono ?_); rintro _ V1 ⟨A, rfl, hlo, hB1, ws, n, hM1, hlen, hat⟩; have hws := wo_at ws hlen hat; subst hws; have hv1 : Rv ((w.alloc (.cells #[.int .i64 (v 0), .int .i64 (v 1), .int .i64 (v 2), .int .i64 (v 3), .int .i64 (v 4), .int .i64 (v 5), .int .i64 (v 6), .int .i64 (v 7), .int .i64 (v 8), .int .i64 (v 9), .int .i64 (v 10), .int .i64 (v 11), .int .i64 (v 12), .int .i64 (v 13), .int .i64 (v 14), .int .i64 (v 15)] 45)).alloc (.cells #[.int .i64 32, .int .i64 1, .int .i64 1] 26)) A 1 1 wo0 (List.replicate (32 : Int).toNat 0) [] V1 := ⟨hB1, hE0, ⟨n, hM1⟩, hlo, (fun p hp => absurd hp (by simp)), (by decide), (by decide), (by decide), (by decide)⟩)
    | (go_at_call 8; (with_reducible refine (hmk _).mono ?_); rintro _ _ ⟨rfl, rfl⟩)
    | (go_at_call 10; (with_reducible refine (rvStore hv1 _ _).mono ?_); rintro _ V2 ⟨rfl, hv2, -⟩; clear hv1)
    | (go_at_call 10; (with_reducible refine (rvStore hv2 _ _).mono ?_); rintro _ V3 ⟨rfl, hv3, -⟩; rw [wo_same] at hv3; clear hv2))
  clear hst hmk hB1 hM1 hlen hat
  go_loopw [11] (fun u wr => SaRel w A v u wr) (fun u _ => 16 - (intOf u).toNat)
  case atStart => exact ⟨0, rfl, by omega, hv3⟩
  case round =>
    obtain ⟨i, rfl, hi, hv⟩ := hrel
    clear hv3
    by_cases hi16 : i < 16
    · have i1 : (i : Int) < 16 := by omega
      have i0 : (0 : Int) ≤ i := by omega
      have c0 := sa_cell hv i hi16
      have hs := rvByte hv (8 + i) (v i)
      go_wp2_with (first
        | (go_at_call 11; (with_reducible refine hs.mono ?_); rintro _ W1 ⟨rfl, hv1, -⟩))
      go_roundw
      case rel => exact ⟨i + 1, by go_num, by omega, hv1⟩
      case measure => simp [intOf]; omega
    · have i1 : ¬ (i : Int) < 16 := by omega
      obtain rfl : i = 16 := by omega
      obtain ⟨ja, hja⟩ := sa_run (saB v 16) off
      obtain ⟨jb, hjb⟩ := sa_run (saB v 16) other
      have hst1 : ∀ o : Int, 0 ≤ (rmNew 1099511627776 1 o).step ∧ (rmNew 1099511627776 1 o).step ≤ 4 := fun o => by simp [rmNew]
      have ra := fun (V0 V : World) (K : List (Nat × List Value)) (k : Nat) (h : Rv ((w.alloc (.cells #[.int .i64 (v 0), .int .i64 (v 1), .int .i64 (v 2), .int .i64 (v 3), .int .i64 (v 4), .int .i64 (v 5), .int .i64 (v 6), .int .i64 (v 7), .int .i64 (v 8), .int .i64 (v 9), .int .i64 (v 10), .int .i64 (v 11), .int .i64 (v 12), .int .i64 (v 13), .int .i64 (v 14), .int .i64 (v 15)] 45)).alloc (.cells #[.int .i64 32, .int .i64 1, .int .i64 1] 26)) A 1 1 woS (saB v 16) K V0) (hk : V0.heap.size ≤ k) (hb : Below V0.heap.size V0 V) (hP : Fs V k (rmL 1 1 (rmNew 1099511627776 1 off))) => rvRun 10 10 rfl (by decide) h hk hb hP (hst1 _) hja
      have rb := fun (V0 V : World) (K : List (Nat × List Value)) (k : Nat) (h : Rv ((w.alloc (.cells #[.int .i64 (v 0), .int .i64 (v 1), .int .i64 (v 2), .int .i64 (v 3), .int .i64 (v 4), .int .i64 (v 5), .int .i64 (v 6), .int .i64 (v 7), .int .i64 (v 8), .int .i64 (v 9), .int .i64 (v 10), .int .i64 (v 11), .int .i64 (v 12), .int .i64 (v 13), .int .i64 (v 14), .int .i64 (v 15)] 45)).alloc (.cells #[.int .i64 32, .int .i64 1, .int .i64 1] 26)) A 1 1 woS (saB v 16) K V0) (hk : V0.heap.size ≤ k) (hb : Below V0.heap.size V0 V) (hP : Fs V k (rmL 1 1 (rmNew 1099511627776 1 other))) => rvRun 10 10 rfl (by decide) h hk hb hP (hst1 _) hjb
      clear hja hjb hst1
      obtain ⟨a0, a1, a2⟩ := sa_conf hv
      have hca : (saC off = 0 ∧ 0 ≤ off ∧ off < 16) ∨ (saC off = 5 ∧ (off < 0 ∨ 16 ≤ off)) := by unfold saC; split <;> omega
      generalize saC off = ca at ra hca
      generalize saN (saB v 16) off = na at ra
      by_cases ho : 0 ≤ other ∧ other < 16
      · obtain ⟨j, rfl⟩ := Int.eq_ofNat_of_zero_le ho.1
        have hj : j < 16 := by omega
        have hcb : saC j = 0 := if_pos ho
        have hnb : saN (saB v 16) j = (v j).tmod 256 % 256 := by unfold saN; rw [if_pos ho, saB_at v j hj 16 hj (Nat.le_refl _), back_mod]
        rw [hcb, hnb] at rb
        obtain ⟨tb1, tb2, tb3⟩ := tmod_bd (v j)
        obtain ⟨ho0, ho1⟩ := ho
        clear tb3 hcb hnb
        rcases hca with ⟨rfl, hf0, hf1⟩ | ⟨rfl, hf0 | hf0⟩
        · go_wp2_with (first
            | (go_at_call 12; have hgo := hv11.bel; clear hgo; (with_reducible refine (n1 _).mono ?_); rintro _ V12 ⟨k3, rfl, hk3, hb3, hf3⟩)
            | (go_at_call 12; (with_reducible refine (n1 _).mono ?_); rintro _ V6 ⟨k1, rfl, hk1, hb1, hf1⟩)
            | (go_at_call 14; (with_reducible refine (ra _ _ _ _ hv hk1 hb1 hf1).mono ?_); rintro _ V7 ⟨rfl, hv7⟩; have hv8 := hv7.push #[.int .i64 0, .int .i64 na] 37; clear a0 a1 a2; obtain ⟨a0, a1, a2⟩ := sa_conf hv8)
            | (go_at_call 12; (with_reducible refine (n2 _).mono ?_); rintro _ V9 ⟨k2, rfl, hk2, hb2, hf2⟩)
            | (go_at_call 14; (with_reducible refine (rb _ _ _ _ hv8 hk2 hb2 hf2).mono ?_); rintro _ V10 ⟨rfl, hv10⟩; have hv11 := hv10.push #[.int .i64 0, .int .i64 ((v j).tmod 256 % 256)] 37; clear a0 a1 a2; obtain ⟨a0, a1, a2⟩ := sa_conf hv11)
            | (go_at_call 14; (with_reducible refine (ra _ _ _ _ hv11 hk3 hb3 hf3).mono ?_); rintro _ V13 ⟨rfl, hv13⟩; have hv14 := hv13.push #[.int .i64 0, .int .i64 na] 37; obtain ⟨z1, z2⟩ := rv_two (q := V7.heap.size) (a := .int .i64 0) (b := .int .i64 na) hv14 (by simp); obtain ⟨z3, z4⟩ := rv_two (q := V10.heap.size) (a := .int .i64 0) (b := .int .i64 ((v j).tmod 256 % 256)) hv14 (by simp); have l1 := (hv14.keep (V10.heap.size, [.int .i64 0, .int .i64 ((v j).tmod 256 % 256)]) (by simp)).1.lt; have b0 := sa_cell hv14 j hj; have l2 := sa_lt hv14))
          generalize V13.alloc (.cells #[.int .i64 0, .int .i64 na] 37) = VV at *
          refine wp_region_later (by kernel_rfl) (by kernel_rfl) ?_
          repeat (go_big_quiet_step (fail))
          refine wpQuiet_nil ?_
          rintro _ ⟨x9, rfl⟩
          have hv15 := hv14.later x9
          clear z1 z2 z3 z4
          obtain ⟨z1, z2⟩ := rv_two (q := V7.heap.size) (a := .int .i64 0) (b := .int .i64 na) hv15 (by simp)
          obtain ⟨z5, z6⟩ := rv_two (q := V13.heap.size) (a := .int .i64 0) (b := .int .i64 na) hv15 (by simp)
          have hB4 := hw0.trans (hv15.bel.mono hw0.size)
          go_wp2_with (first
            | (go_at_call 9; (with_reducible refine (hlv _ (hH.below hB4) (hE.below hB4 hE.lt)).mono ?_); rintro _ _ ⟨rfl, x5, rfl⟩))
          go_ret
          exact Ret.mk rfl (x5.cat hB4 hB4.size)
        · go_wp2_with (first
            | (go_at_call 12; have hgo := hv11.bel; clear hgo; (with_reducible refine (n1 _).mono ?_); rintro _ V12 ⟨k3, rfl, hk3, hb3, hf3⟩)
            | (go_at_call 12; (with_reducible refine (n1 _).mono ?_); rintro _ V6 ⟨k1, rfl, hk1, hb1, hf1⟩)
            | (go_at_call 14; (with_reducible refine (ra _ _ _ _ hv hk1 hb1 hf1).mono ?_); rintro _ V7 ⟨rfl, hv7⟩; have hv8 := hv7.push #[.int .i64 5, .int .i64 na] 37; clear a0 a1 a2; obtain ⟨a0, a1, a2⟩ := sa_conf hv8)
            | (go_at_call 12; (with_reducible refine (n2 _).mono ?_); rintro _ V9 ⟨k2, rfl, hk2, hb2, hf2⟩)
            | (go_at_call 14; (with_reducible refine (rb _ _ _ _ hv8 hk2 hb2 hf2).mono ?_); rintro _ V10 ⟨rfl, hv10⟩; have hv11 := hv10.push #[.int .i64 0, .int .i64 ((v j).tmod 256 % 256)] 37; clear a0 a1 a2; obtain ⟨a0, a1, a2⟩ := sa_conf hv11)
            | (go_at_call 14; (with_reducible refine (ra _ _ _ _ hv11 hk3 hb3 hf3).mono ?_); rintro _ V13 ⟨rfl, hv13⟩; have hv14 := hv13.push #[.int .i64 5, .int .i64 na] 37; obtain ⟨z1, z2⟩ := rv_two (q := V7.heap.size) (a := .int .i64 5) (b := .int .i64 na) hv14 (by simp); obtain ⟨z3, z4⟩ := rv_two (q := V10.heap.size) (a := .int .i64 0) (b := .int .i64 ((v j).tmod 256 % 256)) hv14 (by simp); have l1 := (hv14.keep (V10.heap.size, [.int .i64 0, .int .i64 ((v j).tmod 256 % 256)]) (by simp)).1.lt; have b0 := sa_cell hv14 j hj; have l2 := sa_lt hv14))
          generalize V13.alloc (.cells #[.int .i64 5, .int .i64 na] 37) = VV at *
          refine wp_region_later (by kernel_rfl) (by kernel_rfl) ?_
          repeat (go_big_quiet_step (fail))
          refine wpQuiet_nil ?_
          rintro _ ⟨x9, rfl⟩
          have hv15 := hv14.later x9
          clear z1 z2 z3 z4
          obtain ⟨z1, z2⟩ := rv_two (q := V7.heap.size) (a := .int .i64 5) (b := .int .i64 na) hv15 (by simp)
          obtain ⟨z5, z6⟩ := rv_two (q := V13.heap.size) (a := .int .i64 5) (b := .int .i64 na) hv15 (by simp)
          have hB4 := hw0.trans (hv15.bel.mono hw0.size)
          go_wp2_with (first
            | (go_at_call 9; (with_reducible refine (hlv _ (hH.below hB4) (hE.below hB4 hE.lt)).mono ?_); rintro _ _ ⟨rfl, x5, rfl⟩))
          go_ret
          exact Ret.mk rfl (x5.cat hB4 hB4.size)
        · have hf9 : 0 ≤ off := by omega
          have hf8 : decide (off < 16) = false := decide_eq_false (by omega)
          go_wp2_with (first
            | (go_at_call 12; have hgo := hv11.bel; clear hgo; (with_reducible refine (n1 _).mono ?_); rintro _ V12 ⟨k3, rfl, hk3, hb3, hf3⟩)
            | (go_at_call 12; (with_reducible refine (n1 _).mono ?_); rintro _ V6 ⟨k1, rfl, hk1, hb1, hf1⟩)
            | (go_at_call 14; (with_reducible refine (ra _ _ _ _ hv hk1 hb1 hf1).mono ?_); rintro _ V7 ⟨rfl, hv7⟩; have hv8 := hv7.push #[.int .i64 5, .int .i64 na] 37; clear a0 a1 a2; obtain ⟨a0, a1, a2⟩ := sa_conf hv8)
            | (go_at_call 12; (with_reducible refine (n2 _).mono ?_); rintro _ V9 ⟨k2, rfl, hk2, hb2, hf2⟩)
            | (go_at_call 14; (with_reducible refine (rb _ _ _ _ hv8 hk2 hb2 hf2).mono ?_); rintro _ V10 ⟨rfl, hv10⟩; have hv11 := hv10.push #[.int .i64 0, .int .i64 ((v j).tmod 256 % 256)] 37; clear a0 a1 a2; obtain ⟨a0, a1, a2⟩ := sa_conf hv11)
            | (go_at_call 14; (with_reducible refine (ra _ _ _ _ hv11 hk3 hb3 hf3).mono ?_); rintro _ V13 ⟨rfl, hv13⟩; have hv14 := hv13.push #[.int .i64 5, .int .i64 na] 37; obtain ⟨z1, z2⟩ := rv_two (q := V7.heap.size) (a := .int .i64 5) (b := .int .i64 na) hv14 (by simp); obtain ⟨z3, z4⟩ := rv_two (q := V10.heap.size) (a := .int .i64 0) (b := .int .i64 ((v j).tmod 256 % 256)) hv14 (by simp); have l1 := (hv14.keep (V10.heap.size, [.int .i64 0, .int .i64 ((v j).tmod 256 % 256)]) (by simp)).1.lt; have b0 := sa_cell hv14 j hj; have l2 := sa_lt hv14))
          generalize V13.alloc (.cells #[.int .i64 5, .int .i64 na] 37) = VV at *
          refine wp_region_later (by kernel_rfl) (by kernel_rfl) ?_
          repeat (go_big_quiet_step (fail))
          refine wpQuiet_nil ?_
          rintro _ ⟨x9, rfl⟩
          have hv15 := hv14.later x9
          clear z1 z2 z3 z4
          obtain ⟨z1, z2⟩ := rv_two (q := V7.heap.size) (a := .int .i64 5) (b := .int .i64 na) hv15 (by simp)
          obtain ⟨z5, z6⟩ := rv_two (q := V13.heap.size) (a := .int .i64 5) (b := .int .i64 na) hv15 (by simp)
          have hB4 := hw0.trans (hv15.bel.mono hw0.size)
          go_wp2_with (first
            | (go_at_call 9; (with_reducible refine (hlv _ (hH.below hB4) (hE.below hB4 hE.lt)).mono ?_); rintro _ _ ⟨rfl, x5, rfl⟩))
          go_ret
          exact Ret.mk rfl (x5.cat hB4 hB4.size)
      · generalize saC other = cb at rb
        generalize saN (saB v 16) other = nb at rb
        by_cases ho1 : other < 0
        · clear ho
          have hd9 : decide (0 ≤ other) = false := decide_eq_false (by omega)
          have hd8 : ¬ 0 ≤ other := by omega
          rcases hca with ⟨rfl, hf0, hf1⟩ | ⟨rfl, hf0 | hf0⟩
          · go_wp2_with (first
              | (go_at_call 12; have hgo := hv11.bel; clear hgo; (with_reducible refine (n1 _).mono ?_); rintro _ V12 ⟨k3, rfl, hk3, hb3, hf3⟩)
              | (go_at_call 12; (with_reducible refine (n1 _).mono ?_); rintro _ V6 ⟨k1, rfl, hk1, hb1, hf1⟩)
              | (go_at_call 14; (with_reducible refine (ra _ _ _ _ hv hk1 hb1 hf1).mono ?_); rintro _ V7 ⟨rfl, hv7⟩; have hv8 := hv7.push #[.int .i64 0, .int .i64 na] 37; clear a0 a1 a2; obtain ⟨a0, a1, a2⟩ := sa_conf hv8)
              | (go_at_call 12; (with_reducible refine (n2 _).mono ?_); rintro _ V9 ⟨k2, rfl, hk2, hb2, hf2⟩)
              | (go_at_call 14; (with_reducible refine (rb _ _ _ _ hv8 hk2 hb2 hf2).mono ?_); rintro _ V10 ⟨rfl, hv10⟩; have hv11 := hv10.push #[.int .i64 cb, .int .i64 nb] 37; clear a0 a1 a2; obtain ⟨a0, a1, a2⟩ := sa_conf hv11)
              | (go_at_call 14; (with_reducible refine (ra _ _ _ _ hv11 hk3 hb3 hf3).mono ?_); rintro _ V13 ⟨rfl, hv13⟩; have hv14 := hv13.push #[.int .i64 0, .int .i64 na] 37; obtain ⟨z1, z2⟩ := rv_two (q := V7.heap.size) (a := .int .i64 0) (b := .int .i64 na) hv14 (by simp); obtain ⟨z3, z4⟩ := rv_two (q := V10.heap.size) (a := .int .i64 cb) (b := .int .i64 nb) hv14 (by simp); have l1 := (hv14.keep (V10.heap.size, [.int .i64 cb, .int .i64 nb]) (by simp)).1.lt))
            generalize V13.alloc (.cells #[.int .i64 0, .int .i64 na] 37) = VV at *
            refine wp_region_later (by kernel_rfl) (by kernel_rfl) ?_
            repeat (go_big_quiet_step (fail))
            refine wpQuiet_nil ?_
            rintro _ ⟨x9, rfl⟩
            have hv15 := hv14.later x9
            clear z1 z2 z3 z4
            obtain ⟨z1, z2⟩ := rv_two (q := V7.heap.size) (a := .int .i64 0) (b := .int .i64 na) hv15 (by simp)
            obtain ⟨z5, z6⟩ := rv_two (q := V13.heap.size) (a := .int .i64 0) (b := .int .i64 na) hv15 (by simp)
            have hB4 := hw0.trans (hv15.bel.mono hw0.size)
            go_wp2_with (first
              | (go_at_call 9; (with_reducible refine (hlv _ (hH.below hB4) (hE.below hB4 hE.lt)).mono ?_); rintro _ _ ⟨rfl, x5, rfl⟩))
            go_ret
            exact Ret.mk rfl (x5.cat hB4 hB4.size)
          · go_wp2_with (first
              | (go_at_call 12; have hgo := hv11.bel; clear hgo; (with_reducible refine (n1 _).mono ?_); rintro _ V12 ⟨k3, rfl, hk3, hb3, hf3⟩)
              | (go_at_call 12; (with_reducible refine (n1 _).mono ?_); rintro _ V6 ⟨k1, rfl, hk1, hb1, hf1⟩)
              | (go_at_call 14; (with_reducible refine (ra _ _ _ _ hv hk1 hb1 hf1).mono ?_); rintro _ V7 ⟨rfl, hv7⟩; have hv8 := hv7.push #[.int .i64 5, .int .i64 na] 37; clear a0 a1 a2; obtain ⟨a0, a1, a2⟩ := sa_conf hv8)
              | (go_at_call 12; (with_reducible refine (n2 _).mono ?_); rintro _ V9 ⟨k2, rfl, hk2, hb2, hf2⟩)
              | (go_at_call 14; (with_reducible refine (rb _ _ _ _ hv8 hk2 hb2 hf2).mono ?_); rintro _ V10 ⟨rfl, hv10⟩; have hv11 := hv10.push #[.int .i64 cb, .int .i64 nb] 37; clear a0 a1 a2; obtain ⟨a0, a1, a2⟩ := sa_conf hv11)
              | (go_at_call 14; (with_reducible refine (ra _ _ _ _ hv11 hk3 hb3 hf3).mono ?_); rintro _ V13 ⟨rfl, hv13⟩; have hv14 := hv13.push #[.int .i64 5, .int .i64 na] 37; obtain ⟨z1, z2⟩ := rv_two (q := V7.heap.size) (a := .int .i64 5) (b := .int .i64 na) hv14 (by simp); obtain ⟨z3, z4⟩ := rv_two (q := V10.heap.size) (a := .int .i64 cb) (b := .int .i64 nb) hv14 (by simp); have l1 := (hv14.keep (V10.heap.size, [.int .i64 cb, .int .i64 nb]) (by simp)).1.lt))
            generalize V13.alloc (.cells #[.int .i64 5, .int .i64 na] 37) = VV at *
            refine wp_region_later (by kernel_rfl) (by kernel_rfl) ?_
            repeat (go_big_quiet_step (fail))
            refine wpQuiet_nil ?_
            rintro _ ⟨x9, rfl⟩
            have hv15 := hv14.later x9
            clear z1 z2 z3 z4
            obtain ⟨z1, z2⟩ := rv_two (q := V7.heap.size) (a := .int .i64 5) (b := .int .i64 na) hv15 (by simp)
            obtain ⟨z5, z6⟩ := rv_two (q := V13.heap.size) (a := .int .i64 5) (b := .int .i64 na) hv15 (by simp)
            have hB4 := hw0.trans (hv15.bel.mono hw0.size)
            go_wp2_with (first
              | (go_at_call 9; (with_reducible refine (hlv _ (hH.below hB4) (hE.below hB4 hE.lt)).mono ?_); rintro _ _ ⟨rfl, x5, rfl⟩))
            go_ret
            exact Ret.mk rfl (x5.cat hB4 hB4.size)
          · have hf9 : 0 ≤ off := by omega
            have hf8 : decide (off < 16) = false := decide_eq_false (by omega)
            go_wp2_with (first
              | (go_at_call 12; have hgo := hv11.bel; clear hgo; (with_reducible refine (n1 _).mono ?_); rintro _ V12 ⟨k3, rfl, hk3, hb3, hf3⟩)
              | (go_at_call 12; (with_reducible refine (n1 _).mono ?_); rintro _ V6 ⟨k1, rfl, hk1, hb1, hf1⟩)
              | (go_at_call 14; (with_reducible refine (ra _ _ _ _ hv hk1 hb1 hf1).mono ?_); rintro _ V7 ⟨rfl, hv7⟩; have hv8 := hv7.push #[.int .i64 5, .int .i64 na] 37; clear a0 a1 a2; obtain ⟨a0, a1, a2⟩ := sa_conf hv8)
              | (go_at_call 12; (with_reducible refine (n2 _).mono ?_); rintro _ V9 ⟨k2, rfl, hk2, hb2, hf2⟩)
              | (go_at_call 14; (with_reducible refine (rb _ _ _ _ hv8 hk2 hb2 hf2).mono ?_); rintro _ V10 ⟨rfl, hv10⟩; have hv11 := hv10.push #[.int .i64 cb, .int .i64 nb] 37; clear a0 a1 a2; obtain ⟨a0, a1, a2⟩ := sa_conf hv11)
              | (go_at_call 14; (with_reducible refine (ra _ _ _ _ hv11 hk3 hb3 hf3).mono ?_); rintro _ V13 ⟨rfl, hv13⟩; have hv14 := hv13.push #[.int .i64 5, .int .i64 na] 37; obtain ⟨z1, z2⟩ := rv_two (q := V7.heap.size) (a := .int .i64 5) (b := .int .i64 na) hv14 (by simp); obtain ⟨z3, z4⟩ := rv_two (q := V10.heap.size) (a := .int .i64 cb) (b := .int .i64 nb) hv14 (by simp); have l1 := (hv14.keep (V10.heap.size, [.int .i64 cb, .int .i64 nb]) (by simp)).1.lt))
            generalize V13.alloc (.cells #[.int .i64 5, .int .i64 na] 37) = VV at *
            refine wp_region_later (by kernel_rfl) (by kernel_rfl) ?_
            repeat (go_big_quiet_step (fail))
            refine wpQuiet_nil ?_
            rintro _ ⟨x9, rfl⟩
            have hv15 := hv14.later x9
            clear z1 z2 z3 z4
            obtain ⟨z1, z2⟩ := rv_two (q := V7.heap.size) (a := .int .i64 5) (b := .int .i64 na) hv15 (by simp)
            obtain ⟨z5, z6⟩ := rv_two (q := V13.heap.size) (a := .int .i64 5) (b := .int .i64 na) hv15 (by simp)
            have hB4 := hw0.trans (hv15.bel.mono hw0.size)
            go_wp2_with (first
              | (go_at_call 9; (with_reducible refine (hlv _ (hH.below hB4) (hE.below hB4 hE.lt)).mono ?_); rintro _ _ ⟨rfl, x5, rfl⟩))
            go_ret
            exact Ret.mk rfl (x5.cat hB4 hB4.size)
        · have ho2 : 16 ≤ other := by omega
          have ho3 : 0 ≤ other := by omega
          have hd8 : decide (other < 16) = false := decide_eq_false (by omega)
          have hd9 : ¬ other < 16 := by omega
          clear ho ho1
          rcases hca with ⟨rfl, hf0, hf1⟩ | ⟨rfl, hf0 | hf0⟩
          · go_wp2_with (first
              | (go_at_call 12; have hgo := hv11.bel; clear hgo; (with_reducible refine (n1 _).mono ?_); rintro _ V12 ⟨k3, rfl, hk3, hb3, hf3⟩)
              | (go_at_call 12; (with_reducible refine (n1 _).mono ?_); rintro _ V6 ⟨k1, rfl, hk1, hb1, hf1⟩)
              | (go_at_call 14; (with_reducible refine (ra _ _ _ _ hv hk1 hb1 hf1).mono ?_); rintro _ V7 ⟨rfl, hv7⟩; have hv8 := hv7.push #[.int .i64 0, .int .i64 na] 37; clear a0 a1 a2; obtain ⟨a0, a1, a2⟩ := sa_conf hv8)
              | (go_at_call 12; (with_reducible refine (n2 _).mono ?_); rintro _ V9 ⟨k2, rfl, hk2, hb2, hf2⟩)
              | (go_at_call 14; (with_reducible refine (rb _ _ _ _ hv8 hk2 hb2 hf2).mono ?_); rintro _ V10 ⟨rfl, hv10⟩; have hv11 := hv10.push #[.int .i64 cb, .int .i64 nb] 37; clear a0 a1 a2; obtain ⟨a0, a1, a2⟩ := sa_conf hv11)
              | (go_at_call 14; (with_reducible refine (ra _ _ _ _ hv11 hk3 hb3 hf3).mono ?_); rintro _ V13 ⟨rfl, hv13⟩; have hv14 := hv13.push #[.int .i64 0, .int .i64 na] 37; obtain ⟨z1, z2⟩ := rv_two (q := V7.heap.size) (a := .int .i64 0) (b := .int .i64 na) hv14 (by simp); obtain ⟨z3, z4⟩ := rv_two (q := V10.heap.size) (a := .int .i64 cb) (b := .int .i64 nb) hv14 (by simp); have l1 := (hv14.keep (V10.heap.size, [.int .i64 cb, .int .i64 nb]) (by simp)).1.lt))
            generalize V13.alloc (.cells #[.int .i64 0, .int .i64 na] 37) = VV at *
            refine wp_region_later (by kernel_rfl) (by kernel_rfl) ?_
            repeat (go_big_quiet_step (fail))
            refine wpQuiet_nil ?_
            rintro _ ⟨x9, rfl⟩
            have hv15 := hv14.later x9
            clear z1 z2 z3 z4
            obtain ⟨z1, z2⟩ := rv_two (q := V7.heap.size) (a := .int .i64 0) (b := .int .i64 na) hv15 (by simp)
            obtain ⟨z5, z6⟩ := rv_two (q := V13.heap.size) (a := .int .i64 0) (b := .int .i64 na) hv15 (by simp)
            have hB4 := hw0.trans (hv15.bel.mono hw0.size)
            go_wp2_with (first
              | (go_at_call 9; (with_reducible refine (hlv _ (hH.below hB4) (hE.below hB4 hE.lt)).mono ?_); rintro _ _ ⟨rfl, x5, rfl⟩))
            go_ret
            exact Ret.mk rfl (x5.cat hB4 hB4.size)
          · go_wp2_with (first
              | (go_at_call 12; have hgo := hv11.bel; clear hgo; (with_reducible refine (n1 _).mono ?_); rintro _ V12 ⟨k3, rfl, hk3, hb3, hf3⟩)
              | (go_at_call 12; (with_reducible refine (n1 _).mono ?_); rintro _ V6 ⟨k1, rfl, hk1, hb1, hf1⟩)
              | (go_at_call 14; (with_reducible refine (ra _ _ _ _ hv hk1 hb1 hf1).mono ?_); rintro _ V7 ⟨rfl, hv7⟩; have hv8 := hv7.push #[.int .i64 5, .int .i64 na] 37; clear a0 a1 a2; obtain ⟨a0, a1, a2⟩ := sa_conf hv8)
              | (go_at_call 12; (with_reducible refine (n2 _).mono ?_); rintro _ V9 ⟨k2, rfl, hk2, hb2, hf2⟩)
              | (go_at_call 14; (with_reducible refine (rb _ _ _ _ hv8 hk2 hb2 hf2).mono ?_); rintro _ V10 ⟨rfl, hv10⟩; have hv11 := hv10.push #[.int .i64 cb, .int .i64 nb] 37; clear a0 a1 a2; obtain ⟨a0, a1, a2⟩ := sa_conf hv11)
              | (go_at_call 14; (with_reducible refine (ra _ _ _ _ hv11 hk3 hb3 hf3).mono ?_); rintro _ V13 ⟨rfl, hv13⟩; have hv14 := hv13.push #[.int .i64 5, .int .i64 na] 37; obtain ⟨z1, z2⟩ := rv_two (q := V7.heap.size) (a := .int .i64 5) (b := .int .i64 na) hv14 (by simp); obtain ⟨z3, z4⟩ := rv_two (q := V10.heap.size) (a := .int .i64 cb) (b := .int .i64 nb) hv14 (by simp); have l1 := (hv14.keep (V10.heap.size, [.int .i64 cb, .int .i64 nb]) (by simp)).1.lt))
            generalize V13.alloc (.cells #[.int .i64 5, .int .i64 na] 37) = VV at *
            refine wp_region_later (by kernel_rfl) (by kernel_rfl) ?_
            repeat (go_big_quiet_step (fail))
            refine wpQuiet_nil ?_
            rintro _ ⟨x9, rfl⟩
            have hv15 := hv14.later x9
            clear z1 z2 z3 z4
            obtain ⟨z1, z2⟩ := rv_two (q := V7.heap.size) (a := .int .i64 5) (b := .int .i64 na) hv15 (by simp)
            obtain ⟨z5, z6⟩ := rv_two (q := V13.heap.size) (a := .int .i64 5) (b := .int .i64 na) hv15 (by simp)
            have hB4 := hw0.trans (hv15.bel.mono hw0.size)
            go_wp2_with (first
              | (go_at_call 9; (with_reducible refine (hlv _ (hH.below hB4) (hE.below hB4 hE.lt)).mono ?_); rintro _ _ ⟨rfl, x5, rfl⟩))
            go_ret
            exact Ret.mk rfl (x5.cat hB4 hB4.size)
          · have hf9 : 0 ≤ off := by omega
            have hf8 : decide (off < 16) = false := decide_eq_false (by omega)
            go_wp2_with (first
              | (go_at_call 12; have hgo := hv11.bel; clear hgo; (with_reducible refine (n1 _).mono ?_); rintro _ V12 ⟨k3, rfl, hk3, hb3, hf3⟩)
              | (go_at_call 12; (with_reducible refine (n1 _).mono ?_); rintro _ V6 ⟨k1, rfl, hk1, hb1, hf1⟩)
              | (go_at_call 14; (with_reducible refine (ra _ _ _ _ hv hk1 hb1 hf1).mono ?_); rintro _ V7 ⟨rfl, hv7⟩; have hv8 := hv7.push #[.int .i64 5, .int .i64 na] 37; clear a0 a1 a2; obtain ⟨a0, a1, a2⟩ := sa_conf hv8)
              | (go_at_call 12; (with_reducible refine (n2 _).mono ?_); rintro _ V9 ⟨k2, rfl, hk2, hb2, hf2⟩)
              | (go_at_call 14; (with_reducible refine (rb _ _ _ _ hv8 hk2 hb2 hf2).mono ?_); rintro _ V10 ⟨rfl, hv10⟩; have hv11 := hv10.push #[.int .i64 cb, .int .i64 nb] 37; clear a0 a1 a2; obtain ⟨a0, a1, a2⟩ := sa_conf hv11)
              | (go_at_call 14; (with_reducible refine (ra _ _ _ _ hv11 hk3 hb3 hf3).mono ?_); rintro _ V13 ⟨rfl, hv13⟩; have hv14 := hv13.push #[.int .i64 5, .int .i64 na] 37; obtain ⟨z1, z2⟩ := rv_two (q := V7.heap.size) (a := .int .i64 5) (b := .int .i64 na) hv14 (by simp); obtain ⟨z3, z4⟩ := rv_two (q := V10.heap.size) (a := .int .i64 cb) (b := .int .i64 nb) hv14 (by simp); have l1 := (hv14.keep (V10.heap.size, [.int .i64 cb, .int .i64 nb]) (by simp)).1.lt))
            generalize V13.alloc (.cells #[.int .i64 5, .int .i64 na] 37) = VV at *
            refine wp_region_later (by kernel_rfl) (by kernel_rfl) ?_
            repeat (go_big_quiet_step (fail))
            refine wpQuiet_nil ?_
            rintro _ ⟨x9, rfl⟩
            have hv15 := hv14.later x9
            clear z1 z2 z3 z4
            obtain ⟨z1, z2⟩ := rv_two (q := V7.heap.size) (a := .int .i64 5) (b := .int .i64 na) hv15 (by simp)
            obtain ⟨z5, z6⟩ := rv_two (q := V13.heap.size) (a := .int .i64 5) (b := .int .i64 na) hv15 (by simp)
            have hB4 := hw0.trans (hv15.bel.mono hw0.size)
            go_wp2_with (first
              | (go_at_call 9; (with_reducible refine (hlv _ (hH.below hB4) (hE.below hB4 hE.lt)).mono ?_); rintro _ _ ⟨rfl, x5, rfl⟩))
            go_ret
            exact Ret.mk rfl (x5.cat hB4 hB4.size)
end Go.Proofs.YtnahjnbhmlomcaaDoor
