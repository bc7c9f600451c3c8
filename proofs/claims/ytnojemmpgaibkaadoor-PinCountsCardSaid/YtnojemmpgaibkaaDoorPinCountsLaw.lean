/-
  The walk of PinCounts.
  Conditions: none but that the tables read as they are laid; that the picks lie as they came.
-/
import Derived.Test.YtnojemmpgaibkaaDoorPcMem
import Derived.Test.YtnojemmpgaibkaaDoorPcArg
import Derived.Test.YtnojemmpgaibkaaDoorRefUnpack
import Derived.Deep.RegionHeld3
import Derived.Deep.OwnRows
import Derived.Deep.CutRange
namespace Go.Proofs.YtnojemmpgaibkaaDoor
open Go.RowKit
attribute [local go_sem] Later.cell Later.frozen Later.lt Later.le
set_option linter.unusedVariables false
set_option linter.unusedSimpArgs false

theorem apUn {p : Prop} (h : Hid p) : p := h.out
theorem info_b : (Tryd.prog.info? 4).map (fun i => (i.zero, i.size, i.bytes)) = some (some (.bool false), 1, 1) := by kernel_rfl
theorem made3 : madeCells #[Value.bool false] 3 = #[.bool false, .bool false, .bool false] := by first | kernel_rfl | simp [madeCells, Array.range]
theorem pc_new (un : Bool) : pmNew 1099511627776 1 un = ⟨true, 0, 0, un, 1, 0, 0, 0⟩ := by
  unfold pmNew
  rw [show ofB 1099511627776 1 = true from by decide +kernel, show ofS 1099511627776 1 = 0 from by decide +kernel, show ofG 1099511627776 1 = 0 from by decide +kernel]
theorem pc_unp {p : Int} (h0 : 0 ≤ p) (h7 : p ≤ 7) : RU (wP p) (.agg #[.int .i64 0, .int .i64 0, .int .i64 p, .int .i64 0, .bool false, .bool true]) 0 := by
  have hv := wP_ev h0 h7
  have hu := refUnpack_any (wP p)
  rw [show upV (wP p) = ⟨0, 0, p, 0, false, true⟩ from hv.up, show upE (wP p) = 0 from upE_ok hv.uok] at hu
  exact hu
def kp3 (k0 k1 k2 : Nat) : Nat → Nat
  | 0 => k0
  | 1 => k1
  | _ => k2
/-- The rounds' relation. -/
def PcRel (W0 : World) (A : PAt) (bs : List Int) (rb ub len : Nat) (v9 v10 : Value) (wr : World) : Prop := ∃ (i : Nat) (p : Int) (kp : Nat → Nat) (M : Nat → Pm) (u : Nat → Bool), v10 = .int .i64 i ∧ i ≤ len ∧ v9 = .int .i64 p ∧ Pc W0 A p bs rb ub kp M u 3 wr
set_option maxHeartbeats 32000000 in
set_option maxRecDepth 8000 in
theorem pcounts_yes {p : Option Addr} {l : List Pk} {cap : Nat} {w : World} (hl : ¬ 100 < l.length) (hP : PksP w p l) (hH : HasHead w) (hE : HasFields w) :
    Calls Tryd.prog 9 #[.slice p l.length cap] w (Ret w (.bool true)) := by
  have hl1 : ¬ (100 : Int) < l.length := by omega
  have hst := start14_yes 8 1 1 (by decide) (w.alloc (.cells #[.int .i64 8, .int .i64 1, .int .i64 1] 26)) (hH.alloc _)
  have hmk := fun W => Make_same 0 0 W
  rw [mk00.1, mk00.2] at hmk
  have hE0 := hE.alloc (.cells #[.int .i64 8, .int .i64 1, .int .i64 1] 26)
  have hH0 := hH.alloc (.cells #[.int .i64 8, .int .i64 1, .int .i64 1] 26)
  have hc0 : Fs (w.alloc (.cells #[.int .i64 8, .int .i64 1, .int .i64 1] 26)) w.heap.size [.int .i64 8, .int .i64 1, .int .i64 1] := Fs.new' _ _ rfl rfl
  have hw0 : Below w.heap.size w (w.alloc (.cells #[.int .i64 8, .int .i64 1, .int .i64 1] 26)) := (Below.refl _ _).alloc (Nat.le_refl _) _
  have hlv := fun W => plive_any W
  have n1 : ∀ W, Calls Tryd.prog 29 #[.agg #[.int .i64 8, .int .i64 1, .int .i64 1], .int .i64 1099511627776] W fun e w' => ∃ k, e = .returned (.pointer (some ⟨k, 0, none⟩)) ∧ W.heap.size ≤ k ∧ Below W.heap.size W w' ∧ Fs w' k (pmL 1 1 ⟨true, 0, 0, false, 1, 0, 0, 0⟩) := fun W => pc_new false ▸ pnew_yes 8 1 1 1099511627776 false (by decide) W
  have hms := run_make_row' (P := Tryd.prog) 76 4 (.bool false) 1 Tryd.underlying76 info_b rfl .i64 .i64 3 (by omega) (by omega)
  simp only [show ((3 : Nat) : Int) = 3 from rfl, made3] at hms
  go_enter Tryd.func9, Tryd.ntmps9
  go_wp2_with (first
    | (go_at_call 26; (with_reducible refine hst.mono ?_); rintro _ V1 ⟨A, rfl, hlo, hB1, ws, n, hM1, hlen, hat⟩; have hws := words_of 1 1 wp0 (by decide) (by decide +kernel) ws hlen hat; subst hws; have hv1 := Rv.begin (t := 1) (s := 1) hE0 hlo hB1 hM1 (by decide))
    | (go_at_call 14; (with_reducible refine (hmk _).mono ?_); rintro _ _ ⟨rfl, rfl⟩)
    | (go_at_call 17; (with_reducible refine (rvStore hv1 _ _).mono ?_); rintro _ V3 ⟨rfl, hv4, -⟩; rw [(wp_set 562949953421312 0).1, ← wP_0] at hv4; clear hv1))
  clear hst hmk hlen hat hB1 hM1
  have kC : ∀ W', Below V3.heap.size V3 W' → W'.cell? ⟨w.heap.size, 0, none⟩ = some (.int .i64 8) ∧ W'.cell? ⟨w.heap.size, 1, none⟩ = some (.int .i64 1) ∧ W'.cell? ⟨w.heap.size, 2, none⟩ = some (.int .i64 1) ∧ Below V3.heap.size V3 W' := fun W' hb => by
    have h := (hc0.below hv4.bel hc0.lt).below hb (hc0.below hv4.bel hc0.lt).lt
    exact ⟨h.at' 0 rfl, h.at' 1 rfl, h.at' 2 rfl, hb⟩
  have HKC := Lib.hid kC
  clear kC
  have HC0 := Lib.hid hc0
  clear hc0
  have mk0 := trivial
  have mk1 := trivial
  have mk2 := trivial
  go_region_held3 (fun w' => w'.cell? ⟨w.heap.size, 0, none⟩ = some (.int .i64 8) ∧ w'.cell? ⟨w.heap.size, 1, none⟩ = some (.int .i64 1) ∧ w'.cell? ⟨w.heap.size, 2, none⟩ = some (.int .i64 1) ∧ Below V3.heap.size V3 w') (first
    | with_reducible exact HKC.out _ (Below.refl _ _)
    | with_reducible exact HKC.out _ (Below.refl _ _).drew
    | with_reducible assumption
    | with_reducible exact HKC.out _ (by assumption)
    | with_reducible exact HKC.out _ (hBb2.alloc hBb2.size _)) (first
    | (go_at_call 29; clear mk0; (with_reducible refine (n1 _).mono ?_); rintro _ U0 ⟨k0, rfl, hk0, hbk0, hf0⟩; have hBb0 : Below V3.heap.size V3 U0 := (Below.refl V3.heap.size V3).drew.trans hbk0)
    | (go_at_call 29; clear mk1; (with_reducible refine (n1 _).mono ?_); rintro _ U1 ⟨k1, rfl, hk1, hbk1, hf1⟩; have hBb1 : Below V3.heap.size V3 U1 := hBb0.trans (hbk1.mono hBb0.size))
    | (go_at_call 29; clear mk2; (with_reducible refine (n1 _).mono ?_); rintro _ U2 ⟨k2, rfl, hk2, hbk2, hf2⟩; have hBb2 : Below V3.heap.size V3 U2 := hBb1.trans (hbk2.mono hBb1.size)))
  rename_i hHeld
  clear hHeld HKC n1
  go_wp2_with fail
  have hc0 := HC0.out
  have hS0 : Pc (w.alloc (.cells #[.int .i64 8, .int .i64 1, .int .i64 1] 26)) A 0 (List.replicate (8 : Int).toNat 0) U2.heap.size (U2.heap.size + 1) (kp3 k0 k1 k2) (fun _ => ⟨true, 0, 0, false, 1, 0, 0, 0⟩) (fun _ => false) 3 ((U2.alloc (.cells #[.pointer (some ⟨k0, 0, none⟩), .pointer (some ⟨k1, 0, none⟩), .pointer (some ⟨k2, 0, none⟩)] 59)).alloc (.cells #[.bool false, .bool false, .bool false] 4)) := by
    have y0 := hbk0.size
    have y1 := hbk1.size
    have y2 := hbk2.size
    rw [World.size_drew] at y0 hk0
    have l0 := hf0.lt
    have l1 := hf1.lt
    have l2 := hf2.lt
    have hh := hv4.hi_le
    have f3 : ∀ n, n < 3 → n = 0 ∨ n = 1 ∨ n = 2 := fun n hn => by omega
    exact {
      rv := ((hv4.below hBb2).alloc _).alloc _
      p0 := by decide
      p7 := by decide
      row := (Fs.new' (w := U2) #[.pointer (some ⟨k0, 0, none⟩), .pointer (some ⟨k1, 0, none⟩), .pointer (some ⟨k2, 0, none⟩)] 59 rfl rfl).alloc _
      ur := Fs.new' _ _ (by simp) rfl
      m := fun n hn _ => by
        rcases f3 n hn with rfl | rfl | rfl
        · exact ⟨(((hf0.below hbk1 l0).below hbk2 (Nat.lt_of_lt_of_le l0 y1)).alloc _).alloc _, pi_new _, rfl⟩
        · exact ⟨((hf1.below hbk2 l1).alloc _).alloc _, pi_new _, rfl⟩
        · exact ⟨(hf2.alloc _).alloc _, pi_new _, rfl⟩
      hk := fun n hn => by
        rcases f3 n hn with rfl | rfl | rfl
        · show A.hi ≤ k0 ∧ k0 ≠ U2.heap.size ∧ k0 ≠ U2.heap.size + 1; omega
        · show A.hi ≤ k1 ∧ k1 ≠ U2.heap.size ∧ k1 ≠ U2.heap.size + 1; omega
        · show A.hi ≤ k2 ∧ k2 ≠ U2.heap.size ∧ k2 ≠ U2.heap.size + 1; omega
      kd := fun n i hn hi e => by
        rcases f3 n hn with rfl | rfl | rfl <;> rcases f3 i hi with rfl | rfl | rfl <;> first | exact absurd rfl e | (simp only [kp3]; omega)
      rA := by omega
      uA := by omega
      ru := by omega }
  clear hBb0 hBb1 hBb2 hbk0 hbk1 hbk2 hf0 hf1 hf2 hv4 hk0 hk1 hk2 HC0 hms
  generalize (U2.alloc (.cells #[.pointer (some ⟨k0, 0, none⟩), .pointer (some ⟨k1, 0, none⟩), .pointer (some ⟨k2, 0, none⟩)] 59)).alloc (.cells #[.bool false, .bool false, .bool false] 4) = U3 at hS0 ⊢
  generalize U2.heap.size + 1 = ub at hS0 ⊢
  generalize U2.heap.size = rb at hS0 ⊢
  generalize List.replicate (8 : Int).toNat (0 : Int) = bs at hS0
  generalize w.alloc (.cells #[.int .i64 8, .int .i64 1, .int .i64 1] 26) = W0 at *
  generalize kp3 k0 k1 k2 = kp at hS0
  clear hlo
  go_wp2_with fail
  go_loopw [9, 10] (fun v9 v10 wr => PcRel W0 A bs rb ub l.length v9 v10 wr) (fun _ v _ => l.length - (intOf v).toNat)
  case atStart => exact ⟨0, 0, _, _, _, rfl, Nat.zero_le _, rfl, hS0⟩
  case round =>
    clear hS0
    obtain ⟨i, q, kp, M, u, rfl, hi, rfl, hS⟩ := hrel
    by_cases hil : i < l.length
    · have hil2 : (i : Int) < l.length := by omega
      have hP' := hP
      obtain ⟨b, off, rfl, hbs, hpk⟩ := hP' (by intro e; rw [e] at hil; simp at hil)
      obtain ⟨-, f1, f2, -, -⟩ := hpk i hil
      generalize pkAt l i = pk at f1 f2
      obtain ⟨stp, pick, un, pi, pto⟩ := pk
      dsimp only at f1 f2
      have HKS := Lib.hid (show ∀ W, Below w.heap.size w W → W.cell? ⟨b, off + i * 5 + 1, none⟩ = some (.int .i64 pick) ∧ W.cell? ⟨b, off + i * 5 + 2, none⟩ = some (.bool un) from fun W hb => ⟨(hb.cell (p := ⟨b, off + i * 5 + 1, none⟩) hbs).trans f1, (hb.cell (p := ⟨b, off + i * 5 + 2, none⟩) hbs).trans f2⟩)
      have hbw := hw0.trans (hS.rv.bel.mono hw0.size)
      obtain ⟨k9, -⟩ := HKS.out _ hbw
      have hl100 : (i : Int) < 100 := by omega
      clear hpk f1 f2 hl hbw
      by_cases hneg : pick.tmod 3 < 0
      · clear hi hP
        go_wp2_with (first
          | (go_at_call 25; (with_reducible refine (hlv _ (hH0.below hS.rv.bel) (hE0.below hS.rv.bel hE0.lt)).mono ?_); rintro _ _ ⟨rfl, x, rfl⟩))
        go_ret
        exact Ret.mk rfl (hw0.trans ((x.cat hS.rv.bel hS.rv.bel.size).mono hw0.size))
      · obtain ⟨N, hN⟩ := Int.eq_ofNat_of_zero_le (show 0 ≤ pick.tmod 3 by omega)
        have hN3 : N < 3 := by have := Int.tmod_lt_of_pos pick (show (0 : Int) < 3 by decide); omega
        have hN3' : (N : Int) < 3 := by omega
        clear hneg hP
        have r0 := hS.rowAt hN3
        have hs := hS.step hN3
        unfold ifc at hs
        go_wp2_with (first
          | (go_at_call 32; (with_reducible refine hs.mono ?_); rintro _ W2 ⟨c, d, rfl, hor⟩; refine apUn ?_))
        refine Lib.hid ?_
        clear r0 k9 hs hS
        rcases hor with ⟨rfl, rfl, M', hS2⟩ | ⟨rfl, hc, hS2⟩ | ⟨rfl, rfl, hu, hS2⟩ | ⟨rfl, rfl, hu, hS2⟩
        · have hS3 := hS2.below ((Below.refl _ _).alloc (Nat.le_refl _) (.cells #[.int .i64 0, .int .i64 0] 41))
          clear hS2
          have hq0 := hS3.p0
          have hq7 := hS3.p7
          have hul := pc_unp hq0 hq7
          unfold RU at hul
          have hld := rvLoad hS3.rv 5
          rw [show atI (wpX (wP (q))) 5 = wP (q) from rfl] at hld
          go_wp2_with (first
            | (go_at_call 22; (with_reducible refine hld.mono ?_); rintro _ X1 ⟨rfl, hr1, ht1⟩; have hT1 := hS3.touch hr1 ht1)
            | (go_at_call 21; (with_reducible refine (hul _).mono ?_); rintro _ _ ⟨rfl, x6, rfl⟩; have hT2 := (hT1.below x6.below).below ((Below.refl _ _).alloc (Nat.le_refl _) (.cells #[.int .i64 0, .int .i64 0, .int .i64 (q), .int .i64 0, .bool false, .bool true] 34))))
          go_roundw
          case rel => exact ⟨i + 1, _, _, _, _, by go_num, by omega, rfl, hT2⟩
          case measure => simp [intOf]; omega
        · have hc1 : decide (c = 0) = false := decide_eq_false hc
          have hc2 : (c == 0) = false := by simpa using hc
          clear hc
          have hS3 := hS2.below ((Below.refl _ _).alloc (Nat.le_refl _) (.cells #[.int .i64 c, .int .i64 0] 41))
          have kk := HKS.out _ (hw0.trans (hS3.rv.bel.mono hw0.size))
          obtain ⟨kk1, kk2⟩ := kk
          have uc := hS3.uAt hN3
          have uz := hS3.ur.fz N
          have hS4 := hS3.setU hN3 un
          have q0 := hS2.p0
          have q7 := hS2.p7
          clear hS2
          go_wp2_with fail
          clear kk1 kk2 uc uz hS3
          have hW4 : (W2.alloc (.cells #[.int .i64 c, .int .i64 0] 41)).setCell ⟨ub, N, none⟩ (.bool un) = (W2.alloc (.cells #[.int .i64 c, .int .i64 0] 41)).setCell ⟨ub, N, none⟩ (.bool un) := rfl
          generalize (W2.alloc (.cells #[.int .i64 c, .int .i64 0] 41)).setCell ⟨ub, N, none⟩ (.bool un) = W4 at hS4 ⊢
          clear hW4
          have hcr : w.heap.size ≠ rb := by have := hS4.rA; have := hS4.rv.lohi; have := hS4.rv.lo; have := hc0.lt; omega
          have hcw := hc0.below hS4.rv.bel hc0.lt
          have uc4 := hS4.uAt hN3
          rw [updN_same] at uc4
          have hul4 := hS4.ur.lt
          have hru := hS4.ru
          have kB : ∀ W' : World, Moved (fun b => b = rb) W4 W' → W'.cell? ⟨w.heap.size, 0, none⟩ = some (.int .i64 8) ∧ W'.cell? ⟨w.heap.size, 1, none⟩ = some (.int .i64 1) ∧ W'.cell? ⟨w.heap.size, 2, none⟩ = some (.int .i64 1) ∧ W'.cell? ⟨ub, N, none⟩ = some (.bool un) ∧ Moved (fun b => b = rb) W4 W' := fun W' hm => ⟨(hcw.moved hm hcr).at' 0 rfl, (hcw.moved hm hcr).at' 1 rfl, (hcw.moved hm hcr).at' 2 rfl, (hm.cell _ _ _ hul4 (Ne.symm hru)).trans uc4, hm⟩
          have HKB := Lib.hid kB
          have hnp := fun W => one_yes 8 1 1 1099511627776 un (by decide) W
          rw [pc_new] at hnp
          clear kB hcr hcw uc4 hul4 hru
          go_region_held3 (fun w' => w'.cell? ⟨w.heap.size, 0, none⟩ = some (.int .i64 8) ∧ w'.cell? ⟨w.heap.size, 1, none⟩ = some (.int .i64 1) ∧ w'.cell? ⟨w.heap.size, 2, none⟩ = some (.int .i64 1) ∧ w'.cell? ⟨ub, N, none⟩ = some (.bool un) ∧ Moved (fun b => b = rb) W4 w') (first
            | with_reducible exact HKB.out _ (Moved.refl _ _)
            | with_reducible exact HKB.out _ (Moved.refl _ _).drew
            | with_reducible assumption
            | with_reducible exact HKB.out _ (by assumption)
            | exact HKB.out _ (hm7.setCell _ _ rfl)) (first
            | (go_at_call 34; (with_reducible refine (hnp _).mono ?_); rintro _ W7 ⟨k7, rfl, hk7, hb7, hf7⟩; have hm7 : Moved (fun b => b = rb) W4 W7 := ((Moved.refl _ _).drew).trans (Moved.of_below hb7); have hBB := (Below.refl W4.heap.size W4).drew.trans hb7; have c7 := (hS4.below hBB).rowAt hN3; have z7 := (hS4.below hBB).row.fz N))
          all_goals
            rename_i hHeld
            clear hHeld HKB
            have hk8 : W4.heap.size ≤ k7 := by simpa using hk7
            have hS8 := hS4.anew hN3 hk8 hBB (by rw [updN_same]; exact hf7)
            clear hS4 hBB hf7 hm7 c7 z7 hk7 hb7 hnp
            generalize W7.setCell ⟨rb, N, none⟩ (.pointer (some ⟨k7, 0, none⟩)) = W8 at hS8 ⊢
            have hq0 := hS8.p0
            have hq7 := hS8.p7
            have hul := pc_unp hq0 hq7
            unfold RU at hul
            have hld := rvLoad hS8.rv 5
            rw [show atI (wpX (wP (q))) 5 = wP (q) from rfl] at hld
            go_wp2_with (first
              | (go_at_call 22; (with_reducible refine hld.mono ?_); rintro _ X1 ⟨rfl, hr1, ht1⟩; have hT1 := hS8.touch hr1 ht1)
              | (go_at_call 21; (with_reducible refine (hul _).mono ?_); rintro _ _ ⟨rfl, x6, rfl⟩; have hT2 := (hT1.below x6.below).below ((Below.refl _ _).alloc (Nat.le_refl _) (.cells #[.int .i64 0, .int .i64 0, .int .i64 (q), .int .i64 0, .bool false, .bool true] 34))))
            go_roundw
            case rel => exact ⟨i + 1, _, _, _, _, by go_num, by omega, rfl, hT2⟩
            case measure => simp [intOf]; omega
        · have ux := (hS2.below ((Below.refl _ _).alloc (Nat.le_refl _) (.cells #[.int .i64 0, .int .i64 0] 41))).uAt hN3
          rw [hu] at ux
          clear hu
          have hS3 := hS2.below ((Below.refl _ _).alloc (Nat.le_refl _) (.cells #[.int .i64 0, .int .i64 0] 41))
          have kk := HKS.out _ (hw0.trans (hS3.rv.bel.mono hw0.size))
          obtain ⟨kk1, kk2⟩ := kk
          have uc := ux
          have uz := hS3.ur.fz N
          have hS4 := hS3.setU hN3 un
          have q0 := hS2.p0
          have q7 := hS2.p7
          clear hS2
          go_wp2_with fail
          clear kk1 kk2 uc ux uz hS3
          have hW4 : (W2.alloc (.cells #[.int .i64 0, .int .i64 0] 41)).setCell ⟨ub, N, none⟩ (.bool un) = (W2.alloc (.cells #[.int .i64 0, .int .i64 0] 41)).setCell ⟨ub, N, none⟩ (.bool un) := rfl
          generalize (W2.alloc (.cells #[.int .i64 0, .int .i64 0] 41)).setCell ⟨ub, N, none⟩ (.bool un) = W4 at hS4 ⊢
          clear hW4
          have hcr : w.heap.size ≠ rb := by have := hS4.rA; have := hS4.rv.lohi; have := hS4.rv.lo; have := hc0.lt; omega
          have hcw := hc0.below hS4.rv.bel hc0.lt
          have uc4 := hS4.uAt hN3
          rw [updN_same] at uc4
          have hul4 := hS4.ur.lt
          have hru := hS4.ru
          have kB : ∀ W' : World, Moved (fun b => b = rb) W4 W' → W'.cell? ⟨w.heap.size, 0, none⟩ = some (.int .i64 8) ∧ W'.cell? ⟨w.heap.size, 1, none⟩ = some (.int .i64 1) ∧ W'.cell? ⟨w.heap.size, 2, none⟩ = some (.int .i64 1) ∧ W'.cell? ⟨ub, N, none⟩ = some (.bool un) ∧ Moved (fun b => b = rb) W4 W' := fun W' hm => ⟨(hcw.moved hm hcr).at' 0 rfl, (hcw.moved hm hcr).at' 1 rfl, (hcw.moved hm hcr).at' 2 rfl, (hm.cell _ _ _ hul4 (Ne.symm hru)).trans uc4, hm⟩
          have HKB := Lib.hid kB
          have hnp := fun W => one_yes 8 1 1 1099511627776 un (by decide) W
          rw [pc_new] at hnp
          clear kB hcr hcw uc4 hul4 hru
          go_region_held3 (fun w' => w'.cell? ⟨w.heap.size, 0, none⟩ = some (.int .i64 8) ∧ w'.cell? ⟨w.heap.size, 1, none⟩ = some (.int .i64 1) ∧ w'.cell? ⟨w.heap.size, 2, none⟩ = some (.int .i64 1) ∧ w'.cell? ⟨ub, N, none⟩ = some (.bool un) ∧ Moved (fun b => b = rb) W4 w') (first
            | with_reducible exact HKB.out _ (Moved.refl _ _)
            | with_reducible exact HKB.out _ (Moved.refl _ _).drew
            | with_reducible assumption
            | with_reducible exact HKB.out _ (by assumption)
            | exact HKB.out _ (hm7.setCell _ _ rfl)) (first
            | (go_at_call 34; (with_reducible refine (hnp _).mono ?_); rintro _ W7 ⟨k7, rfl, hk7, hb7, hf7⟩; have hm7 : Moved (fun b => b = rb) W4 W7 := ((Moved.refl _ _).drew).trans (Moved.of_below hb7); have hBB := (Below.refl W4.heap.size W4).drew.trans hb7; have c7 := (hS4.below hBB).rowAt hN3; have z7 := (hS4.below hBB).row.fz N))
          all_goals
            rename_i hHeld
            clear hHeld HKB
            have hk8 : W4.heap.size ≤ k7 := by simpa using hk7
            have hS8 := hS4.anew hN3 hk8 hBB (by rw [updN_same]; exact hf7)
            clear hS4 hBB hf7 hm7 c7 z7 hk7 hb7 hnp
            generalize W7.setCell ⟨rb, N, none⟩ (.pointer (some ⟨k7, 0, none⟩)) = W8 at hS8 ⊢
            have hq0 := hS8.p0
            have hq7 := hS8.p7
            have hul := pc_unp hq0 hq7
            unfold RU at hul
            have hld := rvLoad hS8.rv 5
            rw [show atI (wpX (wP (q - 1))) 5 = wP (q - 1) from rfl] at hld
            go_wp2_with (first
              | (go_at_call 22; (with_reducible refine hld.mono ?_); rintro _ X1 ⟨rfl, hr1, ht1⟩; have hT1 := hS8.touch hr1 ht1)
              | (go_at_call 21; (with_reducible refine (hul _).mono ?_); rintro _ _ ⟨rfl, x6, rfl⟩; have hT2 := (hT1.below x6.below).below ((Below.refl _ _).alloc (Nat.le_refl _) (.cells #[.int .i64 0, .int .i64 0, .int .i64 (q - 1), .int .i64 0, .bool false, .bool true] 34))))
            go_roundw
            case rel => exact ⟨i + 1, _, _, _, _, by go_num, by omega, rfl, hT2⟩
            case measure => simp [intOf]; omega
        · have ux := (hS2.below ((Below.refl _ _).alloc (Nat.le_refl _) (.cells #[.int .i64 0, .int .i64 0] 41))).uAt hN3
          rw [hu] at ux
          clear hu
          have hS3 := hS2.below ((Below.refl _ _).alloc (Nat.le_refl _) (.cells #[.int .i64 0, .int .i64 0] 41))
          have kk := HKS.out _ (hw0.trans (hS3.rv.bel.mono hw0.size))
          obtain ⟨kk1, kk2⟩ := kk
          have uc := ux
          have uz := hS3.ur.fz N
          have hS4 := hS3.setU hN3 un
          have q0 := hS2.p0
          have q7 := hS2.p7
          clear hS2
          go_wp2_with fail
          clear kk1 kk2 uc ux uz hS3
          have hW4 : (W2.alloc (.cells #[.int .i64 0, .int .i64 0] 41)).setCell ⟨ub, N, none⟩ (.bool un) = (W2.alloc (.cells #[.int .i64 0, .int .i64 0] 41)).setCell ⟨ub, N, none⟩ (.bool un) := rfl
          generalize (W2.alloc (.cells #[.int .i64 0, .int .i64 0] 41)).setCell ⟨ub, N, none⟩ (.bool un) = W4 at hS4 ⊢
          clear hW4
          have hcr : w.heap.size ≠ rb := by have := hS4.rA; have := hS4.rv.lohi; have := hS4.rv.lo; have := hc0.lt; omega
          have hcw := hc0.below hS4.rv.bel hc0.lt
          have uc4 := hS4.uAt hN3
          rw [updN_same] at uc4
          have hul4 := hS4.ur.lt
          have hru := hS4.ru
          have kB : ∀ W' : World, Moved (fun b => b = rb) W4 W' → W'.cell? ⟨w.heap.size, 0, none⟩ = some (.int .i64 8) ∧ W'.cell? ⟨w.heap.size, 1, none⟩ = some (.int .i64 1) ∧ W'.cell? ⟨w.heap.size, 2, none⟩ = some (.int .i64 1) ∧ W'.cell? ⟨ub, N, none⟩ = some (.bool un) ∧ Moved (fun b => b = rb) W4 W' := fun W' hm => ⟨(hcw.moved hm hcr).at' 0 rfl, (hcw.moved hm hcr).at' 1 rfl, (hcw.moved hm hcr).at' 2 rfl, (hm.cell _ _ _ hul4 (Ne.symm hru)).trans uc4, hm⟩
          have HKB := Lib.hid kB
          have hnp := fun W => one_yes 8 1 1 1099511627776 un (by decide) W
          rw [pc_new] at hnp
          clear kB hcr hcw uc4 hul4 hru
          go_region_held3 (fun w' => w'.cell? ⟨w.heap.size, 0, none⟩ = some (.int .i64 8) ∧ w'.cell? ⟨w.heap.size, 1, none⟩ = some (.int .i64 1) ∧ w'.cell? ⟨w.heap.size, 2, none⟩ = some (.int .i64 1) ∧ w'.cell? ⟨ub, N, none⟩ = some (.bool un) ∧ Moved (fun b => b = rb) W4 w') (first
            | with_reducible exact HKB.out _ (Moved.refl _ _)
            | with_reducible exact HKB.out _ (Moved.refl _ _).drew
            | with_reducible assumption
            | with_reducible exact HKB.out _ (by assumption)
            | exact HKB.out _ (hm7.setCell _ _ rfl)) (first
            | (go_at_call 34; (with_reducible refine (hnp _).mono ?_); rintro _ W7 ⟨k7, rfl, hk7, hb7, hf7⟩; have hm7 : Moved (fun b => b = rb) W4 W7 := ((Moved.refl _ _).drew).trans (Moved.of_below hb7); have hBB := (Below.refl W4.heap.size W4).drew.trans hb7; have c7 := (hS4.below hBB).rowAt hN3; have z7 := (hS4.below hBB).row.fz N))
          all_goals
            rename_i hHeld
            clear hHeld HKB
            have hk8 : W4.heap.size ≤ k7 := by simpa using hk7
            have hS8 := hS4.anew hN3 hk8 hBB (by rw [updN_same]; exact hf7)
            clear hS4 hBB hf7 hm7 c7 z7 hk7 hb7 hnp
            generalize W7.setCell ⟨rb, N, none⟩ (.pointer (some ⟨k7, 0, none⟩)) = W8 at hS8 ⊢
            have hq0 := hS8.p0
            have hq7 := hS8.p7
            have hul := pc_unp hq0 hq7
            unfold RU at hul
            have hld := rvLoad hS8.rv 5
            rw [show atI (wpX (wP (q + 1))) 5 = wP (q + 1) from rfl] at hld
            go_wp2_with (first
              | (go_at_call 22; (with_reducible refine hld.mono ?_); rintro _ X1 ⟨rfl, hr1, ht1⟩; have hT1 := hS8.touch hr1 ht1)
              | (go_at_call 21; (with_reducible refine (hul _).mono ?_); rintro _ _ ⟨rfl, x6, rfl⟩; have hT2 := (hT1.below x6.below).below ((Below.refl _ _).alloc (Nat.le_refl _) (.cells #[.int .i64 0, .int .i64 0, .int .i64 (q + 1), .int .i64 0, .bool false, .bool true] 34))))
            go_roundw
            case rel => exact ⟨i + 1, _, _, _, _, by go_num, by omega, rfl, hT2⟩
            case measure => simp [intOf]; omega
    · have hil2 : ¬ (i : Int) < l.length := by omega
      clear hP hil
      go_wp2_with (first
        | (go_at_call 25; (with_reducible refine (hlv _ (hH0.below hS.rv.bel) (hE0.below hS.rv.bel hE0.lt)).mono ?_); rintro _ _ ⟨rfl, x, rfl⟩))
      go_ret
      exact Ret.mk rfl (hw0.trans ((x.cat hS.rv.bel hS.rv.bel.size).mono hw0.size))
set_option maxHeartbeats 4000000 in
theorem pcounts_long {p : Option Addr} {l : List Pk} {cap : Nat} {w : World} (hl : 100 < l.length) (hH : HasHead w) (hE : HasFields w) :
    Calls Tryd.prog 9 #[.slice p l.length cap] w (Ret w (.bool true)) := by
  have hl1 : (100 : Int) < l.length := by omega
  have hst := start14_yes 8 1 1 (by decide) (w.alloc (.cells #[.int .i64 8, .int .i64 1, .int .i64 1] 26)) (hH.alloc _)
  have hmk := fun W => Make_same 0 0 W
  rw [mk00.1, mk00.2] at hmk
  have hE0 := hE.alloc (.cells #[.int .i64 8, .int .i64 1, .int .i64 1] 26)
  have hH0 := hH.alloc (.cells #[.int .i64 8, .int .i64 1, .int .i64 1] 26)
  have hc0 : Fs (w.alloc (.cells #[.int .i64 8, .int .i64 1, .int .i64 1] 26)) w.heap.size [.int .i64 8, .int .i64 1, .int .i64 1] := Fs.new' _ _ rfl rfl
  have hw0 : Below w.heap.size w (w.alloc (.cells #[.int .i64 8, .int .i64 1, .int .i64 1] 26)) := (Below.refl _ _).alloc (Nat.le_refl _) _
  have hlv := fun W => plive_any W
  go_enter Tryd.func9, Tryd.ntmps9
  go_wp2_with (first
    | (go_at_call 26; (with_reducible refine hst.mono ?_); rintro _ V1 ⟨A, rfl, hlo, hB1, ws, n, hM1, hlen, hat⟩; have hws := words_of 1 1 wp0 (by decide) (by decide +kernel) ws hlen hat; subst hws; have hv1 := Rv.begin (t := 1) (s := 1) hE0 hlo hB1 hM1 (by decide))
    | (go_at_call 14; (with_reducible refine (hmk _).mono ?_); rintro _ _ ⟨rfl, rfl⟩)
    | (go_at_call 25; (with_reducible refine (hlv _ (hH0.below hv1.bel) (hE0.below hv1.bel hE0.lt)).mono ?_); rintro _ _ ⟨rfl, x5, rfl⟩))
  go_ret
  exact Ret.mk rfl (hw0.trans ((x5.cat hv1.bel hv1.bel.size).mono hw0.size))
theorem PinCounts_walk {p : Option Addr} {l : List Pk} {cap : Nat} {w : World} (hP : PksP w p l) (hH : HasHead w) (hE : HasFields w) :
    Calls Tryd.prog 9 #[.slice p l.length cap] w (Ret w (.bool true)) := by
  by_cases hl : 100 < l.length
  · exact pcounts_long hl hH hE
  · exact pcounts_yes hl hP hH hE
end Go.Proofs.YtnojemmpgaibkaaDoor
