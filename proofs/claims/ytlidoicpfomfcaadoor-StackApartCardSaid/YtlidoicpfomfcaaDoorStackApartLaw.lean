/-
  The walk of StackApart.
  Conditions: none but that the tables read as they are laid; that live answers true; that the picks lie as they came.
-/
import Derived.Test.YtlidoicpfomfcaaDoorStApAll
import Derived.Deep.RegionHeld3
import Derived.Deep.DeepCutAuto
namespace Go.Proofs.YtlidoicpfomfcaaDoor
open Go.RowKit
attribute [local go_sem] Later.cell Later.frozen Later.lt Later.le
set_option linter.unusedVariables false

set_option maxRecDepth 8000 in
theorem apart_long (a s t : Int) (p : Option Addr) (len cap : Nat) (w : World) (hlive : ∀ W, HasHead W → Calls Tryd.prog 8 #[] W (Ret W (.bool true))) (hF : HasHead w) (hl : 200 < len) :
    Calls Tryd.prog 4 #[.agg #[.int .i64 a, .int .i64 s, .int .i64 t], .slice p len cap] w (Ret w (.bool true)) := by
  have hl1 : (200 : Int) < len := by omega
  go_enter Tryd.func4, Tryd.ntmps4
  go_wp2_with (first
    | (go_at_call 8; (with_reducible refine (hlive _ (hF.alloc _)).mono ?_); rintro _ _ ⟨rfl, x, rfl⟩))
  go_ret
  exact Ret.mk rfl x.boxed
set_option maxRecDepth 8000 in
theorem apart_no (a s t : Int) (p : Option Addr) (len cap : Nat) (w : World) (hlive : ∀ W, HasHead W → Calls Tryd.prog 8 #[] W (Ret W (.bool true))) (hF : HasHead w) (hl : ¬ 200 < len) (h : mayC a s t = false) :
    Calls Tryd.prog 4 #[.agg #[.int .i64 a, .int .i64 s, .int .i64 t], .slice p len cap] w (Ret w (.bool true)) := by
  have hl1 : ¬ (200 : Int) < len := by omega
  have hst := start_no a s t h _ (hF.alloc (.cells #[.int .i64 a, .int .i64 s, .int .i64 t] 23))
  have hmay := fun W => rMay_no h W
  go_enter Tryd.func4, Tryd.ntmps4
  go_wp2_with (first
    | (go_at_call 9; (with_reducible refine hst.mono ?_); rintro _ _ ⟨rfl, x1, rfl⟩)
    | (go_at_call 10; (with_reducible refine (hmay _).mono ?_); rintro _ _ ⟨rfl, x2, rfl⟩; have hB : Below w.heap.size w x2.at' := x2.cat (x1.boxed.alloc (x1.le w.heap.size (by simp)) _) (by have := x1.le w.heap.size (by simp); simp; omega))
    | (go_at_call 8; (with_reducible refine (hlive _ (hF.below hB)).mono ?_); rintro _ _ ⟨rfl, x3, rfl⟩))
  go_ret
  exact Ret.mk rfl (x3.cat hB hB.size)

set_option maxHeartbeats 32000000 in
set_option maxRecDepth 8000 in
theorem apart_yes (a s t : Int) (p : Option Addr) (l : List Pk) (cap : Nat) (w : World) (hlive : ∀ W, HasHead W → Calls Tryd.prog 8 #[] W (Ret W (.bool true))) (hF : HasHead w) (hl : ¬ 200 < l.length) (h : mayC a s t = true) (hP : PksP w p l) :
    Calls Tryd.prog 4 #[.agg #[.int .i64 a, .int .i64 s, .int .i64 t], .slice p l.length cap] w (Ret w (.bool true)) := by
  have hl1 : ¬ (200 : Int) < l.length := by omega
  have hst := start_yes a s t h _ (hF.alloc (.cells #[.int .i64 a, .int .i64 s, .int .i64 t] 23))
  have hc0 : Fs (w.alloc (.cells #[.int .i64 a, .int .i64 s, .int .i64 t] 23)) w.heap.size [.int .i64 a, .int .i64 s, .int .i64 t] := Fs.new' _ _ rfl rfl
  obtain ⟨-, -, -, s0, s64, t0, t4⟩ := mayC_iff.1 h
  obtain ⟨i9, hi9, hz9, hz1, hz2⟩ := info_parts info_num
  have hmk := run_make_row' (P := Tryd.prog) 55 56 (.pointer none) 8 Tryd.underlying55 info_pq rfl .i64 .i64 4 (by omega) (by omega)
  simp only [show ((4 : Nat) : Int) = 4 from rfl, made4] at hmk
  go_enter Tryd.func4, Tryd.ntmps4
  go_wp2_with (first
    | (go_at_call 9; (with_reducible refine hst.mono ?_); rintro _ W1 ⟨A, rfl, hlo, hB1, ws, bs, n, hM1, hwl, hat⟩))
  rw [World.size_alloc] at hlo
  have hz1' := hB1.size
  rw [World.size_alloc] at hz1'
  have hB2 : Below w.heap.size w (W1.alloc (.cells #[.int .i64 t, .int .i64 s] 31)) := (((Below.refl _ _).alloc (Nat.le_refl _) _).trans (hB1.mono (by simp))).alloc (by omega) _
  have hc1 := (hc0.below hB1 (by simp)).alloc (.cells #[.int .i64 t, .int .i64 s] 31)
  have hl1' : Fs (W1.alloc (.cells #[.int .i64 t, .int .i64 s] 31)) W1.heap.size [.int .i64 t, .int .i64 s] := Fs.new' _ _ rfl rfl
  have hM2 := hM1.alloc (.cells #[.int .i64 t, .int .i64 s] 31)
  have hG := gi_start t0 hwl hat s0
  have hsA := hM1.hs
  have hlA : A.lo ≤ A.hi := by have := hM1.lp; have := hM1.up; omega
  have hVs : (W1.alloc (.cells #[.int .i64 t, .int .i64 s] 31)).heap.size = W1.heap.size + 1 := by simp
  generalize W1.alloc (.cells #[.int .i64 t, .int .i64 s] 31) = V at *
  generalize W1.heap.size = bl at *
  have hnp := fun W => NewPop_any t s W
  have hll := hl1'.lt
  have kB : ∀ W' : World, Below V.heap.size V W' → W'.cell? ⟨bl, 0, none⟩ = some (.int .i64 t) ∧ W'.cell? ⟨bl, 1, none⟩ = some (.int .i64 s) ∧ Below V.heap.size V W' := fun W' hb => ⟨(hl1'.below hb hll).at' 0 rfl, (hl1'.below hb hll).at' 1 rfl, hb⟩
  have HKB := Lib.hid kB
  have mk0 := trivial
  have mk1 := trivial
  have mk2 := trivial
  have mk3 := trivial
  clear kB hst hc0 hM1 hB1 hat
  go_wp2_with fail
  go_region_held3 (fun w' => w'.cell? ⟨bl, 0, none⟩ = some (.int .i64 t) ∧ w'.cell? ⟨bl, 1, none⟩ = some (.int .i64 s) ∧ Below V.heap.size V w') (first
    | exact HKB.out _ (Below.refl _ _)
    | exact HKB.out _ (Below.refl _ _).drew
    | assumption
    | exact HKB.out _ (by assumption)
    | exact HKB.out _ (hBb3.alloc hBb3.size _)) (first
    | (go_at_call 20; clear mk0; (with_reducible refine (hnp _).mono ?_); rintro _ V0 ⟨k0, rfl, hk0, hbk0, hf0⟩; have hBb0 : Below V.heap.size V V0 := (Below.refl V.heap.size V).drew.trans hbk0)
    | (go_at_call 20; clear mk1; (with_reducible refine (hnp _).mono ?_); rintro _ V1 ⟨k1, rfl, hk1, hbk1, hf1⟩; have hBb1 : Below V.heap.size V V1 := hBb0.trans (hbk1.mono hBb0.size))
    | (go_at_call 20; clear mk2; (with_reducible refine (hnp _).mono ?_); rintro _ V2 ⟨k2, rfl, hk2, hbk2, hf2⟩; have hBb2 : Below V.heap.size V V2 := hBb1.trans (hbk2.mono hBb1.size))
    | (go_at_call 20; clear mk3; (with_reducible refine (hnp _).mono ?_); rintro _ V3 ⟨k3, rfl, hk3, hbk3, hf3⟩; have hBb3 : Below V.heap.size V V3 := hBb2.trans (hbk3.mono hBb2.size)))
  rename_i hHeld
  clear hHeld HKB hnp
  have hz3 := hBb3.size
  have y0 := hbk0.size
  have y1 := hbk1.size
  have y2 := hbk2.size
  have y3 := hbk3.size
  rw [World.size_drew] at y0 hk0
  have hrow : Fs (V3.alloc (.cells #[.pointer (some ⟨k0, 0, none⟩), .pointer (some ⟨k1, 0, none⟩), .pointer (some ⟨k2, 0, none⟩), .pointer (some ⟨k3, 0, none⟩)] 52)) V3.heap.size [.pointer (some ⟨k0, 0, none⟩), .pointer (some ⟨k1, 0, none⟩), .pointer (some ⟨k2, 0, none⟩), .pointer (some ⟨k3, 0, none⟩)] := Fs.new' _ _ rfl rfl
  have hbr := hBb3.alloc hz3 (.cells #[.pointer (some ⟨k0, 0, none⟩), .pointer (some ⟨k1, 0, none⟩), .pointer (some ⟨k2, 0, none⟩), .pointer (some ⟨k3, 0, none⟩)] 52)
  have hb3r := (Below.refl V3.heap.size V3).alloc (Nat.le_refl _) (.cells #[.pointer (some ⟨k0, 0, none⟩), .pointer (some ⟨k1, 0, none⟩), .pointer (some ⟨k2, 0, none⟩), .pointer (some ⟨k3, 0, none⟩)] 52)
  have y4 : (V3.alloc (.cells #[.pointer (some ⟨k0, 0, none⟩), .pointer (some ⟨k1, 0, none⟩), .pointer (some ⟨k2, 0, none⟩), .pointer (some ⟨k3, 0, none⟩)] 52)).heap.size = V3.heap.size + 1 := by simp
  generalize V3.alloc (.cells #[.pointer (some ⟨k0, 0, none⟩), .pointer (some ⟨k1, 0, none⟩), .pointer (some ⟨k2, 0, none⟩), .pointer (some ⟨k3, 0, none⟩)] 52) = V4 at *
  have hrq : Fs (V4.alloc (.cells #[.pointer none, .pointer none, .pointer none, .pointer none] 56)) V4.heap.size [.pointer none, .pointer none, .pointer none, .pointer none] := Fs.new' _ _ rfl rfl
  have hb5 := (Below.refl V4.heap.size V4).alloc (Nat.le_refl _) (.cells #[.pointer none, .pointer none, .pointer none, .pointer none] 56)
  have y5 : (V4.alloc (.cells #[.pointer none, .pointer none, .pointer none, .pointer none] 56)).heap.size = V4.heap.size + 1 := by simp
  rw [y4] at hrq
  go_wp2_with fail
  generalize V4.alloc (.cells #[.pointer none, .pointer none, .pointer none, .pointer none] 56) = V5 at *
  have hV5 : Below V.heap.size V V5 := hbr.trans (hb5.mono (by omega))
  have e0 : Below V0.heap.size V0 V5 := (hbk1.trans (hbk2.mono y1)).trans ((hbk3.mono (by omega)).trans ((hb3r.mono (by omega)).trans (hb5.mono (by omega))))
  have e1 : Below V1.heap.size V1 V5 := hbk2.trans ((hbk3.mono y2).trans ((hb3r.mono (by omega)).trans (hb5.mono (by omega))))
  have e2 : Below V2.heap.size V2 V5 := hbk3.trans ((hb3r.mono y3).trans (hb5.mono (by omega)))
  have e3 : Below V3.heap.size V3 V5 := hb3r.trans (hb5.mono (by omega))
  have hz2' := hB2.size
  have hS0 : Ap w ⟨A, bs, w.heap.size, bl, V3.heap.size, V3.heap.size + 1, V3.heap.size + 1 + 1⟩ a s t 0 ws (seqF 0 s.toNat) [] (fun _ => none) (fun _ => ⟨0, 0, 0, 0, 0⟩) (fourN k0 k1 k2 k3) (fun n => .pointer (some ⟨fourN k0 k1 k2 k3 n, 0, none⟩)) (.slice none 0 0) [] 4 V5 := by
    have f4 : ∀ n, n < 4 → n = 0 ∨ n = 1 ∨ n = 2 ∨ n = 3 := fun n hn => by omega
    have l0 := hf0.lt; have l1 := hf1.lt; have l2 := hf2.lt; have l3 := hf3.lt
    exact {
      bel := hB2.trans (hV5.mono hz2')
      hF := hF
      mem := ⟨n, hM2.below hV5 (by omega)⟩
      inv := inv_start hG t0 s0 s64
      fc := hc1.below hV5 hc1.lt
      fl := hl1'.below hV5 hll
      fp := hrow.below hb5 hrow.lt
      fq := hrq
      pp := fun _ _ _ _ => rfl
      xn := fun c => absurd c (by omega)
      km := fun n hn _ => by
        rw [if_pos rfl]
        rcases f4 n hn with rfl | rfl | rfl | rfl
        · exact hf0.below e0 l0
        · exact hf1.below e1 l1
        · exact hf2.below e2 l2
        · exact hf3.below e3 l3
      kd := fun n m hn hm _ _ e => by
        rcases f4 n hn with rfl | rfl | rfl | rfl <;> rcases f4 m hm with rfl | rfl | rfl | rfl <;> first | exact absurd rfl e | (simp only [fourN]; omega)
      kf := fun n hn _ => by
        rcases f4 n hn with rfl | rfl | rfl | rfl
        · show A.hi ≤ k0 ∧ k0 ≠ w.heap.size ∧ k0 ≠ bl ∧ k0 ≠ V3.heap.size ∧ k0 ≠ V3.heap.size + 1 ∧ w.heap.size ≤ k0; omega
        · show A.hi ≤ k1 ∧ k1 ≠ w.heap.size ∧ k1 ≠ bl ∧ k1 ≠ V3.heap.size ∧ k1 ≠ V3.heap.size + 1 ∧ w.heap.size ≤ k1; omega
        · show A.hi ≤ k2 ∧ k2 ≠ w.heap.size ∧ k2 ≠ bl ∧ k2 ≠ V3.heap.size ∧ k2 ≠ V3.heap.size + 1 ∧ w.heap.size ≤ k2; omega
        · show A.hi ≤ k3 ∧ k3 ≠ w.heap.size ∧ k3 ≠ bl ∧ k3 ≠ V3.heap.size ∧ k3 ≠ V3.heap.size + 1 ∧ w.heap.size ≤ k3; omega
      own := Ints.nil _ _
      tg := fun b hb => by cases hb
      t0 := t0
      t4 := t4
      s1 := s0
      s64 := s64
      wA := by show w.heap.size ≤ A.lo; omega
      lh := hlA
      cA := by show w.heap.size < A.lo; omega
      lA := by show A.hi ≤ bl; omega
      pA := by show A.hi ≤ V3.heap.size; omega
      qA := by show A.hi ≤ V3.heap.size + 1; omega
      lp := by show bl ≠ V3.heap.size; omega
      lq := by show bl ≠ V3.heap.size + 1; omega
      pq := by show V3.heap.size ≠ V3.heap.size + 1; omega
      wp := by show w.heap.size ≤ V3.heap.size; omega
      wq := by show w.heap.size ≤ V3.heap.size + 1; omega
      bA := by show A.hi ≤ V3.heap.size + 1 + 1; omega
      bl0 := by show bl < V3.heap.size + 1 + 1; omega
      bp0 := by show V3.heap.size < V3.heap.size + 1 + 1; omega
      bq0 := by show V3.heap.size + 1 < V3.heap.size + 1 + 1; omega }
  generalize hX : (⟨A, bs, w.heap.size, bl, V3.heap.size, V3.heap.size + 1, V3.heap.size + 1 + 1⟩ : Ap4) = X at hS0
  obtain ⟨xA, xbc, xbl, xp, xq, hbase⟩ : X.A = A ∧ X.bc = w.heap.size ∧ X.bl = bl ∧ X.rp = V3.heap.size ∧ X.rq = V3.heap.size + 1 ∧ X.base = X.rq + 1 := by subst hX; exact ⟨rfl, rfl, rfl, rfl, rfl, rfl⟩
  rw [← xA, ← xbc, ← xbl, ← xq, ← xp]
  clear xA xbc xbl xp xq hX hmk hlo hM2 hwl hG hlA hz1' hB2 hc1 hsA hl1' hVs hll hk0 hbk0 hf0 hBb0 hk1 hbk1 hf1 hBb1 hk2 hbk2 hf2 hBb2 hk3 hbk3 hf3 hBb3 hz3 y0 y1 y2 y3 hrow hbr hb3r y4 hrq hb5 y5 hV5 e0 e1 e2 e3 hz2'
  go_loopw [7, 10, 11] (fun u7 u10 u11 wr => ∃ i : Nat, i ≤ l.length ∧ u11 = .int .i64 i ∧ ∃ (g : Int) (ws F T : List Int) (u : Nat → Option Int) (M : Nat → Mc) (kp : Nat → Nat) (pv : Nat → Value), g ≤ i ∧ u10 = .int .i64 (nu u) ∧ Ap w X a s t g ws F T u M kp pv u7 T 4 wr) (fun _ _ u11 _ => (l.length - intOf u11).toNat)
  case atStart => exact ⟨0, by omega, rfl, 0, _, _, _, _, _, _, _, Int.le_refl _, rfl, hS0⟩
  case round =>
    clear hS0
    obtain ⟨i, hi, rfl, g, ws, F, T, u, M, kp, pv, hg, rfl, hS⟩ := hrel
    by_cases hil : i < l.length
    · have hil2 : (i : Int) < l.length := by omega
      have hP' := hP
      obtain ⟨b, off, rfl, hbs, hpk⟩ := hP' (by intro e; rw [e] at hil; simp at hil)
      obtain ⟨f0, f1, f2⟩ := hpk i hil
      generalize pkAt l i = pk at f0 f1 f2
      obtain ⟨pick, push, slot⟩ := pk
      dsimp only at f0 f1 f2
      have HKS := Lib.hid (show ∀ W, Below w.heap.size w W → W.cell? ⟨b, off + i * 3, none⟩ = some (.int .i64 pick) ∧ W.cell? ⟨b, off + i * 3 + 1, none⟩ = some (.bool push) from fun W hb => ⟨(hb.cell (p := ⟨b, off + i * 3, none⟩) hbs).trans f0, (hb.cell (p := ⟨b, off + i * 3 + 1, none⟩) hbs).trans f1⟩)
      clear hpk f0 f1 f2
      obtain ⟨k0, k1⟩ := HKS.out _ hS.bel
      have hl200 : (i : Int) < 200 := by omega
      have hg1 : g ≤ 1000 := by omega
      by_cases hneg : pick.tmod 4 < 0
      · clear hl hi hP
        go_wp2_with (first
          | (go_at_call 8; (with_reducible refine (hlive _ (hF.below hS.bel)).mono ?_); rintro _ _ ⟨rfl, x, rfl⟩))
        go_ret
        exact Ret.mk rfl (x.cat hS.bel hS.bel.size)
      · obtain ⟨N, hN⟩ := Int.eq_ofNat_of_zero_le (show 0 ≤ pick.tmod 4 by omega)
        have hN4 : N < 4 := by have := Int.tmod_lt_of_pos pick (show (0 : Int) < 4 by decide); omega
        have hN4' : (N : Int) < 4 := by omega
        have r0 := hS.rowq hN4
        have m0 : wr.cell? ⟨X.bl, 0, none⟩ = some (.int .i64 t) := hS.fl.at' 0 rfl
        have m1 : wr.cell? ⟨X.bl, 1, none⟩ = some (.int .i64 s) := hS.fl.at' 1 rfl
        clear hneg hl hP
        cases hun : u N with
        | some σ =>
          rw [hun] at r0
          change wr.cell? ⟨X.rq, N, none⟩ = some (.pointer (some ⟨kp N, 0, none⟩)) at r0
          have hps := ap_push hS hg1 hN4 hun
          unfold ifc at hps
          go_wp2_with (first
            | (go_at_call 21; (with_reducible refine hps.mono ?_); rintro _ W2 ⟨er, d, rfl, hor⟩; refine apUn ?_))
          refine Lib.hid ?_
          rcases hor with ⟨rfl, ws2, M2, hS2⟩ | ⟨rfl, rfl, ws2, M2, hM2, hf2, hS2⟩
          · go_wp2_with fail
            go_roundw
            case rel => exact ⟨i + 1, by omega, by go_num, g, _, _, _, _, _, _, _, by omega, rfl, hS2⟩
            case measure => simp [intOf]; omega
          · have cq := four_cell (fun n => ptrO (u n) (kp n)) hf2 hN4
            have zq := hf2.fz N
            have hl2 := hS2.fl
            have q0 : (W2.setCell ⟨X.rq, N, none⟩ (.pointer none)).cell? ⟨X.bl, 0, none⟩ = some (.int .i64 t) := hl2.at' 0 rfl
            have q1 : (W2.setCell ⟨X.rq, N, none⟩ (.pointer none)).cell? ⟨X.bl, 1, none⟩ = some (.int .i64 s) := hl2.at' 1 rfl
            have hnu := nu_give hN4 hun
            have hnu0 : (1 : Int) ≤ nu u := by have := Int.natCast_nonneg (nu (setU u N none)); omega
            have hnu4 : (nu u : Int) ≤ 4 := by have := nu_le u; omega
            go_wp2_with (first
              | (go_at_call 20; (with_reducible refine (NewPop_any t s _).mono ?_); rintro _ W3 ⟨k, rfl, hk, hb3, hf3⟩; have hS3 := hS2.anew hN4 rfl hM2 hbase hk hb3 hf3; have cp := (hS2.below hb3).rowp hN4; have zp := (hS2.below hb3).fp.fz N))
            go_roundw
            case rel => exact ⟨i + 1, by omega, by go_num, g + 1, _, _, _, _, _, _, _, by omega, by rw [hnu], hS3⟩
            case measure => simp [intOf]; omega
        | none =>
          rw [hun] at r0
          change wr.cell? ⟨X.rq, N, none⟩ = some (.pointer none) at r0
          have r1 := hS.rowp hN4
          rw [hS.pp N hN4 (by omega) hun] at r1
          have hps := ap_pop hS hg1 hN4 hun
          unfold ifc at hps
          go_wp2_with (first
            | (go_at_call 22; (with_reducible refine hps.mono ?_); rintro _ W2 ⟨sl, er, d, rfl, hor⟩; refine apUn ?_))
          refine Lib.hid ?_
          clear hps r0 r1 m0 m1
          rcases hor with ⟨rfl, ws2, M2, hS2⟩ | ⟨rfl, rfl, ws2, M2, hM2, hS2⟩ | ⟨rfl, rfl, hni, ws2, M2, F2, hM2, hS2⟩
          · go_wp2_with fail
            go_roundw
            case rel => exact ⟨i + 1, by omega, by go_num, g, _, _, _, _, _, _, _, by omega, rfl, hS2⟩
            case measure => simp [intOf]; omega
          · clear hS
            obtain ⟨g4, hg4, hS4⟩ : ∃ g4 : Int, g4 ≤ i + 1 ∧ Ap w X a s t g4 ws2 F T u M2 kp pv u7 T N W2 := ⟨g, by omega, hS2⟩
            clear hS2
            generalize W2 = W4 at *
            generalize T = T4 at *
            have hlen4 : T4.length ≤ 64 := by have := hS4.lens; omega
            have q0 : W4.cell? ⟨X.bl, 0, none⟩ = some (.int .i64 t) := hS4.fl.at' 0 rfl
            have q1 : W4.cell? ⟨X.bl, 1, none⟩ = some (.int .i64 s) := hS4.fl.at' 1 rfl
            have hwn : ((nu u : Int)) ≤ 4 ∧ (0 : Int) ≤ nu u := ⟨by have := nu_le u; omega, by omega⟩
            cases push with
            | false =>
              go_wp2_with (first
                | (go_at_call 20; (with_reducible refine (NewPop_any t s _).mono ?_); rintro _ W5 ⟨k, rfl, hk, hb5, hf5⟩; have hS5 := hS4.anew hN4 rfl hM2 hbase hk hb5 hf5; have cp := (hS4.below hb5).rowp hN4; have zp := (hS4.below hb5).fp.fz N; obtain ⟨-, kk1⟩ := HKS.out _ hS5.bel))
              go_roundw
              case rel => exact ⟨i + 1, by omega, by go_num, g4, _, _, _, _, _, _, _, by omega, rfl, hS5⟩
              case measure => simp [intOf]; omega
            | true =>
              obtain ⟨pt, ct, rfl⟩ := ints_len hS4.own
              cases T4 with
              | nil =>
                generalize hL : ([] : List Int).length = L
                have hL0 : L = 0 := hL.symm
                have hng : ¬ (0 : Int) < (L : Int) := by omega
                go_wp2_with (first
                  | (go_at_call 20; (with_reducible refine (NewPop_any t s _).mono ?_); rintro _ W5 ⟨k, rfl, hk, hb5, hf5⟩; have hS5 := hS4.anew hN4 rfl hM2 hbase hk hb5 hf5; have cp := (hS4.below hb5).rowp hN4; have zp := (hS4.below hb5).fp.fz N; obtain ⟨-, kk1⟩ := HKS.out _ hS5.bel))
                go_roundw
                case rel => exact ⟨i + 1, by omega, by go_num, g4, _, _, _, _, _, _, _, by omega, rfl, hS5⟩
                case measure => simp [intOf]; omega
              | cons y T5 =>
                have hpos : (0 : Int) < ((y :: T5).length : Nat) := by rw [List.length_cons]; omega
                generalize hL : (y :: T5).length = L at hpos ⊢
                go_wp2_with (first
                  | (go_at_call 20; (with_reducible refine (NewPop_any t s _).mono ?_); rintro _ W5 ⟨k, rfl, hk, hb5, hf5⟩; have hS5 := hS4.anew hN4 rfl hM2 hbase hk hb5 hf5; have cp := (hS4.below hb5).rowp hN4; have zp := (hS4.below hb5).fp.fz N; obtain ⟨-, kk1⟩ := HKS.out _ hS5.bel))
                have hl6 : W5.heap.size = (W5.setCell ⟨X.rp, N, none⟩ (.pointer (some ⟨k, 0, none⟩))).heap.size := by simp
                generalize W5.setCell ⟨X.rp, N, none⟩ (.pointer (some ⟨k, 0, none⟩)) = W6 at *
                obtain ⟨gb, ct', e, hbg, hltg, hcg⟩ := hS5.own.open' (by simp)
                injection e with e1 e2 e3
                subst e1 e3
                clear e2
                have hm0 : W6.cell? ⟨gb, 0, none⟩ = some (.int .i64 y) := hcg 0 (by simp)
                have hgq : gb ≠ X.rq := by omega
                have kB : ∀ W' : World, Moved (fun b => b = X.rq) W6 W' → W'.cell? ⟨X.bl, 0, none⟩ = some (.int .i64 t) ∧ W'.cell? ⟨X.bl, 1, none⟩ = some (.int .i64 s) ∧ W'.cell? ⟨gb, 0, none⟩ = some (.int .i64 y) ∧ Moved (fun b => b = X.rq) W6 W' := fun W' hm => ⟨(hS5.fl.moved hm hS5.lq).at' 0 rfl, (hS5.fl.moved hm hS5.lq).at' 1 rfl, (hm.cell _ _ _ hltg hgq).trans hm0, hm⟩
                have HKB := Lib.hid kB
                have hnp := fun W => NewPush_any t s y W
                clear kB hm0 hcg q0 q1 kk1 cp zp k0 k1 hS4 hb5 hf5 hk hl6
                go_region_held3 (fun w' => w'.cell? ⟨X.bl, 0, none⟩ = some (.int .i64 t) ∧ w'.cell? ⟨X.bl, 1, none⟩ = some (.int .i64 s) ∧ w'.cell? ⟨gb, 0, none⟩ = some (.int .i64 y) ∧ Moved (fun b => b = X.rq) W6 w') (first
                  | exact HKB.out _ (Moved.refl _ _)
                  | exact HKB.out _ (Moved.refl _ _).drew
                  | assumption
                  | exact HKB.out _ (by assumption)
                  | exact HKB.out _ (hm7.setCell _ _ rfl)) (first
                  | (go_at_call 24; (with_reducible refine (hnp _).mono ?_); rintro _ W7 ⟨k7, rfl, hk7, hb7, hf7⟩; have hm7 : Moved (fun b => b = X.rq) W6 W7 := ((Moved.refl _ _).drew).trans (Moved.of_below hb7); have hBB := (Below.refl W6.heap.size W6).drew.trans hb7; have c7 := (hS5.below hBB).rowq hN4; have z7 := (hS5.below hBB).fq.fz N))
                all_goals
                  rename_i hHeld
                  clear hHeld HKB
                  have hk8 : W6.heap.size ≤ k7 := by simpa using hk7
                  have hS8 := hS5.push hN4 hun hbase hk8 hBB hf7
                  have hwo := without_any hS8.own (by rw [List.length_cons] at hlen4; omega)
                  rw [hL] at hwo
                  go_wp2_with (first
                    | (go_at_call 25; (with_reducible refine hwo.mono ?_); rintro _ W9 ⟨v9, rfl, hb9, hi9'⟩; have hS9 := hS8.less hbase hb9 hi9'))
                  first
                    | exact ⟨⟨i + 1, by omega, by go_num, g4, _, _, _, _, _, _, _, by omega, by rw [nu_take hN4 hun], hS9⟩, by simp [intOf]; omega⟩
                    | (go_roundw
                       case rel => exact ⟨i + 1, by omega, by go_num, g4, _, _, _, _, _, _, _, by omega, by rw [nu_take hN4 hun], hS9⟩
                       case measure => simp [intOf]; omega)
          · have hlenT : T.length + 1 ≤ 64 := by have := hS2.lens; simp at this; omega
            have hhas := has_no (RowV.of_ints hS2.own) hni (by omega)
            go_wp2_with (first
              | (go_at_call 23; (with_reducible refine hhas.mono ?_); rintro _ _ ⟨rfl, x, rfl⟩; have hS3 := hS2.below x.below)
              | (at_builtin; refine wpList_append_told rfl _ _ 48 rfl X.base 3 i9 (.int .i64 0) Tryd.underlying48 hi9 hz9 hz1 hz2 rfl _ _ _ rfl (hS3.own.alloc _) ⟨x.at'.heap.size, 0, none⟩ 1 1 [.int .i64 sl] rfl rfl (cell_one_new _ _ _) (fun u hu => by simp at hu; subst hu; rfl) (by omega) (by have := hS3.fq.lt; simp; omega) ?_; intro v4 W4 hown' hgrow hblk; have hS4' := hS3.grow hgrow hown' hblk; refine apUn ?_))
            refine Lib.hid ?_
            obtain ⟨g4, hg4, hS4⟩ : ∃ g4 : Int, g4 ≤ i + 1 ∧ Ap w X a s t g4 ws2 F2 (T ++ [sl]) u M2 kp pv v4 (T ++ [sl]) N W4 := ⟨g + 1, by omega, hS4'⟩
            clear hS4' hS3 hS2 hS hown' hgrow hblk hhas hni
            generalize T ++ [sl] = T4 at *
            have hlen4 : T4.length ≤ 64 := by have := hS4.lens; omega
            have q0 : W4.cell? ⟨X.bl, 0, none⟩ = some (.int .i64 t) := hS4.fl.at' 0 rfl
            have q1 : W4.cell? ⟨X.bl, 1, none⟩ = some (.int .i64 s) := hS4.fl.at' 1 rfl
            have hwn : ((nu u : Int)) ≤ 4 ∧ (0 : Int) ≤ nu u := ⟨by have := nu_le u; omega, by omega⟩
            cases push with
            | false =>
              go_wp2_with (first
                | (go_at_call 20; (with_reducible refine (NewPop_any t s _).mono ?_); rintro _ W5 ⟨k, rfl, hk, hb5, hf5⟩; have hS5 := hS4.anew hN4 rfl hM2 hbase hk hb5 hf5; have cp := (hS4.below hb5).rowp hN4; have zp := (hS4.below hb5).fp.fz N; obtain ⟨-, kk1⟩ := HKS.out _ hS5.bel))
              go_roundw
              case rel => exact ⟨i + 1, by omega, by go_num, g4, _, _, _, _, _, _, _, by omega, rfl, hS5⟩
              case measure => simp [intOf]; omega
            | true =>
              obtain ⟨pt, ct, rfl⟩ := ints_len hS4.own
              cases T4 with
              | nil =>
                generalize hL : ([] : List Int).length = L
                have hL0 : L = 0 := hL.symm
                have hng : ¬ (0 : Int) < (L : Int) := by omega
                go_wp2_with (first
                  | (go_at_call 20; (with_reducible refine (NewPop_any t s _).mono ?_); rintro _ W5 ⟨k, rfl, hk, hb5, hf5⟩; have hS5 := hS4.anew hN4 rfl hM2 hbase hk hb5 hf5; have cp := (hS4.below hb5).rowp hN4; have zp := (hS4.below hb5).fp.fz N; obtain ⟨-, kk1⟩ := HKS.out _ hS5.bel))
                go_roundw
                case rel => exact ⟨i + 1, by omega, by go_num, g4, _, _, _, _, _, _, _, by omega, rfl, hS5⟩
                case measure => simp [intOf]; omega
              | cons y T5 =>
                have hpos : (0 : Int) < ((y :: T5).length : Nat) := by rw [List.length_cons]; omega
                generalize hL : (y :: T5).length = L at hpos ⊢
                go_wp2_with (first
                  | (go_at_call 20; (with_reducible refine (NewPop_any t s _).mono ?_); rintro _ W5 ⟨k, rfl, hk, hb5, hf5⟩; have hS5 := hS4.anew hN4 rfl hM2 hbase hk hb5 hf5; have cp := (hS4.below hb5).rowp hN4; have zp := (hS4.below hb5).fp.fz N; obtain ⟨-, kk1⟩ := HKS.out _ hS5.bel))
                have hl6 : W5.heap.size = (W5.setCell ⟨X.rp, N, none⟩ (.pointer (some ⟨k, 0, none⟩))).heap.size := by simp
                generalize W5.setCell ⟨X.rp, N, none⟩ (.pointer (some ⟨k, 0, none⟩)) = W6 at *
                obtain ⟨gb, ct', e, hbg, hltg, hcg⟩ := hS5.own.open' (by simp)
                injection e with e1 e2 e3
                subst e1 e3
                clear e2
                have hm0 : W6.cell? ⟨gb, 0, none⟩ = some (.int .i64 y) := hcg 0 (by simp)
                have hgq : gb ≠ X.rq := by omega
                have kB : ∀ W' : World, Moved (fun b => b = X.rq) W6 W' → W'.cell? ⟨X.bl, 0, none⟩ = some (.int .i64 t) ∧ W'.cell? ⟨X.bl, 1, none⟩ = some (.int .i64 s) ∧ W'.cell? ⟨gb, 0, none⟩ = some (.int .i64 y) ∧ Moved (fun b => b = X.rq) W6 W' := fun W' hm => ⟨(hS5.fl.moved hm hS5.lq).at' 0 rfl, (hS5.fl.moved hm hS5.lq).at' 1 rfl, (hm.cell _ _ _ hltg hgq).trans hm0, hm⟩
                have HKB := Lib.hid kB
                have hnp := fun W => NewPush_any t s y W
                clear kB hm0 hcg q0 q1 kk1 cp zp k0 k1 hS4 hb5 hf5 hk hl6
                go_region_held3 (fun w' => w'.cell? ⟨X.bl, 0, none⟩ = some (.int .i64 t) ∧ w'.cell? ⟨X.bl, 1, none⟩ = some (.int .i64 s) ∧ w'.cell? ⟨gb, 0, none⟩ = some (.int .i64 y) ∧ Moved (fun b => b = X.rq) W6 w') (first
                  | exact HKB.out _ (Moved.refl _ _)
                  | exact HKB.out _ (Moved.refl _ _).drew
                  | assumption
                  | exact HKB.out _ (by assumption)
                  | exact HKB.out _ (hm7.setCell _ _ rfl)) (first
                  | (go_at_call 24; (with_reducible refine (hnp _).mono ?_); rintro _ W7 ⟨k7, rfl, hk7, hb7, hf7⟩; have hm7 : Moved (fun b => b = X.rq) W6 W7 := ((Moved.refl _ _).drew).trans (Moved.of_below hb7); have hBB := (Below.refl W6.heap.size W6).drew.trans hb7; have c7 := (hS5.below hBB).rowq hN4; have z7 := (hS5.below hBB).fq.fz N))
                all_goals
                  rename_i hHeld
                  clear hHeld HKB
                  have hk8 : W6.heap.size ≤ k7 := by simpa using hk7
                  have hS8 := hS5.push hN4 hun hbase hk8 hBB hf7
                  have hwo := without_any hS8.own (by rw [List.length_cons] at hlen4; omega)
                  rw [hL] at hwo
                  go_wp2_with (first
                    | (go_at_call 25; (with_reducible refine hwo.mono ?_); rintro _ W9 ⟨v9, rfl, hb9, hi9'⟩; have hS9 := hS8.less hbase hb9 hi9'))
                  first
                    | exact ⟨⟨i + 1, by omega, by go_num, g4, _, _, _, _, _, _, _, by omega, by rw [nu_take hN4 hun], hS9⟩, by simp [intOf]; omega⟩
                    | (go_roundw
                       case rel => exact ⟨i + 1, by omega, by go_num, g4, _, _, _, _, _, _, _, by omega, by rw [nu_take hN4 hun], hS9⟩
                       case measure => simp [intOf]; omega)
    · have hge : ¬ (i : Int) < l.length := by omega
      have m0 : wr.cell? ⟨X.bl, 0, none⟩ = some (.int .i64 t) := hS.fl.at' 0 rfl
      have m1 : wr.cell? ⟨X.bl, 1, none⟩ = some (.int .i64 s) := hS.fl.at' 1 rfl
      have hfr := ap_free hS (by omega)
      unfold ifc at hfr
      obtain ⟨pt, ct, rfl⟩ := ints_len hS.own
      go_wp2_with (first
        | (go_at_call 18; (with_reducible refine hfr.mono ?_); rintro _ W2 ⟨v, rfl, hB2, hc2, hT2, hF2, pf, cf, rfl, hcap⟩))
      obtain ⟨pf2, cf2, e4, hcf⟩ := hF2
      injection e4 with e5 e6 e7
      subst e5 e7
      clear e6
      have hlens := hS.lens
      have hnd := fun (j : Nat) (hj : j < F.length) => hS.nodup hj
      have hsI := hS.inv.ln
      have hBr := hB2
      clear hfr hS hi hl hP hil m0 m1 hge
      go_loopw [19] (fun u19 wr' => ∃ j : Nat, j ≤ F.length ∧ u19 = .int .i64 j ∧ ∃ y : Later W2, wr' = y.at') (fun u19 _ => (F.length - intOf u19).toNat)
      case atStart => exact ⟨0, by omega, rfl, ⟨W2, Below.refl _ _⟩, rfl⟩
      case round =>
        obtain ⟨j, hj, rfl, y, rfl⟩ := hrel
        by_cases hjl : j < F.length
        · have hjl2 : (j : Int) < F.length := by omega
          obtain ⟨gf, rfl, hltf, hcc⟩ := hcf (by intro e; rw [e] at hjl; simp at hjl)
          have hn := hnd j hjl
          have ha := fun z : Later W2 => has_no (hT2.later z) hn.1 (by omega)
          have hb := fun z : Later W2 => has_no (RowV.take (cap := cf) (z.lt _ hltf) (fun i hi => (z.cell _ _ _ hltf).trans (hcc i hi)) (i := j) (by omega)) hn.2 (by rw [List.length_take]; omega)
          have cj := hcc j hjl
          have hjc : (j : Int) ≤ cf := by omega
          have hjc2 : j ≤ cf := by omega
          generalize F.getD j 0 = q at ha hb cj
          clear hn hcc hcf
          go_wp2_with fail
          refine wp_region_later' y (by kernel_rfl) (by kernel_rfl) ?_
          repeat (go_big_quiet_step (first
            | (go_at_call 23; (with_reducible exact later_of _ (ha _)))
            | (go_at_call 23; (with_reducible exact later_of _ (hb _)))))
          refine wpQuiet_nil ?_
          rintro _ ⟨z, rfl⟩
          go_wp2
          go_roundw
          case rel => exact ⟨j + 1, by omega, by go_num, z, rfl⟩
          case measure => simp [intOf]; omega
        · have ej : ¬ (j : Int) < F.length := by omega
          have c1 : W2.cell? ⟨X.bc, 1, none⟩ = some (.int .i64 s) := hc2.at' 1 rfl
          have hltc := hc2.lt
          have hnu4 := nu_le u
          have hle : (F.length : Int) + T.length ≤ s := by omega
          have hgs : s ≤ (F.length : Int) + T.length + nu u := by omega
          have hF64 : (F.length : Int) ≤ 64 := by omega
          have hT64 : (T.length : Int) ≤ 64 := by omega
          have hnu64 : (nu u : Int) ≤ 4 := by omega
          have hnu0 : (0 : Int) ≤ nu u := by omega
          have hBy := y.cat hB2 hB2.size
          clear hnd hcf hlens hj
          go_wp2_with (first
            | (go_at_call 8; (with_reducible refine (hlive _ (hF.below hBy)).mono ?_); rintro _ _ ⟨rfl, x, rfl⟩))
          go_ret
          exact Ret.mk rfl (x.cat hBy hBy.size)
theorem StackApart_walk {a s t : Int} {p : Option Addr} {l : List Pk} {cap : Nat} {w : World} (hlive : ∀ W, HasHead W → Calls Tryd.prog 8 #[] W (Ret W (.bool true))) (hF : HasHead w) (hP : PksP w p l) :
    Calls Tryd.prog 4 #[.agg #[.int .i64 a, .int .i64 s, .int .i64 t], .slice p l.length cap] w (Ret w (.bool true)) := by
  by_cases hl : 200 < l.length
  · exact apart_long a s t p l.length cap w hlive hF hl
  · cases h : mayC a s t
    · exact apart_no a s t p l.length cap w hlive hF hl h
    · exact apart_yes a s t p l cap w hlive hF hl h hP
end Go.Proofs.YtlidoicpfomfcaaDoor
