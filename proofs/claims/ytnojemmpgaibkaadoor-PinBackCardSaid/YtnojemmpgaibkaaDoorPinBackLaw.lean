/-
  The walk of PinBack.
  Conditions: none but that the tables read as they are laid.
-/
import Derived.Test.YtnojemmpgaibkaaDoorPbMath
namespace Go.Proofs.YtnojemmpgaibkaaDoor
open Go.RowKit
attribute [local go_sem] Later.cell Later.frozen Later.lt Later.le
set_option linter.unusedVariables false
set_option linter.unusedSimpArgs false

/-- The rounds' relations: pinned so often; unpinned so often. -/
def PbRel (W0 : World) (A : PAt) (o g p q : Int) (bs : List Int) (N : Nat) (v : Value) (wr : World) : Prop := ∃ i : Nat, v = .int .i64 i ∧ i ≤ N ∧ Rv W0 A 1 1 (wpX (eW o g (p + i) q)) bs [] wr
def PuRel (W0 : World) (A : PAt) (o g p q : Int) (bs : List Int) (N : Nat) (v : Value) (wr : World) : Prop := ∃ i : Nat, v = .int .i64 i ∧ i ≤ N ∧ Rv W0 A 1 1 (wpX (eW o g (p + N - i) q)) bs [] wr
theorem pm1_st (g : Int) (un : Bool) : 0 ≤ (⟨true, 0, g, un, 1, 0, 0, 0⟩ : Pm).step ∧ (⟨true, 0, g, un, 1, 0, 0, 0⟩ : Pm).step ≤ 2 := by simp
set_option maxHeartbeats 8000000 in
set_option maxRecDepth 8000 in
theorem pback_yes {o g p q n : Int} (N : Nat) (hv : EV o g p q) (hN : p + N ≤ 7) (hnN : n = N) {w : World} (hH : HasHead w) (hE : HasFields w) :
    Calls Tryd.prog 12 #[.agg #[.int .i64 o, .int .i64 g, .int .i64 p, .int .i64 q, .bool false, .bool true], .int .i64 n] w (Ret w (.bool true)) := by
  subst hnN
  have hm := hv.may
  have hB0 : Below w.heap.size w ((w.alloc (.cells #[.int .i64 o, .int .i64 g, .int .i64 p, .int .i64 q, .bool false, .bool true] 34)).alloc (.cells #[.int .i64 8, .int .i64 1, .int .i64 1] 26)) := ((Below.refl _ _).alloc (Nat.le_refl _) _).alloc (by simp) _
  have he0 : Fs ((w.alloc (.cells #[.int .i64 o, .int .i64 g, .int .i64 p, .int .i64 q, .bool false, .bool true] 34)).alloc (.cells #[.int .i64 8, .int .i64 1, .int .i64 1] 26)) w.heap.size [.int .i64 o, .int .i64 g, .int .i64 p, .int .i64 q, .bool false, .bool true] := (Fs.new' _ _ rfl rfl).alloc _
  have hc0 : Fs ((w.alloc (.cells #[.int .i64 o, .int .i64 g, .int .i64 p, .int .i64 q, .bool false, .bool true] 34)).alloc (.cells #[.int .i64 8, .int .i64 1, .int .i64 1] 26)) (w.heap.size + 1) [.int .i64 8, .int .i64 1, .int .i64 1] := Fs.new' _ _ (by simp) rfl
  have hE0 : HasFields ((w.alloc (.cells #[.int .i64 o, .int .i64 g, .int .i64 p, .int .i64 q, .bool false, .bool true] 34)).alloc (.cells #[.int .i64 8, .int .i64 1, .int .i64 1] 26)) := (hE.alloc _).alloc _
  have hH0 : HasHead ((w.alloc (.cells #[.int .i64 o, .int .i64 g, .int .i64 p, .int .i64 q, .bool false, .bool true] 34)).alloc (.cells #[.int .i64 8, .int .i64 1, .int .i64 1] 26)) := (hH.alloc _).alloc _
  have hpk := fun W => refPack_any o g p q false true W
  rw [packE_ok hm, show packV ⟨o, g, p, q, false, true⟩ = eW o g p q from packV_ok hm] at hpk
  have hst := fun (W : World) hF => start14_yes 8 1 1 (by decide) W hF
  have hlv := fun W => plive_any W
  go_enter Tryd.func12, Tryd.ntmps12
  go_upto_region 2 with fail
  generalize (w.alloc (.cells #[.int .i64 o, .int .i64 g, .int .i64 p, .int .i64 q, .bool false, .bool true] 34)).alloc (.cells #[.int .i64 8, .int .i64 1, .int .i64 1] 26) = Wa at *
  have a0 := hc0.at' 0 rfl
  have a1 := hc0.at' 1 rfl
  have a2 := hc0.at' 2 rfl
  have e0 := he0.at' 0 rfl
  have e1 := he0.at' 1 rfl
  have e2 := he0.at' 2 rfl
  have e3 := he0.at' 3 rfl
  have e4 := he0.at' 4 rfl
  have e5 := he0.at' 5 rfl
  have hmk := fun W => Make_same 0 g W
  have hmP := mkP_true (s := 0) (g := g) ⟨by decide, by decide, hv.g0, hv.g1⟩
  rw [mkE_ok hmP] at hmk
  have n1 : ∀ W, Calls Tryd.prog 29 #[.agg #[.int .i64 8, .int .i64 1, .int .i64 1], .int .i64 (mkV 0 g)] W fun e w' => ∃ k, e = .returned (.pointer (some ⟨k, 0, none⟩)) ∧ W.heap.size ≤ k ∧ Below W.heap.size W w' ∧ Fs w' k (pmL 1 1 ⟨true, 0, g, false, 1, 0, 0, 0⟩) := fun W => pm_new (un := false) hv.g0 hv.g1 ▸ pnew_yes 8 1 1 (mkV 0 g) false (by decide) W
  have n2 : ∀ W, Calls Tryd.prog 30 #[.agg #[.int .i64 8, .int .i64 1, .int .i64 1], .int .i64 (mkV 0 g)] W fun e w' => ∃ k, e = .returned (.pointer (some ⟨k, 0, none⟩)) ∧ W.heap.size ≤ k ∧ Below W.heap.size W w' ∧ Fs w' k (pmL 1 1 ⟨true, 0, g, true, 1, 0, 0, 0⟩) := fun W => pm_new (un := true) hv.g0 hv.g1 ▸ pnew_yes 8 1 1 (mkV 0 g) true (by decide) W
  have hp0 := hv.p0
  have hp1 := hv.p1
  have hn7 : ¬ 7 - p < N := by omega
  have hnn : (0 : Int) ≤ N := by omega
  have HV := Lib.hid hv
  clear hm hmP hv
  generalize mkV 0 g = h at hmk n1 n2
  go_wp2_with (first
    | (go_at_call 15; (with_reducible refine (hpk _).mono ?_); rintro _ _ ⟨rfl, x1, rfl⟩; have hc1 := hc0.later x1; have he1 := he0.later x1; have hE1 := hE0.below x1.below hE0.lt; have hH1 := hH0.below x1.below; have hB1' := hB0.trans (x1.below.mono hB0.size); clear a0 a1 a2 e0 e1 e2 e3 e4 e5; have a0 := hc1.at' 0 rfl; have a1 := hc1.at' 1 rfl; have a2 := hc1.at' 2 rfl)
    | (go_at_call 26; (with_reducible refine (hst _ hH1).mono ?_); rintro _ V1 ⟨A, rfl, hlo, hB1, ws, nn, hM1, hlen, hat⟩; have hws := words_of 1 1 wp0 (by decide) (by decide +kernel) ws hlen hat; subst hws; have hv1 := Rv.begin (t := 1) (s := 1) hE1 hlo hB1 hM1 (by decide); clear a0 a1 a2; have he2 := he1.below hv1.bel he1.lt; have hc2 := hc1.below hv1.bel hc1.lt; have e1 := he2.at' 1 rfl; have e2 := he2.at' 2 rfl; have e4 := he2.at' 4 rfl; have e5 := he2.at' 5 rfl)
    | (go_at_call 14; (with_reducible refine (hmk _).mono ?_); rintro _ _ ⟨rfl, rfl⟩)
    | (go_at_call 17; (with_reducible refine (rvStore hv1 _ _).mono ?_); rintro _ V2 ⟨rfl, hv2, -⟩; rw [(wp_set (eW o g p q) 0).1] at hv2; clear hv1))
  clear e1 e2 e4 e5 hpk hst hmk hM1 hlen hat hB1 he2 hc2 hc0 he0 hE0 hH0 hB0
  generalize List.replicate (8 : Int).toNat (0 : Int) = bs at hv2
  go_loopw [11] (fun v wr => PbRel x1.at' A o g p q bs N v wr) (fun v _ => N - (intOf v).toNat)
  case atStart => exact ⟨0, rfl, Nat.zero_le _, by simpa using hv2⟩
  case round =>
    obtain ⟨i, rfl, hi, hv⟩ := hrel
    clear hv2
    by_cases hiN : i < N
    · have i1 : (i : Int) < N := by omega
      have hV := HV.out
      have hVi : EV o g (p + i) q := ⟨hV.o0, hV.o1, hV.g0, hV.g1, by omega, by omega, hV.q0, hV.q1⟩
      obtain ⟨M1, r1⟩ := hVi.run (hVi.pin (by omega))
      have b0 := (hc1.below hv.bel hc1.lt).at' 0 rfl
      have b1 := (hc1.below hv.bel hc1.lt).at' 1 rfl
      have b2 := (hc1.below hv.bel hc1.lt).at' 2 rfl
      clear hV hVi
      go_wp2_with (first
        | (go_at_call 29; (with_reducible refine (n1 _).mono ?_); rintro _ V3 ⟨k1, rfl, hk1, hb1, hf1⟩)
        | (go_at_call 37; (with_reducible refine (rvpNew 10 10 rfl (by decide) hv hk1 hb1 hf1 (pm1_st g false) r1).mono ?_); rintro _ V4 ⟨rfl, hv4⟩; have hv5 := hv4.alloc (.cells #[.int .i64 0, .int .i64 0] 41)))
      go_roundw
      case rel => exact ⟨i + 1, by go_num, by omega, by rw [show p + ((i + 1 : Nat) : Int) = p + i + 1 from by omega]; exact hv5⟩
      case measure => simp [intOf]; omega
    · have i1 : ¬ (i : Int) < N := by omega
      have ei : i = N := by omega
      subst ei
      clear n1 hiN
      go_wp2_with fail
      go_loopw [14] (fun v wr => PuRel x1.at' A o g p q bs i v wr) (fun v _ => i - (intOf v).toNat)
      case atStart => exact ⟨0, rfl, Nat.zero_le _, by simpa using hv⟩
      case round =>
        obtain ⟨j, rfl, hj, hw⟩ := hrel
        clear hv
        by_cases hjN : j < i
        · have j1 : (j : Int) < i := by omega
          have hV := HV.out
          have hVi : EV o g (p + i - j) q := ⟨hV.o0, hV.o1, hV.g0, hV.g1, by omega, by omega, hV.q0, hV.q1⟩
          obtain ⟨M2, r2⟩ := hVi.run (hVi.unpin (by omega))
          have b0 := (hc1.below hw.bel hc1.lt).at' 0 rfl
          have b1 := (hc1.below hw.bel hc1.lt).at' 1 rfl
          have b2 := (hc1.below hw.bel hc1.lt).at' 2 rfl
          clear hV hVi
          go_wp2_with (first
            | (go_at_call 30; (with_reducible refine (n2 _).mono ?_); rintro _ V3 ⟨k1, rfl, hk1, hb1, hf1⟩)
            | (go_at_call 37; (with_reducible refine (rvpNew 10 10 rfl (by decide) hw hk1 hb1 hf1 (pm1_st g true) r2).mono ?_); rintro _ V4 ⟨rfl, hv4⟩; have hv5 := hv4.alloc (.cells #[.int .i64 0, .int .i64 0] 41)))
          go_roundw
          case rel => exact ⟨j + 1, by go_num, by omega, by rw [show p + (i : Int) - ((j + 1 : Nat) : Int) = p + i - j - 1 from by omega]; exact hv5⟩
          case measure => simp [intOf]; omega
        · have j1 : ¬ (j : Int) < i := by omega
          have ej : j = i := by omega
          subst ej
          rw [show p + (j : Int) - j = p from by omega] at hw
          clear n2 hjN
          go_wp2_with (first
            | (go_at_call 22; (with_reducible refine (rvLoad hw _).mono ?_); rintro _ V5 ⟨rfl, hv5, -⟩; rw [(wp_set (eW o g p q) 0).2.2])
            | (go_at_call 25; (with_reducible refine (hlv _ (hH1.below hv5.bel) (hE1.below hv5.bel hE1.lt)).mono ?_); rintro _ _ ⟨rfl, x5, rfl⟩))
          go_ret
          exact Ret.mk rfl (hB1'.trans ((x5.cat hv5.bel hv5.bel.size).mono hB1'.size))
set_option maxHeartbeats 4000000 in
theorem pback_bad {o g p q n : Int} {lk lv : Bool} (hm : En.may ⟨o, g, p, q, lk, lv⟩ = false) {w : World} (hH : HasHead w) (hE : HasFields w) :
    Calls Tryd.prog 12 #[.agg #[.int .i64 o, .int .i64 g, .int .i64 p, .int .i64 q, .bool lk, .bool lv], .int .i64 n] w (Ret w (.bool true)) := by
  have hB0 : Below w.heap.size w ((w.alloc (.cells #[.int .i64 o, .int .i64 g, .int .i64 p, .int .i64 q, .bool lk, .bool lv] 34)).alloc (.cells #[.int .i64 8, .int .i64 1, .int .i64 1] 26)) := ((Below.refl _ _).alloc (Nat.le_refl _) _).alloc (by simp) _
  have he0 : Fs ((w.alloc (.cells #[.int .i64 o, .int .i64 g, .int .i64 p, .int .i64 q, .bool lk, .bool lv] 34)).alloc (.cells #[.int .i64 8, .int .i64 1, .int .i64 1] 26)) w.heap.size [.int .i64 o, .int .i64 g, .int .i64 p, .int .i64 q, .bool lk, .bool lv] := (Fs.new' _ _ rfl rfl).alloc _
  have hc0 : Fs ((w.alloc (.cells #[.int .i64 o, .int .i64 g, .int .i64 p, .int .i64 q, .bool lk, .bool lv] 34)).alloc (.cells #[.int .i64 8, .int .i64 1, .int .i64 1] 26)) (w.heap.size + 1) [.int .i64 8, .int .i64 1, .int .i64 1] := Fs.new' _ _ (by simp) rfl
  have hE0 : HasFields ((w.alloc (.cells #[.int .i64 o, .int .i64 g, .int .i64 p, .int .i64 q, .bool lk, .bool lv] 34)).alloc (.cells #[.int .i64 8, .int .i64 1, .int .i64 1] 26)) := (hE.alloc _).alloc _
  have hH0 : HasHead ((w.alloc (.cells #[.int .i64 o, .int .i64 g, .int .i64 p, .int .i64 q, .bool lk, .bool lv] 34)).alloc (.cells #[.int .i64 8, .int .i64 1, .int .i64 1] 26)) := (hH.alloc _).alloc _
  have hpk := fun W => refPack_any o g p q lk lv W
  rw [packE_bad hm, packV_bad hm] at hpk
  have hst := fun (W : World) hF => start14_yes 8 1 1 (by decide) W hF
  have hlv := fun W => plive_any W
  go_enter Tryd.func12, Tryd.ntmps12
  go_upto_region 2 with fail
  generalize (w.alloc (.cells #[.int .i64 o, .int .i64 g, .int .i64 p, .int .i64 q, .bool lk, .bool lv] 34)).alloc (.cells #[.int .i64 8, .int .i64 1, .int .i64 1] 26) = Wa at *
  have a0 := hc0.at' 0 rfl
  have a1 := hc0.at' 1 rfl
  have a2 := hc0.at' 2 rfl
  have e0 := he0.at' 0 rfl
  have e1 := he0.at' 1 rfl
  have e2 := he0.at' 2 rfl
  have e3 := he0.at' 3 rfl
  have e4 := he0.at' 4 rfl
  have e5 := he0.at' 5 rfl
  go_wp2_with (first
    | (go_at_call 15; (with_reducible refine (hpk _).mono ?_); rintro _ _ ⟨rfl, x1, rfl⟩; have hc1 := hc0.later x1; have he1 := he0.later x1; have hE1 := hE0.below x1.below hE0.lt; have hH1 := hH0.below x1.below; have hB1' := hB0.trans (x1.below.mono hB0.size); clear a0 a1 a2 e0 e1 e2 e3 e4 e5; have a0 := hc1.at' 0 rfl; have a1 := hc1.at' 1 rfl; have a2 := hc1.at' 2 rfl)
    | (go_at_call 26; (with_reducible refine (hst _ hH1).mono ?_); rintro _ V1 ⟨A, rfl, hlo, hB1, ws, nn, hM1, hlen, hat⟩; have hws := words_of 1 1 wp0 (by decide) (by decide +kernel) ws hlen hat; subst hws; have hv1 := Rv.begin (t := 1) (s := 1) hE1 hlo hB1 hM1 (by decide); clear a0 a1 a2; have he2 := he1.below hv1.bel he1.lt; have hc2 := hc1.below hv1.bel hc1.lt; have e1 := he2.at' 1 rfl; have e2 := he2.at' 2 rfl; have e4 := he2.at' 4 rfl; have e5 := he2.at' 5 rfl)
    | (go_at_call 25; (with_reducible refine (hlv _ (hH1.below hv1.bel) (hE1.below hv1.bel hE1.lt)).mono ?_); rintro _ _ ⟨rfl, x5, rfl⟩))
  go_ret
  exact Ret.mk rfl (hB1'.trans ((x5.cat hv1.bel hv1.bel.size).mono hB1'.size))
set_option maxHeartbeats 4000000 in
theorem pback_dead {o g p q n : Int} {lk : Bool} (hm : En.may ⟨o, g, p, q, lk, false⟩ = true) {w : World} (hH : HasHead w) (hE : HasFields w) :
    Calls Tryd.prog 12 #[.agg #[.int .i64 o, .int .i64 g, .int .i64 p, .int .i64 q, .bool lk, .bool false], .int .i64 n] w (Ret w (.bool true)) := by
  have hB0 : Below w.heap.size w ((w.alloc (.cells #[.int .i64 o, .int .i64 g, .int .i64 p, .int .i64 q, .bool lk, .bool false] 34)).alloc (.cells #[.int .i64 8, .int .i64 1, .int .i64 1] 26)) := ((Below.refl _ _).alloc (Nat.le_refl _) _).alloc (by simp) _
  have he0 : Fs ((w.alloc (.cells #[.int .i64 o, .int .i64 g, .int .i64 p, .int .i64 q, .bool lk, .bool false] 34)).alloc (.cells #[.int .i64 8, .int .i64 1, .int .i64 1] 26)) w.heap.size [.int .i64 o, .int .i64 g, .int .i64 p, .int .i64 q, .bool lk, .bool false] := (Fs.new' _ _ rfl rfl).alloc _
  have hc0 : Fs ((w.alloc (.cells #[.int .i64 o, .int .i64 g, .int .i64 p, .int .i64 q, .bool lk, .bool false] 34)).alloc (.cells #[.int .i64 8, .int .i64 1, .int .i64 1] 26)) (w.heap.size + 1) [.int .i64 8, .int .i64 1, .int .i64 1] := Fs.new' _ _ (by simp) rfl
  have hE0 : HasFields ((w.alloc (.cells #[.int .i64 o, .int .i64 g, .int .i64 p, .int .i64 q, .bool lk, .bool false] 34)).alloc (.cells #[.int .i64 8, .int .i64 1, .int .i64 1] 26)) := (hE.alloc _).alloc _
  have hH0 : HasHead ((w.alloc (.cells #[.int .i64 o, .int .i64 g, .int .i64 p, .int .i64 q, .bool lk, .bool false] 34)).alloc (.cells #[.int .i64 8, .int .i64 1, .int .i64 1] 26)) := (hH.alloc _).alloc _
  have hpk := fun W => refPack_any o g p q lk false W
  rw [packE_ok hm, packV_ok hm] at hpk
  have hst := fun (W : World) hF => start14_yes 8 1 1 (by decide) W hF
  have hlv := fun W => plive_any W
  go_enter Tryd.func12, Tryd.ntmps12
  go_upto_region 2 with fail
  generalize (w.alloc (.cells #[.int .i64 o, .int .i64 g, .int .i64 p, .int .i64 q, .bool lk, .bool false] 34)).alloc (.cells #[.int .i64 8, .int .i64 1, .int .i64 1] 26) = Wa at *
  have a0 := hc0.at' 0 rfl
  have a1 := hc0.at' 1 rfl
  have a2 := hc0.at' 2 rfl
  have e0 := he0.at' 0 rfl
  have e1 := he0.at' 1 rfl
  have e2 := he0.at' 2 rfl
  have e3 := he0.at' 3 rfl
  have e4 := he0.at' 4 rfl
  have e5 := he0.at' 5 rfl
  go_wp2_with (first
    | (go_at_call 15; (with_reducible refine (hpk _).mono ?_); rintro _ _ ⟨rfl, x1, rfl⟩; have hc1 := hc0.later x1; have he1 := he0.later x1; have hE1 := hE0.below x1.below hE0.lt; have hH1 := hH0.below x1.below; have hB1' := hB0.trans (x1.below.mono hB0.size); clear a0 a1 a2 e0 e1 e2 e3 e4 e5; have a0 := hc1.at' 0 rfl; have a1 := hc1.at' 1 rfl; have a2 := hc1.at' 2 rfl)
    | (go_at_call 26; (with_reducible refine (hst _ hH1).mono ?_); rintro _ V1 ⟨A, rfl, hlo, hB1, ws, nn, hM1, hlen, hat⟩; have hws := words_of 1 1 wp0 (by decide) (by decide +kernel) ws hlen hat; subst hws; have hv1 := Rv.begin (t := 1) (s := 1) hE1 hlo hB1 hM1 (by decide); clear a0 a1 a2; have he2 := he1.below hv1.bel he1.lt; have hc2 := hc1.below hv1.bel hc1.lt; have e1 := he2.at' 1 rfl; have e2 := he2.at' 2 rfl; have e4 := he2.at' 4 rfl; have e5 := he2.at' 5 rfl)
    | (go_at_call 25; (with_reducible refine (hlv _ (hH1.below hv1.bel) (hE1.below hv1.bel hE1.lt)).mono ?_); rintro _ _ ⟨rfl, x5, rfl⟩))
  go_ret
  exact Ret.mk rfl (hB1'.trans ((x5.cat hv1.bel hv1.bel.size).mono hB1'.size))
set_option maxHeartbeats 4000000 in
theorem pback_lock {o g p q n : Int} (hm : En.may ⟨o, g, p, q, true, true⟩ = true) {w : World} (hH : HasHead w) (hE : HasFields w) :
    Calls Tryd.prog 12 #[.agg #[.int .i64 o, .int .i64 g, .int .i64 p, .int .i64 q, .bool true, .bool true], .int .i64 n] w (Ret w (.bool true)) := by
  have hB0 : Below w.heap.size w ((w.alloc (.cells #[.int .i64 o, .int .i64 g, .int .i64 p, .int .i64 q, .bool true, .bool true] 34)).alloc (.cells #[.int .i64 8, .int .i64 1, .int .i64 1] 26)) := ((Below.refl _ _).alloc (Nat.le_refl _) _).alloc (by simp) _
  have he0 : Fs ((w.alloc (.cells #[.int .i64 o, .int .i64 g, .int .i64 p, .int .i64 q, .bool true, .bool true] 34)).alloc (.cells #[.int .i64 8, .int .i64 1, .int .i64 1] 26)) w.heap.size [.int .i64 o, .int .i64 g, .int .i64 p, .int .i64 q, .bool true, .bool true] := (Fs.new' _ _ rfl rfl).alloc _
  have hc0 : Fs ((w.alloc (.cells #[.int .i64 o, .int .i64 g, .int .i64 p, .int .i64 q, .bool true, .bool true] 34)).alloc (.cells #[.int .i64 8, .int .i64 1, .int .i64 1] 26)) (w.heap.size + 1) [.int .i64 8, .int .i64 1, .int .i64 1] := Fs.new' _ _ (by simp) rfl
  have hE0 : HasFields ((w.alloc (.cells #[.int .i64 o, .int .i64 g, .int .i64 p, .int .i64 q, .bool true, .bool true] 34)).alloc (.cells #[.int .i64 8, .int .i64 1, .int .i64 1] 26)) := (hE.alloc _).alloc _
  have hH0 : HasHead ((w.alloc (.cells #[.int .i64 o, .int .i64 g, .int .i64 p, .int .i64 q, .bool true, .bool true] 34)).alloc (.cells #[.int .i64 8, .int .i64 1, .int .i64 1] 26)) := (hH.alloc _).alloc _
  have hpk := fun W => refPack_any o g p q true true W
  rw [packE_ok hm, packV_ok hm] at hpk
  have hst := fun (W : World) hF => start14_yes 8 1 1 (by decide) W hF
  have hlv := fun W => plive_any W
  go_enter Tryd.func12, Tryd.ntmps12
  go_upto_region 2 with fail
  generalize (w.alloc (.cells #[.int .i64 o, .int .i64 g, .int .i64 p, .int .i64 q, .bool true, .bool true] 34)).alloc (.cells #[.int .i64 8, .int .i64 1, .int .i64 1] 26) = Wa at *
  have a0 := hc0.at' 0 rfl
  have a1 := hc0.at' 1 rfl
  have a2 := hc0.at' 2 rfl
  have e0 := he0.at' 0 rfl
  have e1 := he0.at' 1 rfl
  have e2 := he0.at' 2 rfl
  have e3 := he0.at' 3 rfl
  have e4 := he0.at' 4 rfl
  have e5 := he0.at' 5 rfl
  go_wp2_with (first
    | (go_at_call 15; (with_reducible refine (hpk _).mono ?_); rintro _ _ ⟨rfl, x1, rfl⟩; have hc1 := hc0.later x1; have he1 := he0.later x1; have hE1 := hE0.below x1.below hE0.lt; have hH1 := hH0.below x1.below; have hB1' := hB0.trans (x1.below.mono hB0.size); clear a0 a1 a2 e0 e1 e2 e3 e4 e5; have a0 := hc1.at' 0 rfl; have a1 := hc1.at' 1 rfl; have a2 := hc1.at' 2 rfl)
    | (go_at_call 26; (with_reducible refine (hst _ hH1).mono ?_); rintro _ V1 ⟨A, rfl, hlo, hB1, ws, nn, hM1, hlen, hat⟩; have hws := words_of 1 1 wp0 (by decide) (by decide +kernel) ws hlen hat; subst hws; have hv1 := Rv.begin (t := 1) (s := 1) hE1 hlo hB1 hM1 (by decide); clear a0 a1 a2; have he2 := he1.below hv1.bel he1.lt; have hc2 := hc1.below hv1.bel hc1.lt; have e1 := he2.at' 1 rfl; have e2 := he2.at' 2 rfl; have e4 := he2.at' 4 rfl; have e5 := he2.at' 5 rfl)
    | (go_at_call 25; (with_reducible refine (hlv _ (hH1.below hv1.bel) (hE1.below hv1.bel hE1.lt)).mono ?_); rintro _ _ ⟨rfl, x5, rfl⟩))
  go_ret
  exact Ret.mk rfl (hB1'.trans ((x5.cat hv1.bel hv1.bel.size).mono hB1'.size))
set_option maxHeartbeats 4000000 in
theorem pback_neg {o g p q n : Int} (hm : En.may ⟨o, g, p, q, false, true⟩ = true) (hn : n < 0) {w : World} (hH : HasHead w) (hE : HasFields w) :
    Calls Tryd.prog 12 #[.agg #[.int .i64 o, .int .i64 g, .int .i64 p, .int .i64 q, .bool false, .bool true], .int .i64 n] w (Ret w (.bool true)) := by
  have hB0 : Below w.heap.size w ((w.alloc (.cells #[.int .i64 o, .int .i64 g, .int .i64 p, .int .i64 q, .bool false, .bool true] 34)).alloc (.cells #[.int .i64 8, .int .i64 1, .int .i64 1] 26)) := ((Below.refl _ _).alloc (Nat.le_refl _) _).alloc (by simp) _
  have he0 : Fs ((w.alloc (.cells #[.int .i64 o, .int .i64 g, .int .i64 p, .int .i64 q, .bool false, .bool true] 34)).alloc (.cells #[.int .i64 8, .int .i64 1, .int .i64 1] 26)) w.heap.size [.int .i64 o, .int .i64 g, .int .i64 p, .int .i64 q, .bool false, .bool true] := (Fs.new' _ _ rfl rfl).alloc _
  have hc0 : Fs ((w.alloc (.cells #[.int .i64 o, .int .i64 g, .int .i64 p, .int .i64 q, .bool false, .bool true] 34)).alloc (.cells #[.int .i64 8, .int .i64 1, .int .i64 1] 26)) (w.heap.size + 1) [.int .i64 8, .int .i64 1, .int .i64 1] := Fs.new' _ _ (by simp) rfl
  have hE0 : HasFields ((w.alloc (.cells #[.int .i64 o, .int .i64 g, .int .i64 p, .int .i64 q, .bool false, .bool true] 34)).alloc (.cells #[.int .i64 8, .int .i64 1, .int .i64 1] 26)) := (hE.alloc _).alloc _
  have hH0 : HasHead ((w.alloc (.cells #[.int .i64 o, .int .i64 g, .int .i64 p, .int .i64 q, .bool false, .bool true] 34)).alloc (.cells #[.int .i64 8, .int .i64 1, .int .i64 1] 26)) := (hH.alloc _).alloc _
  have hpk := fun W => refPack_any o g p q false true W
  rw [packE_ok hm, packV_ok hm] at hpk
  have hst := fun (W : World) hF => start14_yes 8 1 1 (by decide) W hF
  have hlv := fun W => plive_any W
  go_enter Tryd.func12, Tryd.ntmps12
  go_upto_region 2 with fail
  generalize (w.alloc (.cells #[.int .i64 o, .int .i64 g, .int .i64 p, .int .i64 q, .bool false, .bool true] 34)).alloc (.cells #[.int .i64 8, .int .i64 1, .int .i64 1] 26) = Wa at *
  have a0 := hc0.at' 0 rfl
  have a1 := hc0.at' 1 rfl
  have a2 := hc0.at' 2 rfl
  have e0 := he0.at' 0 rfl
  have e1 := he0.at' 1 rfl
  have e2 := he0.at' 2 rfl
  have e3 := he0.at' 3 rfl
  have e4 := he0.at' 4 rfl
  have e5 := he0.at' 5 rfl
  go_wp2_with (first
    | (go_at_call 15; (with_reducible refine (hpk _).mono ?_); rintro _ _ ⟨rfl, x1, rfl⟩; have hc1 := hc0.later x1; have he1 := he0.later x1; have hE1 := hE0.below x1.below hE0.lt; have hH1 := hH0.below x1.below; have hB1' := hB0.trans (x1.below.mono hB0.size); clear a0 a1 a2 e0 e1 e2 e3 e4 e5; have a0 := hc1.at' 0 rfl; have a1 := hc1.at' 1 rfl; have a2 := hc1.at' 2 rfl)
    | (go_at_call 26; (with_reducible refine (hst _ hH1).mono ?_); rintro _ V1 ⟨A, rfl, hlo, hB1, ws, nn, hM1, hlen, hat⟩; have hws := words_of 1 1 wp0 (by decide) (by decide +kernel) ws hlen hat; subst hws; have hv1 := Rv.begin (t := 1) (s := 1) hE1 hlo hB1 hM1 (by decide); clear a0 a1 a2; have he2 := he1.below hv1.bel he1.lt; have hc2 := hc1.below hv1.bel hc1.lt; have e1 := he2.at' 1 rfl; have e2 := he2.at' 2 rfl; have e4 := he2.at' 4 rfl; have e5 := he2.at' 5 rfl)
    | (go_at_call 25; (with_reducible refine (hlv _ (hH1.below hv1.bel) (hE1.below hv1.bel hE1.lt)).mono ?_); rintro _ _ ⟨rfl, x5, rfl⟩))
  go_ret
  exact Ret.mk rfl (hB1'.trans ((x5.cat hv1.bel hv1.bel.size).mono hB1'.size))
set_option maxHeartbeats 4000000 in
theorem pback_far {o g p q n : Int} (hm : En.may ⟨o, g, p, q, false, true⟩ = true) (hn : ¬ n < 0) (hp : 7 - p < n) (p0 : 0 ≤ p) (p7 : p ≤ 7) {w : World} (hH : HasHead w) (hE : HasFields w) :
    Calls Tryd.prog 12 #[.agg #[.int .i64 o, .int .i64 g, .int .i64 p, .int .i64 q, .bool false, .bool true], .int .i64 n] w (Ret w (.bool true)) := by
  have hB0 : Below w.heap.size w ((w.alloc (.cells #[.int .i64 o, .int .i64 g, .int .i64 p, .int .i64 q, .bool false, .bool true] 34)).alloc (.cells #[.int .i64 8, .int .i64 1, .int .i64 1] 26)) := ((Below.refl _ _).alloc (Nat.le_refl _) _).alloc (by simp) _
  have he0 : Fs ((w.alloc (.cells #[.int .i64 o, .int .i64 g, .int .i64 p, .int .i64 q, .bool false, .bool true] 34)).alloc (.cells #[.int .i64 8, .int .i64 1, .int .i64 1] 26)) w.heap.size [.int .i64 o, .int .i64 g, .int .i64 p, .int .i64 q, .bool false, .bool true] := (Fs.new' _ _ rfl rfl).alloc _
  have hc0 : Fs ((w.alloc (.cells #[.int .i64 o, .int .i64 g, .int .i64 p, .int .i64 q, .bool false, .bool true] 34)).alloc (.cells #[.int .i64 8, .int .i64 1, .int .i64 1] 26)) (w.heap.size + 1) [.int .i64 8, .int .i64 1, .int .i64 1] := Fs.new' _ _ (by simp) rfl
  have hE0 : HasFields ((w.alloc (.cells #[.int .i64 o, .int .i64 g, .int .i64 p, .int .i64 q, .bool false, .bool true] 34)).alloc (.cells #[.int .i64 8, .int .i64 1, .int .i64 1] 26)) := (hE.alloc _).alloc _
  have hH0 : HasHead ((w.alloc (.cells #[.int .i64 o, .int .i64 g, .int .i64 p, .int .i64 q, .bool false, .bool true] 34)).alloc (.cells #[.int .i64 8, .int .i64 1, .int .i64 1] 26)) := (hH.alloc _).alloc _
  have hpk := fun W => refPack_any o g p q false true W
  rw [packE_ok hm, packV_ok hm] at hpk
  have hst := fun (W : World) hF => start14_yes 8 1 1 (by decide) W hF
  have hlv := fun W => plive_any W
  go_enter Tryd.func12, Tryd.ntmps12
  go_upto_region 2 with fail
  generalize (w.alloc (.cells #[.int .i64 o, .int .i64 g, .int .i64 p, .int .i64 q, .bool false, .bool true] 34)).alloc (.cells #[.int .i64 8, .int .i64 1, .int .i64 1] 26) = Wa at *
  have a0 := hc0.at' 0 rfl
  have a1 := hc0.at' 1 rfl
  have a2 := hc0.at' 2 rfl
  have e0 := he0.at' 0 rfl
  have e1 := he0.at' 1 rfl
  have e2 := he0.at' 2 rfl
  have e3 := he0.at' 3 rfl
  have e4 := he0.at' 4 rfl
  have e5 := he0.at' 5 rfl
  go_wp2_with (first
    | (go_at_call 15; (with_reducible refine (hpk _).mono ?_); rintro _ _ ⟨rfl, x1, rfl⟩; have hc1 := hc0.later x1; have he1 := he0.later x1; have hE1 := hE0.below x1.below hE0.lt; have hH1 := hH0.below x1.below; have hB1' := hB0.trans (x1.below.mono hB0.size); clear a0 a1 a2 e0 e1 e2 e3 e4 e5; have a0 := hc1.at' 0 rfl; have a1 := hc1.at' 1 rfl; have a2 := hc1.at' 2 rfl)
    | (go_at_call 26; (with_reducible refine (hst _ hH1).mono ?_); rintro _ V1 ⟨A, rfl, hlo, hB1, ws, nn, hM1, hlen, hat⟩; have hws := words_of 1 1 wp0 (by decide) (by decide +kernel) ws hlen hat; subst hws; have hv1 := Rv.begin (t := 1) (s := 1) hE1 hlo hB1 hM1 (by decide); clear a0 a1 a2; have he2 := he1.below hv1.bel he1.lt; have hc2 := hc1.below hv1.bel hc1.lt; have e1 := he2.at' 1 rfl; have e2 := he2.at' 2 rfl; have e4 := he2.at' 4 rfl; have e5 := he2.at' 5 rfl)
    | (go_at_call 25; (with_reducible refine (hlv _ (hH1.below hv1.bel) (hE1.below hv1.bel hE1.lt)).mono ?_); rintro _ _ ⟨rfl, x5, rfl⟩))
  go_ret
  exact Ret.mk rfl (hB1'.trans ((x5.cat hv1.bel hv1.bel.size).mono hB1'.size))
theorem PinBack_walk {o g p q n : Int} {lk lv : Bool} {w : World} (hH : HasHead w) (hE : HasFields w) :
    Calls Tryd.prog 12 #[.agg #[.int .i64 o, .int .i64 g, .int .i64 p, .int .i64 q, .bool lk, .bool lv], .int .i64 n] w (Ret w (.bool true)) := by
  cases hm : En.may ⟨o, g, p, q, lk, lv⟩
  · exact pback_bad hm hH hE
  · cases lv
    · exact pback_dead hm hH hE
    · cases lk
      · obtain ⟨m1, m2, m3, m4, m5, m6, m7, m8, _⟩ := may_of hm
        simp only at m1 m2 m3 m4 m5 m6 m7 m8
        by_cases hn : n < 0
        · exact pback_neg hm hn hH hE
        · by_cases hp : 7 - p < n
          · exact pback_far hm hn hp m5 m6 hH hE
          · obtain ⟨N, rfl⟩ := Int.eq_ofNat_of_zero_le (show 0 ≤ n by omega)
            exact pback_yes N ⟨m3, m4, m1, m2, m5, m6, m7, m8⟩ (by omega) rfl hH hE
      · exact pback_lock hm hH hE
end Go.Proofs.YtnojemmpgaibkaaDoor
