/-
  The walk of PinAlone.
  Conditions: none but that the tables read as they are laid.
-/
import Derived.Test.YtnojemmpgaibkaaDoorPaBase
import Derived.Test.YtnojemmpgaibkaaDoorPlainCopy
import Derived.Test.YtnojemmpgaibkaaDoorRefUnpack
import Derived.Deep.CutRange
namespace Go.Proofs.YtnojemmpgaibkaaDoor
open Go.RowKit
attribute [local go_sem] Later.cell Later.frozen Later.lt Later.le
set_option linter.unusedVariables false
set_option linter.unusedSimpArgs false

set_option maxHeartbeats 16000000 in
set_option maxRecDepth 8000 in
theorem palone_w1 {o g p q h : Int} {w : World} {y : Int} {j : Nat} (hm : En.may ⟨o, g, p, q, false, false⟩ = true) (hO : PaOut o g p q false false h 4 j y (p)) (hH : HasHead w) (hE : HasFields w) :
    Calls Tryd.prog 8 #[.agg #[.int .i64 o, .int .i64 g, .int .i64 p, .int .i64 q, .bool false, .bool false], .int .i64 h, .bool false] w (Ret w (.bool true)) := by
  have hB0 : Below w.heap.size w ((w.alloc (.cells #[.int .i64 o, .int .i64 g, .int .i64 p, .int .i64 q, .bool false, .bool false] 34)).alloc (.cells #[.int .i64 8, .int .i64 2, .int .i64 1] 26)) := ((Below.refl _ _).alloc (Nat.le_refl _) _).alloc (by simp) _
  have he0 : Fs ((w.alloc (.cells #[.int .i64 o, .int .i64 g, .int .i64 p, .int .i64 q, .bool false, .bool false] 34)).alloc (.cells #[.int .i64 8, .int .i64 2, .int .i64 1] 26)) w.heap.size [.int .i64 o, .int .i64 g, .int .i64 p, .int .i64 q, .bool false, .bool false] := (Fs.new' _ _ rfl rfl).alloc _
  have hc0 : Fs ((w.alloc (.cells #[.int .i64 o, .int .i64 g, .int .i64 p, .int .i64 q, .bool false, .bool false] 34)).alloc (.cells #[.int .i64 8, .int .i64 2, .int .i64 1] 26)) (w.heap.size + 1) [.int .i64 8, .int .i64 2, .int .i64 1] := Fs.new' _ _ (by simp) rfl
  have hE0 : HasFields ((w.alloc (.cells #[.int .i64 o, .int .i64 g, .int .i64 p, .int .i64 q, .bool false, .bool false] 34)).alloc (.cells #[.int .i64 8, .int .i64 2, .int .i64 1] 26)) := (hE.alloc _).alloc _
  have hH0 : HasHead ((w.alloc (.cells #[.int .i64 o, .int .i64 g, .int .i64 p, .int .i64 q, .bool false, .bool false] 34)).alloc (.cells #[.int .i64 8, .int .i64 2, .int .i64 1] 26)) := (hH.alloc _).alloc _
  have hpk := fun W => refPack_any o g p q false false W
  rw [packE_ok hm] at hpk
  have hst := fun (W : World) hF => start14_yes 8 2 1 (by decide) W hF
  have hlv := fun W => plive_any W
  go_enter Tryd.func8, Tryd.ntmps8
  go_upto_region 2 with fail
  generalize (w.alloc (.cells #[.int .i64 o, .int .i64 g, .int .i64 p, .int .i64 q, .bool false, .bool false] 34)).alloc (.cells #[.int .i64 8, .int .i64 2, .int .i64 1] 26) = Wa at *
  generalize w.heap.size + 1 = cb at hc0 ⊢
  have a0 := hc0.at' 0 rfl
  have a1 := hc0.at' 1 rfl
  have a2 := hc0.at' 2 rfl
  have e0 := he0.at' 0 rfl
  have e1 := he0.at' 1 rfl
  have e2 := he0.at' 2 rfl
  have e3 := he0.at' 3 rfl
  have e4 := he0.at' 4 rfl
  have e5 := he0.at' 5 rfl
  obtain ⟨⟨M, hrun⟩, hup, hue, hj⟩ := hO
  have hmk := fun W => Make_same 1 g W
  have n1 := fun W => one_yes 8 2 1 h false (by decide) W
  have hsts := pm_new_st h 2 false
  have hul := refUnpack_any y
  rw [hup, hue] at hul
  unfold RU En.val at hul
  simp only at hul
  have hpk2 : ∀ W : World, Calls Tryd.prog 15 #[.agg #[.int .i64 o, .int .i64 g, .int .i64 p, .int .i64 q, .bool false, .bool false]] W (Ret W (.tuple #[.int .i64 (packV ⟨o, g, p, q, false, false⟩), .int .i64 0])) := hpk
  clear hpk
  have hpk := hpk2
  clear hpk2 hup hue
  generalize packV ⟨o, g, p, q, false, false⟩ = x at hpk hrun
  generalize mkE 1 g = mke at hmk
  skip
  skip
  skip
  skip
  skip
  generalize mkV 1 g = own at *
  skip
  skip
  skip
  have HJ := Lib.hid hj
  clear hj hm
  go_wp2_with (first
    | (go_at_call 15; (with_reducible refine (hpk _).mono ?_); rintro _ _ ⟨rfl, x1, rfl⟩; have hc1 := hc0.later x1; have he1 := he0.later x1; have hE1 := hE0.below x1.below hE0.lt; have hH1 := hH0.below x1.below; have hB1' := hB0.trans (x1.below.mono hB0.size); clear a0 a1 a2 e0 e1 e2 e3 e4 e5; have a0 := hc1.at' 0 rfl; have a1 := hc1.at' 1 rfl; have a2 := hc1.at' 2 rfl)
    | (go_at_call 26; (with_reducible refine (hst _ hH1).mono ?_); rintro _ V1 ⟨A, rfl, hlo, hB1, ws, nn, hM1, hlen, hat⟩; have hws := words_of 1 2 pa0 (by decide) (by decide +kernel) ws hlen hat; subst hws; have hv1 := Rv.begin (t := 1) (s := 2) hE1 hlo hB1 hM1 (by decide); clear a0 a1 a2; have hee := he1.below hv1.bel he1.lt; have e4 := hee.at' 4 rfl)
    | (go_at_call 17; (with_reducible refine (rvStore hv1 _ _).mono ?_); rintro _ V2 ⟨rfl, hv2, -⟩; rw [(pa_set x).1] at hv2; clear hv1 hee e4)
    | (go_at_call 36; obtain ⟨n2, hm2⟩ := hv2.mem; (with_reducible refine (Copy_any hm2).mono ?_); rintro _ _ ⟨A2, rfl, hA2, x3, rfl, hmc⟩; have hv3 := hv2.later x3; have ha2 := Nat.le_trans hv2.hi_le hA2; have hw2 := Nat.le_trans hv2.bel.size hA2; clear hm2 hv2; have gc := hc1.below hv3.bel hc1.lt; have c0 := gc.at' 0 rfl; have c1 := gc.at' 1 rfl; have c2 := gc.at' 2 rfl; clear gc)
    | (go_at_call 34; (with_reducible refine (n1 _).mono ?_); rintro _ V4 ⟨k1, rfl, hk1, hb1, hf1⟩; have hv4 := hv3.below hb1; have hmd := hmc.below hb1 hmc.hs; have hk2 := Nat.le_trans hv3.hi_le hk1; have hk3 := Nat.le_trans hmc.hs hk1; clear hv3 hmc c0 c1 c2)
    | (go_at_call 37; (with_reducible refine (rvpRun 10 10 rfl (by decide) hv4 hk2 (fun p hp => absurd hp (by simp)) hf1 hsts hrun).mono ?_); rintro _ V5 ⟨rfl, hv5, -, hmv⟩; have hme := hmd.moved hmv (fun b h1 h2 => spanS_not (Or.inr (by omega)) (by omega)); have hv6 := hv5.alloc (.cells #[.int .i64 4, .int .i64 0] 41); have hmf := hme.alloc (.cells #[.int .i64 4, .int .i64 0] 41); have hfr : Fs (V5.alloc (.cells #[.int .i64 4, .int .i64 0] 41)) V5.heap.size [.int .i64 4, .int .i64 0] := Fs.new' _ _ rfl rfl; have hkr := hme.hs; have hkw : A2.hi ≤ V5.heap.size + 1 := (by omega); have gee := he1.below hv6.bel he1.lt; have e0 := gee.at' 0 rfl; have e1 := gee.at' 1 rfl; have e2 := gee.at' 2 rfl; have e3 := gee.at' 3 rfl; have e4 := gee.at' 4 rfl; have e5 := gee.at' 5 rfl; have HBB := Lib.hid (show Below (V5.alloc (.cells #[.int .i64 4, .int .i64 0] 41)).heap.size (V5.alloc (.cells #[.int .i64 4, .int .i64 0] 41)) (((V5.alloc (.cells #[.int .i64 4, .int .i64 0] 41)).alloc (.cells #[.int .i64 o, .int .i64 g, .int .i64 p, .int .i64 q, .bool false, .bool false] 34))) from ((Below.refl _ _).alloc (Nat.le_refl _) _)); have HFF := Lib.hid (show Fs (((V5.alloc (.cells #[.int .i64 4, .int .i64 0] 41)).alloc (.cells #[.int .i64 o, .int .i64 g, .int .i64 p, .int .i64 q, .bool false, .bool false] 34))) (V5.heap.size + 1) [.int .i64 o, .int .i64 g, .int .i64 (p), .int .i64 q, .bool false, .bool false] from Fs.new' _ _ (by simp) rfl); clear hv4 hmd hmv hv5 hme)
    | (go_at_call 14; (with_reducible refine (hmk _).mono ?_); rintro _ _ ⟨rfl, rfl⟩)
    | (go_at_call 22; (with_reducible refine (rvLoad (hv6.below HBB.out) 8).mono ?_); rintro _ V8 ⟨rfl, hv8, ht8⟩; rw [(pa_set y).2]; have hmg := hmf.below HBB.out hmf.hs; have hlh : A2.lo ≤ A2.hi := (by have := hmg.lp; have := hmg.up; omega); have hm8 := hmg.touch ht8 (Or.inr ha2); have hr8 := (hfr.below HBB.out hfr.lt).touch ht8 (Or.inr (by omega)); have hw8 := HFF.out.touch ht8 (Or.inr (by omega)); clear e0 e1 e2 e3 e4 e5)
    | (go_at_call 21; (with_reducible refine (hul _).mono ?_); rintro _ _ ⟨rfl, x9, rfl⟩; have hz9 := (hm8.later x9).hs; have hP9 : Pa x1.at' A A2 (paW y) (paW x) (List.replicate (8 : Int).toNat 0) V5.heap.size (V5.heap.size + 1) x9.at'.heap.size [.int .i64 4, .int .i64 0] [.int .i64 o, .int .i64 g, .int .i64 (p), .int .i64 q, .bool false, .bool false] [.int .i64 o, .int .i64 g, .int .i64 (p), .int .i64 q, .bool false, .bool false] (x9.at'.alloc (.cells #[.int .i64 o, .int .i64 g, .int .i64 (p), .int .i64 q, .bool false, .bool false] 34)) := ⟨(hv8.later x9).alloc _, ⟨_, (hm8.later x9).alloc _⟩, (hr8.later x9).alloc _, (hw8.later x9).alloc _, Fs.new' _ _ rfl rfl, ha2, hw2, hkr, hkw, hz9⟩))
  clear hv6 hmf hfr hv8 ht8 hmg hm8 hr8 hw8 hul hz9 hkr hkw hpk hst hmk n1 hrun hsts hf1 hlen hat hM1 hB1 hb1 hk1 hk2 hk3 HBB HFF gee
  generalize x9.at'.alloc (.cells #[.int .i64 o, .int .i64 g, .int .i64 (p), .int .i64 q, .bool false, .bool false] 34) = W9 at hP9 ⊢
  generalize x9.at'.heap.size = kx at hP9 ⊢
  generalize V5.heap.size + 1 = kw at hP9 ⊢
  generalize V5.heap.size = kr at hP9 ⊢
  generalize List.replicate (8 : Int).toNat (0 : Int) = bs at hP9
  go_loopw [21] (fun v wr => PaRel x1.at' A A2 (paW y) (paW x) bs kr kw kx [.int .i64 4, .int .i64 0] [.int .i64 o, .int .i64 g, .int .i64 (p), .int .i64 q, .bool false, .bool false] [.int .i64 o, .int .i64 g, .int .i64 (p), .int .i64 q, .bool false, .bool false] v wr) (fun v _ => 11 - (intOf v).toNat)
  case atStart => exact ⟨0, rfl, by decide, hP9⟩
  case round =>
    obtain ⟨i, rfl, hi, hS⟩ := hrel
    clear hP9
    obtain ⟨nw, hmw⟩ := hS.rv.mem
    have hwd := Words_any hmw
    rw [show ((paW y).length : Int) = 11 from rfl] at hwd
    clear hmw
    by_cases hiN : i < 11
    · have i1 : (i : Int) < 11 := by omega
      by_cases h8 : i = 8
      · subst h8
        clear hiN i1
        go_wp2_with (first
          | (go_at_call 38; (with_reducible refine hwd.mono ?_); rintro _ _ ⟨rfl, rfl⟩))
        go_roundw
        case rel => exact ⟨9, by go_num, by omega, hS⟩
        case measure => simp [intOf]
      · have n8 : ¬ (i : Int) = 8 := by omega
        have n81 : decide ((i : Int) = 8) = false := decide_eq_false n8
        have n82 : ((i : Int) == 8) = false := by simpa using n8
        have n83 : ((i : Int) != 8) = true := by simp [n8]
        have hl1 := hS.load1 i
        rw [pa_other y x i h8 hiN] at hl1
        clear n8 h8
        go_wp2_with (first
          | (go_at_call 38; (with_reducible refine hwd.mono ?_); rintro _ _ ⟨rfl, rfl⟩)
          | (go_at_call 22; (with_reducible refine hl1.mono ?_); rintro _ Y1 ⟨rfl, hS1⟩)
          | (go_at_call 22; (with_reducible refine (hS1.load2 i).mono ?_); rintro _ Y2 ⟨rfl, hS2⟩))
        go_roundw
        case rel => exact ⟨i + 1, by go_num, by omega, hS2⟩
        case measure => simp [intOf]; omega
    · have ei : i = 11 := by omega
      subst ei
      clear hiN hi
      have r0 := hS.fr.at' 0 rfl
      have r1 := hS.fr.at' 1 rfl
      have w0 := hS.fw.at' 0 rfl
      have w1 := hS.fw.at' 1 rfl
      have w2 := hS.fw.at' 2 rfl
      have w3 := hS.fw.at' 3 rfl
      have w4 := hS.fw.at' 4 rfl
      have w5 := hS.fw.at' 5 rfl
      have z0 := hS.fx.at' 0 rfl
      have z1 := hS.fx.at' 1 rfl
      have z2 := hS.fx.at' 2 rfl
      have z3 := hS.fx.at' 3 rfl
      have z4 := hS.fx.at' 4 rfl
      have z5 := hS.fx.at' 5 rfl
      skip
      skip
      go_wp2_with (first
        | (go_at_call 38; (with_reducible refine hwd.mono ?_); rintro _ _ ⟨rfl, rfl⟩)
        | (go_at_call 25; (with_reducible refine (hlv _ (hH1.below hS.rv.bel) (hE1.below hS.rv.bel hE1.lt)).mono ?_); rintro _ _ ⟨rfl, x5, rfl⟩))
      go_ret
      exact Ret.mk rfl (hB1'.trans ((x5.cat hS.rv.bel hS.rv.bel.size).mono hB1'.size))
set_option maxHeartbeats 16000000 in
set_option maxRecDepth 8000 in
theorem palone_w2 {o g p q h : Int} {w : World} {y : Int} {j : Nat} (hm : En.may ⟨o, g, p, q, false, false⟩ = true) (hO : PaOut o g p q false true h 4 j y (p)) (hH : HasHead w) (hE : HasFields w) :
    Calls Tryd.prog 8 #[.agg #[.int .i64 o, .int .i64 g, .int .i64 p, .int .i64 q, .bool false, .bool false], .int .i64 h, .bool true] w (Ret w (.bool true)) := by
  have hB0 : Below w.heap.size w ((w.alloc (.cells #[.int .i64 o, .int .i64 g, .int .i64 p, .int .i64 q, .bool false, .bool false] 34)).alloc (.cells #[.int .i64 8, .int .i64 2, .int .i64 1] 26)) := ((Below.refl _ _).alloc (Nat.le_refl _) _).alloc (by simp) _
  have he0 : Fs ((w.alloc (.cells #[.int .i64 o, .int .i64 g, .int .i64 p, .int .i64 q, .bool false, .bool false] 34)).alloc (.cells #[.int .i64 8, .int .i64 2, .int .i64 1] 26)) w.heap.size [.int .i64 o, .int .i64 g, .int .i64 p, .int .i64 q, .bool false, .bool false] := (Fs.new' _ _ rfl rfl).alloc _
  have hc0 : Fs ((w.alloc (.cells #[.int .i64 o, .int .i64 g, .int .i64 p, .int .i64 q, .bool false, .bool false] 34)).alloc (.cells #[.int .i64 8, .int .i64 2, .int .i64 1] 26)) (w.heap.size + 1) [.int .i64 8, .int .i64 2, .int .i64 1] := Fs.new' _ _ (by simp) rfl
  have hE0 : HasFields ((w.alloc (.cells #[.int .i64 o, .int .i64 g, .int .i64 p, .int .i64 q, .bool false, .bool false] 34)).alloc (.cells #[.int .i64 8, .int .i64 2, .int .i64 1] 26)) := (hE.alloc _).alloc _
  have hH0 : HasHead ((w.alloc (.cells #[.int .i64 o, .int .i64 g, .int .i64 p, .int .i64 q, .bool false, .bool false] 34)).alloc (.cells #[.int .i64 8, .int .i64 2, .int .i64 1] 26)) := (hH.alloc _).alloc _
  have hpk := fun W => refPack_any o g p q false false W
  rw [packE_ok hm] at hpk
  have hst := fun (W : World) hF => start14_yes 8 2 1 (by decide) W hF
  have hlv := fun W => plive_any W
  go_enter Tryd.func8, Tryd.ntmps8
  go_upto_region 2 with fail
  generalize (w.alloc (.cells #[.int .i64 o, .int .i64 g, .int .i64 p, .int .i64 q, .bool false, .bool false] 34)).alloc (.cells #[.int .i64 8, .int .i64 2, .int .i64 1] 26) = Wa at *
  generalize w.heap.size + 1 = cb at hc0 ⊢
  have a0 := hc0.at' 0 rfl
  have a1 := hc0.at' 1 rfl
  have a2 := hc0.at' 2 rfl
  have e0 := he0.at' 0 rfl
  have e1 := he0.at' 1 rfl
  have e2 := he0.at' 2 rfl
  have e3 := he0.at' 3 rfl
  have e4 := he0.at' 4 rfl
  have e5 := he0.at' 5 rfl
  obtain ⟨⟨M, hrun⟩, hup, hue, hj⟩ := hO
  have hmk := fun W => Make_same 1 g W
  have n1 := fun W => one_yes 8 2 1 h true (by decide) W
  have hsts := pm_new_st h 2 true
  have hul := refUnpack_any y
  rw [hup, hue] at hul
  unfold RU En.val at hul
  simp only at hul
  have hpk2 : ∀ W : World, Calls Tryd.prog 15 #[.agg #[.int .i64 o, .int .i64 g, .int .i64 p, .int .i64 q, .bool false, .bool false]] W (Ret W (.tuple #[.int .i64 (packV ⟨o, g, p, q, false, false⟩), .int .i64 0])) := hpk
  clear hpk
  have hpk := hpk2
  clear hpk2 hup hue
  generalize packV ⟨o, g, p, q, false, false⟩ = x at hpk hrun
  generalize mkE 1 g = mke at hmk
  skip
  skip
  skip
  skip
  skip
  generalize mkV 1 g = own at *
  skip
  skip
  skip
  have HJ := Lib.hid hj
  clear hj hm
  go_wp2_with (first
    | (go_at_call 15; (with_reducible refine (hpk _).mono ?_); rintro _ _ ⟨rfl, x1, rfl⟩; have hc1 := hc0.later x1; have he1 := he0.later x1; have hE1 := hE0.below x1.below hE0.lt; have hH1 := hH0.below x1.below; have hB1' := hB0.trans (x1.below.mono hB0.size); clear a0 a1 a2 e0 e1 e2 e3 e4 e5; have a0 := hc1.at' 0 rfl; have a1 := hc1.at' 1 rfl; have a2 := hc1.at' 2 rfl)
    | (go_at_call 26; (with_reducible refine (hst _ hH1).mono ?_); rintro _ V1 ⟨A, rfl, hlo, hB1, ws, nn, hM1, hlen, hat⟩; have hws := words_of 1 2 pa0 (by decide) (by decide +kernel) ws hlen hat; subst hws; have hv1 := Rv.begin (t := 1) (s := 2) hE1 hlo hB1 hM1 (by decide); clear a0 a1 a2; have hee := he1.below hv1.bel he1.lt; have e4 := hee.at' 4 rfl)
    | (go_at_call 17; (with_reducible refine (rvStore hv1 _ _).mono ?_); rintro _ V2 ⟨rfl, hv2, -⟩; rw [(pa_set x).1] at hv2; clear hv1 hee e4)
    | (go_at_call 36; obtain ⟨n2, hm2⟩ := hv2.mem; (with_reducible refine (Copy_any hm2).mono ?_); rintro _ _ ⟨A2, rfl, hA2, x3, rfl, hmc⟩; have hv3 := hv2.later x3; have ha2 := Nat.le_trans hv2.hi_le hA2; have hw2 := Nat.le_trans hv2.bel.size hA2; clear hm2 hv2; have gc := hc1.below hv3.bel hc1.lt; have c0 := gc.at' 0 rfl; have c1 := gc.at' 1 rfl; have c2 := gc.at' 2 rfl; clear gc)
    | (go_at_call 34; (with_reducible refine (n1 _).mono ?_); rintro _ V4 ⟨k1, rfl, hk1, hb1, hf1⟩; have hv4 := hv3.below hb1; have hmd := hmc.below hb1 hmc.hs; have hk2 := Nat.le_trans hv3.hi_le hk1; have hk3 := Nat.le_trans hmc.hs hk1; clear hv3 hmc c0 c1 c2)
    | (go_at_call 37; (with_reducible refine (rvpRun 10 10 rfl (by decide) hv4 hk2 (fun p hp => absurd hp (by simp)) hf1 hsts hrun).mono ?_); rintro _ V5 ⟨rfl, hv5, -, hmv⟩; have hme := hmd.moved hmv (fun b h1 h2 => spanS_not (Or.inr (by omega)) (by omega)); have hv6 := hv5.alloc (.cells #[.int .i64 4, .int .i64 0] 41); have hmf := hme.alloc (.cells #[.int .i64 4, .int .i64 0] 41); have hfr : Fs (V5.alloc (.cells #[.int .i64 4, .int .i64 0] 41)) V5.heap.size [.int .i64 4, .int .i64 0] := Fs.new' _ _ rfl rfl; have hkr := hme.hs; have hkw : A2.hi ≤ V5.heap.size + 1 := (by omega); have gee := he1.below hv6.bel he1.lt; have e0 := gee.at' 0 rfl; have e1 := gee.at' 1 rfl; have e2 := gee.at' 2 rfl; have e3 := gee.at' 3 rfl; have e4 := gee.at' 4 rfl; have e5 := gee.at' 5 rfl; have HBB := Lib.hid (show Below (V5.alloc (.cells #[.int .i64 4, .int .i64 0] 41)).heap.size (V5.alloc (.cells #[.int .i64 4, .int .i64 0] 41)) (((V5.alloc (.cells #[.int .i64 4, .int .i64 0] 41)).alloc (.cells #[.int .i64 o, .int .i64 g, .int .i64 p, .int .i64 q, .bool false, .bool false] 34))) from ((Below.refl _ _).alloc (Nat.le_refl _) _)); have HFF := Lib.hid (show Fs (((V5.alloc (.cells #[.int .i64 4, .int .i64 0] 41)).alloc (.cells #[.int .i64 o, .int .i64 g, .int .i64 p, .int .i64 q, .bool false, .bool false] 34))) (V5.heap.size + 1) [.int .i64 o, .int .i64 g, .int .i64 (p), .int .i64 q, .bool false, .bool false] from Fs.new' _ _ (by simp) rfl); clear hv4 hmd hmv hv5 hme)
    | (go_at_call 14; (with_reducible refine (hmk _).mono ?_); rintro _ _ ⟨rfl, rfl⟩)
    | (go_at_call 22; (with_reducible refine (rvLoad (hv6.below HBB.out) 8).mono ?_); rintro _ V8 ⟨rfl, hv8, ht8⟩; rw [(pa_set y).2]; have hmg := hmf.below HBB.out hmf.hs; have hlh : A2.lo ≤ A2.hi := (by have := hmg.lp; have := hmg.up; omega); have hm8 := hmg.touch ht8 (Or.inr ha2); have hr8 := (hfr.below HBB.out hfr.lt).touch ht8 (Or.inr (by omega)); have hw8 := HFF.out.touch ht8 (Or.inr (by omega)); clear e0 e1 e2 e3 e4 e5)
    | (go_at_call 21; (with_reducible refine (hul _).mono ?_); rintro _ _ ⟨rfl, x9, rfl⟩; have hz9 := (hm8.later x9).hs; have hP9 : Pa x1.at' A A2 (paW y) (paW x) (List.replicate (8 : Int).toNat 0) V5.heap.size (V5.heap.size + 1) x9.at'.heap.size [.int .i64 4, .int .i64 0] [.int .i64 o, .int .i64 g, .int .i64 (p), .int .i64 q, .bool false, .bool false] [.int .i64 o, .int .i64 g, .int .i64 (p), .int .i64 q, .bool false, .bool false] (x9.at'.alloc (.cells #[.int .i64 o, .int .i64 g, .int .i64 (p), .int .i64 q, .bool false, .bool false] 34)) := ⟨(hv8.later x9).alloc _, ⟨_, (hm8.later x9).alloc _⟩, (hr8.later x9).alloc _, (hw8.later x9).alloc _, Fs.new' _ _ rfl rfl, ha2, hw2, hkr, hkw, hz9⟩))
  clear hv6 hmf hfr hv8 ht8 hmg hm8 hr8 hw8 hul hz9 hkr hkw hpk hst hmk n1 hrun hsts hf1 hlen hat hM1 hB1 hb1 hk1 hk2 hk3 HBB HFF gee
  generalize x9.at'.alloc (.cells #[.int .i64 o, .int .i64 g, .int .i64 (p), .int .i64 q, .bool false, .bool false] 34) = W9 at hP9 ⊢
  generalize x9.at'.heap.size = kx at hP9 ⊢
  generalize V5.heap.size + 1 = kw at hP9 ⊢
  generalize V5.heap.size = kr at hP9 ⊢
  generalize List.replicate (8 : Int).toNat (0 : Int) = bs at hP9
  go_loopw [21] (fun v wr => PaRel x1.at' A A2 (paW y) (paW x) bs kr kw kx [.int .i64 4, .int .i64 0] [.int .i64 o, .int .i64 g, .int .i64 (p), .int .i64 q, .bool false, .bool false] [.int .i64 o, .int .i64 g, .int .i64 (p), .int .i64 q, .bool false, .bool false] v wr) (fun v _ => 11 - (intOf v).toNat)
  case atStart => exact ⟨0, rfl, by decide, hP9⟩
  case round =>
    obtain ⟨i, rfl, hi, hS⟩ := hrel
    clear hP9
    obtain ⟨nw, hmw⟩ := hS.rv.mem
    have hwd := Words_any hmw
    rw [show ((paW y).length : Int) = 11 from rfl] at hwd
    clear hmw
    by_cases hiN : i < 11
    · have i1 : (i : Int) < 11 := by omega
      by_cases h8 : i = 8
      · subst h8
        clear hiN i1
        go_wp2_with (first
          | (go_at_call 38; (with_reducible refine hwd.mono ?_); rintro _ _ ⟨rfl, rfl⟩))
        go_roundw
        case rel => exact ⟨9, by go_num, by omega, hS⟩
        case measure => simp [intOf]
      · have n8 : ¬ (i : Int) = 8 := by omega
        have n81 : decide ((i : Int) = 8) = false := decide_eq_false n8
        have n82 : ((i : Int) == 8) = false := by simpa using n8
        have n83 : ((i : Int) != 8) = true := by simp [n8]
        have hl1 := hS.load1 i
        rw [pa_other y x i h8 hiN] at hl1
        clear n8 h8
        go_wp2_with (first
          | (go_at_call 38; (with_reducible refine hwd.mono ?_); rintro _ _ ⟨rfl, rfl⟩)
          | (go_at_call 22; (with_reducible refine hl1.mono ?_); rintro _ Y1 ⟨rfl, hS1⟩)
          | (go_at_call 22; (with_reducible refine (hS1.load2 i).mono ?_); rintro _ Y2 ⟨rfl, hS2⟩))
        go_roundw
        case rel => exact ⟨i + 1, by go_num, by omega, hS2⟩
        case measure => simp [intOf]; omega
    · have ei : i = 11 := by omega
      subst ei
      clear hiN hi
      have r0 := hS.fr.at' 0 rfl
      have r1 := hS.fr.at' 1 rfl
      have w0 := hS.fw.at' 0 rfl
      have w1 := hS.fw.at' 1 rfl
      have w2 := hS.fw.at' 2 rfl
      have w3 := hS.fw.at' 3 rfl
      have w4 := hS.fw.at' 4 rfl
      have w5 := hS.fw.at' 5 rfl
      have z0 := hS.fx.at' 0 rfl
      have z1 := hS.fx.at' 1 rfl
      have z2 := hS.fx.at' 2 rfl
      have z3 := hS.fx.at' 3 rfl
      have z4 := hS.fx.at' 4 rfl
      have z5 := hS.fx.at' 5 rfl
      skip
      skip
      go_wp2_with (first
        | (go_at_call 38; (with_reducible refine hwd.mono ?_); rintro _ _ ⟨rfl, rfl⟩)
        | (go_at_call 25; (with_reducible refine (hlv _ (hH1.below hS.rv.bel) (hE1.below hS.rv.bel hE1.lt)).mono ?_); rintro _ _ ⟨rfl, x5, rfl⟩))
      go_ret
      exact Ret.mk rfl (hB1'.trans ((x5.cat hS.rv.bel hS.rv.bel.size).mono hB1'.size))
set_option maxHeartbeats 16000000 in
set_option maxRecDepth 8000 in
theorem palone_w3 {o g p q h : Int} {w : World} {y : Int} {j : Nat} (hm : En.may ⟨o, g, p, q, false, true⟩ = true) (hO : PaOut o g p q true false h 4 j y (p)) (hne : ¬ h = mkV 1 g) (hH : HasHead w) (hE : HasFields w) :
    Calls Tryd.prog 8 #[.agg #[.int .i64 o, .int .i64 g, .int .i64 p, .int .i64 q, .bool false, .bool true], .int .i64 h, .bool false] w (Ret w (.bool true)) := by
  have hB0 : Below w.heap.size w ((w.alloc (.cells #[.int .i64 o, .int .i64 g, .int .i64 p, .int .i64 q, .bool false, .bool true] 34)).alloc (.cells #[.int .i64 8, .int .i64 2, .int .i64 1] 26)) := ((Below.refl _ _).alloc (Nat.le_refl _) _).alloc (by simp) _
  have he0 : Fs ((w.alloc (.cells #[.int .i64 o, .int .i64 g, .int .i64 p, .int .i64 q, .bool false, .bool true] 34)).alloc (.cells #[.int .i64 8, .int .i64 2, .int .i64 1] 26)) w.heap.size [.int .i64 o, .int .i64 g, .int .i64 p, .int .i64 q, .bool false, .bool true] := (Fs.new' _ _ rfl rfl).alloc _
  have hc0 : Fs ((w.alloc (.cells #[.int .i64 o, .int .i64 g, .int .i64 p, .int .i64 q, .bool false, .bool true] 34)).alloc (.cells #[.int .i64 8, .int .i64 2, .int .i64 1] 26)) (w.heap.size + 1) [.int .i64 8, .int .i64 2, .int .i64 1] := Fs.new' _ _ (by simp) rfl
  have hE0 : HasFields ((w.alloc (.cells #[.int .i64 o, .int .i64 g, .int .i64 p, .int .i64 q, .bool false, .bool true] 34)).alloc (.cells #[.int .i64 8, .int .i64 2, .int .i64 1] 26)) := (hE.alloc _).alloc _
  have hH0 : HasHead ((w.alloc (.cells #[.int .i64 o, .int .i64 g, .int .i64 p, .int .i64 q, .bool false, .bool true] 34)).alloc (.cells #[.int .i64 8, .int .i64 2, .int .i64 1] 26)) := (hH.alloc _).alloc _
  have hpk := fun W => refPack_any o g p q false true W
  rw [packE_ok hm] at hpk
  have hst := fun (W : World) hF => start14_yes 8 2 1 (by decide) W hF
  have hlv := fun W => plive_any W
  go_enter Tryd.func8, Tryd.ntmps8
  go_upto_region 2 with fail
  generalize (w.alloc (.cells #[.int .i64 o, .int .i64 g, .int .i64 p, .int .i64 q, .bool false, .bool true] 34)).alloc (.cells #[.int .i64 8, .int .i64 2, .int .i64 1] 26) = Wa at *
  generalize w.heap.size + 1 = cb at hc0 ⊢
  have a0 := hc0.at' 0 rfl
  have a1 := hc0.at' 1 rfl
  have a2 := hc0.at' 2 rfl
  have e0 := he0.at' 0 rfl
  have e1 := he0.at' 1 rfl
  have e2 := he0.at' 2 rfl
  have e3 := he0.at' 3 rfl
  have e4 := he0.at' 4 rfl
  have e5 := he0.at' 5 rfl
  obtain ⟨⟨M, hrun⟩, hup, hue, hj⟩ := hO
  have hmk := fun W => Make_same 1 g W
  have n1 := fun W => one_yes 8 2 1 h false (by decide) W
  have hsts := pm_new_st h 2 false
  have hul := refUnpack_any y
  rw [hup, hue] at hul
  unfold RU En.val at hul
  simp only at hul
  have hpk2 : ∀ W : World, Calls Tryd.prog 15 #[.agg #[.int .i64 o, .int .i64 g, .int .i64 p, .int .i64 q, .bool false, .bool true]] W (Ret W (.tuple #[.int .i64 (packV ⟨o, g, p, q, false, true⟩), .int .i64 0])) := hpk
  clear hpk
  have hpk := hpk2
  clear hpk2 hup hue
  generalize packV ⟨o, g, p, q, false, true⟩ = x at hpk hrun
  generalize mkE 1 g = mke at hmk
  skip
  have h1 : decide (h = mkV 1 g) = false := decide_eq_false hne
  have h2 : (h == mkV 1 g) = false := by simpa using hne
  have h3 : (h != mkV 1 g) = true := by simp [hne]
  clear hne
  generalize mkV 1 g = own at *
  skip
  skip
  skip
  have HJ := Lib.hid hj
  clear hj hm
  go_wp2_with (first
    | (go_at_call 15; (with_reducible refine (hpk _).mono ?_); rintro _ _ ⟨rfl, x1, rfl⟩; have hc1 := hc0.later x1; have he1 := he0.later x1; have hE1 := hE0.below x1.below hE0.lt; have hH1 := hH0.below x1.below; have hB1' := hB0.trans (x1.below.mono hB0.size); clear a0 a1 a2 e0 e1 e2 e3 e4 e5; have a0 := hc1.at' 0 rfl; have a1 := hc1.at' 1 rfl; have a2 := hc1.at' 2 rfl)
    | (go_at_call 26; (with_reducible refine (hst _ hH1).mono ?_); rintro _ V1 ⟨A, rfl, hlo, hB1, ws, nn, hM1, hlen, hat⟩; have hws := words_of 1 2 pa0 (by decide) (by decide +kernel) ws hlen hat; subst hws; have hv1 := Rv.begin (t := 1) (s := 2) hE1 hlo hB1 hM1 (by decide); clear a0 a1 a2; have hee := he1.below hv1.bel he1.lt; have e4 := hee.at' 4 rfl)
    | (go_at_call 17; (with_reducible refine (rvStore hv1 _ _).mono ?_); rintro _ V2 ⟨rfl, hv2, -⟩; rw [(pa_set x).1] at hv2; clear hv1 hee e4)
    | (go_at_call 36; obtain ⟨n2, hm2⟩ := hv2.mem; (with_reducible refine (Copy_any hm2).mono ?_); rintro _ _ ⟨A2, rfl, hA2, x3, rfl, hmc⟩; have hv3 := hv2.later x3; have ha2 := Nat.le_trans hv2.hi_le hA2; have hw2 := Nat.le_trans hv2.bel.size hA2; clear hm2 hv2; have gc := hc1.below hv3.bel hc1.lt; have c0 := gc.at' 0 rfl; have c1 := gc.at' 1 rfl; have c2 := gc.at' 2 rfl; clear gc)
    | (go_at_call 34; (with_reducible refine (n1 _).mono ?_); rintro _ V4 ⟨k1, rfl, hk1, hb1, hf1⟩; have hv4 := hv3.below hb1; have hmd := hmc.below hb1 hmc.hs; have hk2 := Nat.le_trans hv3.hi_le hk1; have hk3 := Nat.le_trans hmc.hs hk1; clear hv3 hmc c0 c1 c2)
    | (go_at_call 37; (with_reducible refine (rvpRun 10 10 rfl (by decide) hv4 hk2 (fun p hp => absurd hp (by simp)) hf1 hsts hrun).mono ?_); rintro _ V5 ⟨rfl, hv5, -, hmv⟩; have hme := hmd.moved hmv (fun b h1 h2 => spanS_not (Or.inr (by omega)) (by omega)); have hv6 := hv5.alloc (.cells #[.int .i64 4, .int .i64 0] 41); have hmf := hme.alloc (.cells #[.int .i64 4, .int .i64 0] 41); have hfr : Fs (V5.alloc (.cells #[.int .i64 4, .int .i64 0] 41)) V5.heap.size [.int .i64 4, .int .i64 0] := Fs.new' _ _ rfl rfl; have hkr := hme.hs; have hkw : A2.hi ≤ V5.heap.size + 1 := (by omega); have gee := he1.below hv6.bel he1.lt; have e0 := gee.at' 0 rfl; have e1 := gee.at' 1 rfl; have e2 := gee.at' 2 rfl; have e3 := gee.at' 3 rfl; have e4 := gee.at' 4 rfl; have e5 := gee.at' 5 rfl; have HBB := Lib.hid (show Below (V5.alloc (.cells #[.int .i64 4, .int .i64 0] 41)).heap.size (V5.alloc (.cells #[.int .i64 4, .int .i64 0] 41)) (((V5.alloc (.cells #[.int .i64 4, .int .i64 0] 41)).alloc (.cells #[.int .i64 o, .int .i64 g, .int .i64 p, .int .i64 q, .bool false, .bool true] 34))) from ((Below.refl _ _).alloc (Nat.le_refl _) _)); have HFF := Lib.hid (show Fs (((V5.alloc (.cells #[.int .i64 4, .int .i64 0] 41)).alloc (.cells #[.int .i64 o, .int .i64 g, .int .i64 p, .int .i64 q, .bool false, .bool true] 34))) (V5.heap.size + 1) [.int .i64 o, .int .i64 g, .int .i64 (p), .int .i64 q, .bool false, .bool true] from Fs.new' _ _ (by simp) rfl); clear hv4 hmd hmv hv5 hme)
    | (go_at_call 14; (with_reducible refine (hmk _).mono ?_); rintro _ _ ⟨rfl, rfl⟩)
    | (go_at_call 22; (with_reducible refine (rvLoad (hv6.below HBB.out) 8).mono ?_); rintro _ V8 ⟨rfl, hv8, ht8⟩; rw [(pa_set y).2]; have hmg := hmf.below HBB.out hmf.hs; have hlh : A2.lo ≤ A2.hi := (by have := hmg.lp; have := hmg.up; omega); have hm8 := hmg.touch ht8 (Or.inr ha2); have hr8 := (hfr.below HBB.out hfr.lt).touch ht8 (Or.inr (by omega)); have hw8 := HFF.out.touch ht8 (Or.inr (by omega)); clear e0 e1 e2 e3 e4 e5)
    | (go_at_call 21; (with_reducible refine (hul _).mono ?_); rintro _ _ ⟨rfl, x9, rfl⟩; have hz9 := (hm8.later x9).hs; have hP9 : Pa x1.at' A A2 (paW y) (paW x) (List.replicate (8 : Int).toNat 0) V5.heap.size (V5.heap.size + 1) x9.at'.heap.size [.int .i64 4, .int .i64 0] [.int .i64 o, .int .i64 g, .int .i64 (p), .int .i64 q, .bool false, .bool true] [.int .i64 o, .int .i64 g, .int .i64 (p), .int .i64 q, .bool false, .bool true] (x9.at'.alloc (.cells #[.int .i64 o, .int .i64 g, .int .i64 (p), .int .i64 q, .bool false, .bool true] 34)) := ⟨(hv8.later x9).alloc _, ⟨_, (hm8.later x9).alloc _⟩, (hr8.later x9).alloc _, (hw8.later x9).alloc _, Fs.new' _ _ rfl rfl, ha2, hw2, hkr, hkw, hz9⟩))
  clear hv6 hmf hfr hv8 ht8 hmg hm8 hr8 hw8 hul hz9 hkr hkw hpk hst hmk n1 hrun hsts hf1 hlen hat hM1 hB1 hb1 hk1 hk2 hk3 HBB HFF gee
  generalize x9.at'.alloc (.cells #[.int .i64 o, .int .i64 g, .int .i64 (p), .int .i64 q, .bool false, .bool true] 34) = W9 at hP9 ⊢
  generalize x9.at'.heap.size = kx at hP9 ⊢
  generalize V5.heap.size + 1 = kw at hP9 ⊢
  generalize V5.heap.size = kr at hP9 ⊢
  generalize List.replicate (8 : Int).toNat (0 : Int) = bs at hP9
  go_loopw [21] (fun v wr => PaRel x1.at' A A2 (paW y) (paW x) bs kr kw kx [.int .i64 4, .int .i64 0] [.int .i64 o, .int .i64 g, .int .i64 (p), .int .i64 q, .bool false, .bool true] [.int .i64 o, .int .i64 g, .int .i64 (p), .int .i64 q, .bool false, .bool true] v wr) (fun v _ => 11 - (intOf v).toNat)
  case atStart => exact ⟨0, rfl, by decide, hP9⟩
  case round =>
    obtain ⟨i, rfl, hi, hS⟩ := hrel
    clear hP9
    obtain ⟨nw, hmw⟩ := hS.rv.mem
    have hwd := Words_any hmw
    rw [show ((paW y).length : Int) = 11 from rfl] at hwd
    clear hmw
    by_cases hiN : i < 11
    · have i1 : (i : Int) < 11 := by omega
      by_cases h8 : i = 8
      · subst h8
        clear hiN i1
        go_wp2_with (first
          | (go_at_call 38; (with_reducible refine hwd.mono ?_); rintro _ _ ⟨rfl, rfl⟩))
        go_roundw
        case rel => exact ⟨9, by go_num, by omega, hS⟩
        case measure => simp [intOf]
      · have n8 : ¬ (i : Int) = 8 := by omega
        have n81 : decide ((i : Int) = 8) = false := decide_eq_false n8
        have n82 : ((i : Int) == 8) = false := by simpa using n8
        have n83 : ((i : Int) != 8) = true := by simp [n8]
        have hl1 := hS.load1 i
        rw [pa_other y x i h8 hiN] at hl1
        clear n8 h8
        go_wp2_with (first
          | (go_at_call 38; (with_reducible refine hwd.mono ?_); rintro _ _ ⟨rfl, rfl⟩)
          | (go_at_call 22; (with_reducible refine hl1.mono ?_); rintro _ Y1 ⟨rfl, hS1⟩)
          | (go_at_call 22; (with_reducible refine (hS1.load2 i).mono ?_); rintro _ Y2 ⟨rfl, hS2⟩))
        go_roundw
        case rel => exact ⟨i + 1, by go_num, by omega, hS2⟩
        case measure => simp [intOf]; omega
    · have ei : i = 11 := by omega
      subst ei
      clear hiN hi
      have r0 := hS.fr.at' 0 rfl
      have r1 := hS.fr.at' 1 rfl
      have w0 := hS.fw.at' 0 rfl
      have w1 := hS.fw.at' 1 rfl
      have w2 := hS.fw.at' 2 rfl
      have w3 := hS.fw.at' 3 rfl
      have w4 := hS.fw.at' 4 rfl
      have w5 := hS.fw.at' 5 rfl
      have z0 := hS.fx.at' 0 rfl
      have z1 := hS.fx.at' 1 rfl
      have z2 := hS.fx.at' 2 rfl
      have z3 := hS.fx.at' 3 rfl
      have z4 := hS.fx.at' 4 rfl
      have z5 := hS.fx.at' 5 rfl
      skip
      skip
      go_wp2_with (first
        | (go_at_call 38; (with_reducible refine hwd.mono ?_); rintro _ _ ⟨rfl, rfl⟩)
        | (go_at_call 25; (with_reducible refine (hlv _ (hH1.below hS.rv.bel) (hE1.below hS.rv.bel hE1.lt)).mono ?_); rintro _ _ ⟨rfl, x5, rfl⟩))
      go_ret
      exact Ret.mk rfl (hB1'.trans ((x5.cat hS.rv.bel hS.rv.bel.size).mono hB1'.size))
end Go.Proofs.YtnojemmpgaibkaaDoor
