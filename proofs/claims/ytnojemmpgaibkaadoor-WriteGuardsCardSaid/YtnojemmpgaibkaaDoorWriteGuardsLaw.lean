/-
  The walk of WriteGuards.
  Conditions: none but that the tables read as they are laid; that the picks lie as they came.
-/
import Derived.Test.YtnojemmpgaibkaaDoorWgMem
import Derived.Test.YtnojemmpgaibkaaDoorWgArg
import Derived.Test.YtnojemmpgaibkaaDoorRefUnpack
import Derived.Deep.RegionHeld3
import Derived.Deep.CutRange
import Derived.BigQuiet
namespace Go.Proofs.YtnojemmpgaibkaaDoor
open Go.RowKit
attribute [local go_sem] Later.cell Later.frozen Later.lt Later.le
set_option linter.unusedVariables false
set_option linter.unusedSimpArgs false

theorem apUn {p : Prop} (h : Hid p) : p := h.out
/-- The rounds' relation. -/
def WgRel (W0 : World) (A : PAt) (f0 f1 G : Int) (rb k0 k1 : Nat) (len : Nat) (v : Value) (wr : World) : Prop := ∃ (i : Nat) (M0 M1 : Wm) (bs : List Int), v = .int .i64 i ∧ i ≤ len ∧ Wg W0 A f0 f1 G rb k0 k1 M0 M1 bs wr
/-- What a round is left with, behind its step. -/
theorem wg_round {W0 W : World} {A : PAt} {f0 f1 G : Int} {rb k0 k1 : Nat} {M0 M1 : Wm} {bs : List Int} (h : Wg W0 A f0 f1 G rb k0 k1 M0 M1 bs W) (g0 : 0 ≤ G) (g1 : G ≤ 13) {a b : Bool} (ha : wmG M0 = a) (hb : wmG M1 = b) :
    atI (wgW (G + gI M0 + gI M1)) 6 = wE (G + (if a then 1 else 0) + (if b then 1 else 0)) ∧ RU (wE (G + (if a then 1 else 0) + (if b then 1 else 0))) (.agg #[.int .i64 0, .int .i64 0, .int .i64 0, .int .i64 (G + (if a then 1 else 0) + (if b then 1 else 0)), .bool false, .bool true]) 0 := by
  obtain ⟨h1, h2, h3⟩ := h.entry g0 g1
  have hu := refUnpack_any (wE (G + gI M0 + gI M1))
  rw [h2, h3] at hu
  rw [gI_wmG, gI_wmG, ha, hb] at h1 hu
  rw [gI_wmG, gI_wmG, ha, hb]
  exact ⟨h1, hu⟩
set_option maxHeartbeats 32000000 in
set_option maxRecDepth 8000 in
theorem wguards_yes {p : Option Addr} {l : List Int} {cap : Nat} {f0 f1 G : Int} {w : World} (hl : ¬ 100 < l.length) (g0 : 0 ≤ G) (g1 : G ≤ 13) (hP : NumP w p l) (hH : HasHead w) (hE : HasFields w) :
    Calls Tryd.prog 3 #[.agg #[.slice p l.length cap, .int .i64 f0, .int .i64 f1, .int .i64 G]] w (Ret w (.bool true)) := by
  have hl1 : ¬ (100 : Int) < l.length := by omega
  have hg13 : ¬ 13 < G := by omega
  have hB0 : Below w.heap.size w (w.alloc (.cells #[.slice p l.length cap, .int .i64 f0, .int .i64 f1, .int .i64 G] 24)) := (Below.refl _ _).alloc (Nat.le_refl _) _
  have hb0 : Fs (w.alloc (.cells #[.slice p l.length cap, .int .i64 f0, .int .i64 f1, .int .i64 G] 24)) w.heap.size [.slice p l.length cap, .int .i64 f0, .int .i64 f1, .int .i64 G] := Fs.new' _ _ rfl rfl
  have hE0 : HasFields (w.alloc (.cells #[.slice p l.length cap, .int .i64 f0, .int .i64 f1, .int .i64 G] 24)) := hE.alloc _
  have hH0 : HasHead (w.alloc (.cells #[.slice p l.length cap, .int .i64 f0, .int .i64 f1, .int .i64 G] 24)) := hH.alloc _
  have hst := fun (W : World) hF => start_yes 8 1 2 (by decide) W hF
  have hmk := fun W => Make_same 0 0 W
  rw [show mkV 0 0 = 1099511627776 from by decide +kernel, show mkE 0 0 = 0 from by decide +kernel] at hmk
  have hpk := fun W => refPack_any 0 0 0 G false true W
  rw [packE_ok (wE_may g0 (by omega)), packV_ok (wE_may g0 (by omega)), wE_word] at hpk
  have hlv := fun W => wlive_any W
  go_enter Tryd.func3, Tryd.ntmps3
  go_wp2_with fail
  have b0 := hb0.at' 0 rfl
  have b1 := hb0.at' 1 rfl
  have b2 := hb0.at' 2 rfl
  have b3 := hb0.at' 3 rfl
  have hlt0 := hb0.lt
  generalize w.alloc (.cells #[.slice p l.length cap, .int .i64 f0, .int .i64 f1, .int .i64 G] 24) = Wa at *
  generalize w.heap.size = bb at b0 b1 b2 b3 hlt0 ⊢
  refine wp_region_later (by kernel_rfl) (by kernel_rfl) ?_
  repeat (go_big_quiet_step (fail))
  refine wpQuiet_nil ?_
  rintro _ ⟨x0, rfl⟩
  have hB1 := hB0.trans (x0.below.mono hB0.size)
  have hE1 := hE0.below x0.below hE0.lt
  have hH1 := hH0.below x0.below
  clear b0 b1 b2 b3 hlt0 hb0 hB0 hE0 hH0
  generalize x0.at' = Wb at *
  have hB2 := hB1.alloc hB1.size (.cells #[.int .i64 8, .int .i64 1, .int .i64 2] 26)
  have hc2 : Fs (Wb.alloc (.cells #[.int .i64 8, .int .i64 1, .int .i64 2] 26)) Wb.heap.size [.int .i64 8, .int .i64 1, .int .i64 2] := Fs.new' _ _ rfl rfl
  have hE2 := hE1.alloc (.cells #[.int .i64 8, .int .i64 1, .int .i64 2] 26)
  have hH2 := hH1.alloc (.cells #[.int .i64 8, .int .i64 1, .int .i64 2] 26)
  clear hB1 hE1 hH1
  have HG := Lib.hid (And.intro g0 g1)
  have n1 := fun W => wnew_yes 8 1 2 1099511627776 f0 1 (by decide) W
  have n2 := fun W => wnew_yes 8 1 2 1099511627776 f1 2 (by decide) W
  rw [wg_new] at n1 n2
  go_wp2_with (first
    | (go_at_call 13; (with_reducible refine (hst _ hH2).mono ?_); rintro _ V1 ⟨A, rfl, hlo, hB3, ws, nn, hM1, hlen, hat⟩; have hws := words_of 2 1 wg0 (by decide) (by decide +kernel) ws hlen hat; subst hws; have hv1 := Rv.begin (t := 2) (s := 1) hE2 hlo hB3 hM1 (by decide))
    | (go_at_call 14; (with_reducible refine (hmk _).mono ?_); rintro _ _ ⟨rfl, rfl⟩)
    | (go_at_call 15; (with_reducible refine (hpk _).mono ?_); rintro _ _ ⟨rfl, x2, rfl⟩; have hv2 := hv1.later x2)
    | (go_at_call 17; (with_reducible refine (rvStore hv2 _ _).mono ?_); rintro _ V2 ⟨rfl, hv3, -⟩; clear hv2)
    | (go_at_call 17; (with_reducible refine (rvStore hv3 _ _).mono ?_); rintro _ V3 ⟨rfl, hv4, -⟩; rw [wg_set] at hv4; clear hv3))
  clear hst hmk hpk hlen hat hB3 hv1 hM1
  have kC : ∀ W', Below V3.heap.size V3 W' → W'.cell? ⟨Wb.heap.size, 0, none⟩ = some (.int .i64 8) ∧ W'.cell? ⟨Wb.heap.size, 1, none⟩ = some (.int .i64 1) ∧ W'.cell? ⟨Wb.heap.size, 2, none⟩ = some (.int .i64 2) ∧ Below V3.heap.size V3 W' := fun W' hb => by
    have h := (hc2.below hv4.bel hc2.lt).below hb (hc2.below hv4.bel hc2.lt).lt
    exact ⟨h.at' 0 rfl, h.at' 1 rfl, h.at' 2 rfl, hb⟩
  have HKC := Lib.hid kC
  clear kC
  have HC2 := Lib.hid hc2
  have mk0 := trivial
  have mk1 := trivial
  go_region_held3 (fun w' => w'.cell? ⟨Wb.heap.size, 0, none⟩ = some (.int .i64 8) ∧ w'.cell? ⟨Wb.heap.size, 1, none⟩ = some (.int .i64 1) ∧ w'.cell? ⟨Wb.heap.size, 2, none⟩ = some (.int .i64 2) ∧ Below V3.heap.size V3 w') (first
    | with_reducible exact HKC.out _ (Below.refl _ _)
    | with_reducible exact HKC.out _ (Below.refl _ _).drew
    | with_reducible assumption
    | with_reducible exact HKC.out _ (by assumption)
    | with_reducible exact HKC.out _ (hBb1.alloc hBb1.size _)) (first
    | (go_at_call 18; clear mk0; (with_reducible refine (n1 _).mono ?_); rintro _ U0 ⟨k0, rfl, hk0, hbk0, hf0⟩; have hBb0 : Below V3.heap.size V3 U0 := (Below.refl V3.heap.size V3).drew.trans hbk0)
    | (go_at_call 18; clear mk1; (with_reducible refine (n2 _).mono ?_); rintro _ U1 ⟨k1, rfl, hk1, hbk1, hf1⟩; have hBb1 : Below V3.heap.size V3 U1 := hBb0.trans (hbk1.mono hBb0.size)))
  rename_i hHeld
  clear hHeld HKC n1 n2
  have hS0 : Wg (Wb.alloc (.cells #[.int .i64 8, .int .i64 1, .int .i64 2] 26)) A f0 f1 G U1.heap.size k0 k1 ⟨true, 0, 0, f0, 1, 1, 0, 0, 0⟩ ⟨true, 0, 0, f1, 2, 1, 0, 0, 0⟩ (List.replicate (8 : Int).toNat 0) (U1.alloc (.cells #[.pointer (some ⟨k0, 0, none⟩), .pointer (some ⟨k1, 0, none⟩)] 37)) := by
    have y0 := hbk0.size
    have y1 := hbk1.size
    rw [World.size_drew] at y0 hk0
    have l0 := hf0.lt
    have l1 := hf1.lt
    have hh := hv4.hi_le
    have e0 : gI (⟨true, 0, 0, f0, 1, 1, 0, 0, 0⟩ : Wm) = 0 := rfl
    have e1 : gI (⟨true, 0, 0, f1, 2, 1, 0, 0, 0⟩ : Wm) = 0 := rfl
    have hr := (hv4.below hBb1).push #[.pointer (some ⟨k0, 0, none⟩), .pointer (some ⟨k1, 0, none⟩)] 37
    exact {
      rv := by rw [e0, e1, Int.add_zero, Int.add_zero]; exact hr
      m0 := (hf0.below hbk1 l0).alloc _
      m1 := hf1.alloc _
      h0 := by omega
      h1 := by omega
      ne := by omega
      r0 := by omega
      r1 := by omega
      i0 := wi_new f0 1 f1 rfl
      i1 := wi_new f1 2 f0 rfl }
  clear hBb0 hBb1 hbk0 hbk1 hf0 hf1 hv4 hk0 hk1
  generalize U1.alloc (.cells #[.pointer (some ⟨k0, 0, none⟩), .pointer (some ⟨k1, 0, none⟩)] 37) = U2 at hS0 ⊢
  generalize U1.heap.size = rb at hS0 ⊢
  generalize List.replicate (8 : Int).toNat (0 : Int) = bs at hS0
  generalize Wb.alloc (.cells #[.int .i64 8, .int .i64 1, .int .i64 2] 26) = W0 at *
  clear hc2 HC2 hlo
  go_wp2_with fail
  go_loopw [14] (fun v wr => WgRel W0 A f0 f1 G rb k0 k1 l.length v wr) (fun v _ => l.length - (intOf v).toNat)
  case atStart => exact ⟨0, _, _, _, rfl, Nat.zero_le _, hS0⟩
  case round =>
    clear hS0
    obtain ⟨i, M0, M1, bs, rfl, hi, hS⟩ := hrel
    by_cases hil : i < l.length
    · have hil2 : (i : Int) < l.length := by omega
      have hP' := hP
      obtain ⟨b, off, rfl, hbs, hpk⟩ := hP' (by intro e; rw [e] at hil; simp at hil)
      have f0' := hpk i hil
      generalize l.getD i 0 = pick at f0'
      have HKS := Lib.hid (show ∀ W, Below w.heap.size w W → W.cell? ⟨b, off + i, none⟩ = some (.int .i64 pick) from fun W hb => (hb.cell (p := ⟨b, off + i, none⟩) hbs).trans f0')
      have hbw := hB2.trans (hS.rv.bel.mono hB2.size)
      have k9 := HKS.out _ hbw
      have hl100 : (i : Int) < 100 := by omega
      clear hpk f0' hl
      by_cases hneg : pick.tmod 2 < 0
      · clear hi hP
        go_wp2_with (first
          | (go_at_call 16; (with_reducible refine (hlv _ (hH2.below hS.rv.bel) (hE2.below hS.rv.bel hE2.lt)).mono ?_); rintro _ _ ⟨rfl, x, rfl⟩))
        go_ret
        exact Ret.mk rfl (hB2.trans ((x.cat hS.rv.bel hS.rv.bel.size).mono hB2.size))
      · obtain ⟨N, hN⟩ := Int.eq_ofNat_of_zero_le (show 0 ≤ pick.tmod 2 by omega)
        have hN2 : N = 0 ∨ N = 1 := by have := Int.tmod_lt_of_pos pick (show (0 : Int) < 2 by decide); omega
        clear hneg hP
        have hrow := hS.row
        obtain ⟨r0, r1⟩ := hrow
        rcases hN2 with rfl | rfl
        · have hs := hS.step0 HG.out.1 HG.out.2
          unfold ifc at hs
          go_wp2_with (first
            | (go_at_call 19; (with_reducible refine hs.mono ?_); rintro _ W2 ⟨c, d, M', bs2, rfl, hS2⟩; refine apUn ?_))
          refine Lib.hid ?_
          clear r0 r1 k9 hs hS
          have hrow2 := hS2.row
          obtain ⟨r0, r1⟩ := hrow2
          cases ha : wmG M'
          · cases hb : wmG M1
            · have hR := wg_round hS2 HG.out.1 HG.out.2 ha hb
              simp only [if_true, Bool.false_eq_true, if_false, Int.add_zero] at hR
              obtain ⟨hR1, hR2⟩ := hR
              unfold RU at hR2
              have hga := wguards_any hS2.m0
              have hgb := wguards_any hS2.m1
              rw [ha] at hga
              rw [hb] at hgb
              have HGD := Lib.hid (show 0 ≤ G ∧ G ≤ 13 from HG.out)
              have gA := HGD.out.1
              have gB := HGD.out.2
              go_wp2_with fail
              refine wp_loop_rounds 3 ?_
              rw [rounds_succ]
              go_wp2_with (first
                | (go_at_call 20; (with_reducible refine hga.mono ?_); rintro _ _ ⟨rfl, rfl⟩))
              rw [rounds_succ]
              go_wp2_with (first
                | (go_at_call 20; (with_reducible refine hgb.mono ?_); rintro _ _ ⟨rfl, rfl⟩))
              rw [rounds_succ]
              go_wp2_with (first
                | (go_at_call 22; (with_reducible refine (rvLoad hS2.rv 6).mono ?_); rintro _ W3 ⟨rfl, hr3, ht3⟩; have hS3 := hS2.touch hr3 ht3; rw [hR1])
                | (go_at_call 21; (with_reducible refine (hR2 _).mono ?_); rintro _ _ ⟨rfl, x6, rfl⟩; have hS4 := (hS3.below x6.below).below ((Below.refl _ _).alloc (Nat.le_refl _) (.cells #[.int .i64 0, .int .i64 0, .int .i64 0, .int .i64 (G), .bool false, .bool true] 34))))
              go_roundw
              case rel => exact ⟨i + 1, _, _, _, by go_num, by omega, hS4⟩
              case measure => simp [intOf]; omega
            · have hR := wg_round hS2 HG.out.1 HG.out.2 ha hb
              simp only [if_true, Bool.false_eq_true, if_false, Int.add_zero] at hR
              obtain ⟨hR1, hR2⟩ := hR
              unfold RU at hR2
              have hga := wguards_any hS2.m0
              have hgb := wguards_any hS2.m1
              rw [ha] at hga
              rw [hb] at hgb
              have HGD := Lib.hid (show 0 ≤ G ∧ G ≤ 13 from HG.out)
              have gA := HGD.out.1
              have gB := HGD.out.2
              go_wp2_with fail
              refine wp_loop_rounds 3 ?_
              rw [rounds_succ]
              go_wp2_with (first
                | (go_at_call 20; (with_reducible refine hga.mono ?_); rintro _ _ ⟨rfl, rfl⟩))
              rw [rounds_succ]
              go_wp2_with (first
                | (go_at_call 20; (with_reducible refine hgb.mono ?_); rintro _ _ ⟨rfl, rfl⟩))
              rw [rounds_succ]
              go_wp2_with (first
                | (go_at_call 22; (with_reducible refine (rvLoad hS2.rv 6).mono ?_); rintro _ W3 ⟨rfl, hr3, ht3⟩; have hS3 := hS2.touch hr3 ht3; rw [hR1])
                | (go_at_call 21; (with_reducible refine (hR2 _).mono ?_); rintro _ _ ⟨rfl, x6, rfl⟩; have hS4 := (hS3.below x6.below).below ((Below.refl _ _).alloc (Nat.le_refl _) (.cells #[.int .i64 0, .int .i64 0, .int .i64 0, .int .i64 (G + 1), .bool false, .bool true] 34))))
              go_roundw
              case rel => exact ⟨i + 1, _, _, _, by go_num, by omega, hS4⟩
              case measure => simp [intOf]; omega
          · cases hb : wmG M1
            · have hR := wg_round hS2 HG.out.1 HG.out.2 ha hb
              simp only [if_true, Bool.false_eq_true, if_false, Int.add_zero] at hR
              obtain ⟨hR1, hR2⟩ := hR
              unfold RU at hR2
              have hga := wguards_any hS2.m0
              have hgb := wguards_any hS2.m1
              rw [ha] at hga
              rw [hb] at hgb
              have HGD := Lib.hid (show 0 ≤ G ∧ G ≤ 13 from HG.out)
              have gA := HGD.out.1
              have gB := HGD.out.2
              go_wp2_with fail
              refine wp_loop_rounds 3 ?_
              rw [rounds_succ]
              go_wp2_with (first
                | (go_at_call 20; (with_reducible refine hga.mono ?_); rintro _ _ ⟨rfl, rfl⟩))
              rw [rounds_succ]
              go_wp2_with (first
                | (go_at_call 20; (with_reducible refine hgb.mono ?_); rintro _ _ ⟨rfl, rfl⟩))
              rw [rounds_succ]
              go_wp2_with (first
                | (go_at_call 22; (with_reducible refine (rvLoad hS2.rv 6).mono ?_); rintro _ W3 ⟨rfl, hr3, ht3⟩; have hS3 := hS2.touch hr3 ht3; rw [hR1])
                | (go_at_call 21; (with_reducible refine (hR2 _).mono ?_); rintro _ _ ⟨rfl, x6, rfl⟩; have hS4 := (hS3.below x6.below).below ((Below.refl _ _).alloc (Nat.le_refl _) (.cells #[.int .i64 0, .int .i64 0, .int .i64 0, .int .i64 (G + 1), .bool false, .bool true] 34))))
              go_roundw
              case rel => exact ⟨i + 1, _, _, _, by go_num, by omega, hS4⟩
              case measure => simp [intOf]; omega
            · have hR := wg_round hS2 HG.out.1 HG.out.2 ha hb
              simp only [if_true, Bool.false_eq_true, if_false, Int.add_zero] at hR
              obtain ⟨hR1, hR2⟩ := hR
              unfold RU at hR2
              have hga := wguards_any hS2.m0
              have hgb := wguards_any hS2.m1
              rw [ha] at hga
              rw [hb] at hgb
              have HGD := Lib.hid (show 0 ≤ G ∧ G ≤ 13 from HG.out)
              have gA := HGD.out.1
              have gB := HGD.out.2
              go_wp2_with fail
              refine wp_loop_rounds 3 ?_
              rw [rounds_succ]
              go_wp2_with (first
                | (go_at_call 20; (with_reducible refine hga.mono ?_); rintro _ _ ⟨rfl, rfl⟩))
              rw [rounds_succ]
              go_wp2_with (first
                | (go_at_call 20; (with_reducible refine hgb.mono ?_); rintro _ _ ⟨rfl, rfl⟩))
              rw [rounds_succ]
              go_wp2_with (first
                | (go_at_call 22; (with_reducible refine (rvLoad hS2.rv 6).mono ?_); rintro _ W3 ⟨rfl, hr3, ht3⟩; have hS3 := hS2.touch hr3 ht3; rw [hR1])
                | (go_at_call 21; (with_reducible refine (hR2 _).mono ?_); rintro _ _ ⟨rfl, x6, rfl⟩; have hS4 := (hS3.below x6.below).below ((Below.refl _ _).alloc (Nat.le_refl _) (.cells #[.int .i64 0, .int .i64 0, .int .i64 0, .int .i64 (G + 1 + 1), .bool false, .bool true] 34))))
              go_roundw
              case rel => exact ⟨i + 1, _, _, _, by go_num, by omega, hS4⟩
              case measure => simp [intOf]; omega
        · have hs := hS.step1 HG.out.1 HG.out.2
          unfold ifc at hs
          go_wp2_with (first
            | (go_at_call 19; (with_reducible refine hs.mono ?_); rintro _ W2 ⟨c, d, M', bs2, rfl, hS2⟩; refine apUn ?_))
          refine Lib.hid ?_
          clear r0 r1 k9 hs hS
          have hrow2 := hS2.row
          obtain ⟨r0, r1⟩ := hrow2
          cases ha : wmG M0
          · cases hb : wmG M'
            · have hR := wg_round hS2 HG.out.1 HG.out.2 ha hb
              simp only [if_true, Bool.false_eq_true, if_false, Int.add_zero] at hR
              obtain ⟨hR1, hR2⟩ := hR
              unfold RU at hR2
              have hga := wguards_any hS2.m0
              have hgb := wguards_any hS2.m1
              rw [ha] at hga
              rw [hb] at hgb
              have HGD := Lib.hid (show 0 ≤ G ∧ G ≤ 13 from HG.out)
              have gA := HGD.out.1
              have gB := HGD.out.2
              go_wp2_with fail
              refine wp_loop_rounds 3 ?_
              rw [rounds_succ]
              go_wp2_with (first
                | (go_at_call 20; (with_reducible refine hga.mono ?_); rintro _ _ ⟨rfl, rfl⟩))
              rw [rounds_succ]
              go_wp2_with (first
                | (go_at_call 20; (with_reducible refine hgb.mono ?_); rintro _ _ ⟨rfl, rfl⟩))
              rw [rounds_succ]
              go_wp2_with (first
                | (go_at_call 22; (with_reducible refine (rvLoad hS2.rv 6).mono ?_); rintro _ W3 ⟨rfl, hr3, ht3⟩; have hS3 := hS2.touch hr3 ht3; rw [hR1])
                | (go_at_call 21; (with_reducible refine (hR2 _).mono ?_); rintro _ _ ⟨rfl, x6, rfl⟩; have hS4 := (hS3.below x6.below).below ((Below.refl _ _).alloc (Nat.le_refl _) (.cells #[.int .i64 0, .int .i64 0, .int .i64 0, .int .i64 (G), .bool false, .bool true] 34))))
              go_roundw
              case rel => exact ⟨i + 1, _, _, _, by go_num, by omega, hS4⟩
              case measure => simp [intOf]; omega
            · have hR := wg_round hS2 HG.out.1 HG.out.2 ha hb
              simp only [if_true, Bool.false_eq_true, if_false, Int.add_zero] at hR
              obtain ⟨hR1, hR2⟩ := hR
              unfold RU at hR2
              have hga := wguards_any hS2.m0
              have hgb := wguards_any hS2.m1
              rw [ha] at hga
              rw [hb] at hgb
              have HGD := Lib.hid (show 0 ≤ G ∧ G ≤ 13 from HG.out)
              have gA := HGD.out.1
              have gB := HGD.out.2
              go_wp2_with fail
              refine wp_loop_rounds 3 ?_
              rw [rounds_succ]
              go_wp2_with (first
                | (go_at_call 20; (with_reducible refine hga.mono ?_); rintro _ _ ⟨rfl, rfl⟩))
              rw [rounds_succ]
              go_wp2_with (first
                | (go_at_call 20; (with_reducible refine hgb.mono ?_); rintro _ _ ⟨rfl, rfl⟩))
              rw [rounds_succ]
              go_wp2_with (first
                | (go_at_call 22; (with_reducible refine (rvLoad hS2.rv 6).mono ?_); rintro _ W3 ⟨rfl, hr3, ht3⟩; have hS3 := hS2.touch hr3 ht3; rw [hR1])
                | (go_at_call 21; (with_reducible refine (hR2 _).mono ?_); rintro _ _ ⟨rfl, x6, rfl⟩; have hS4 := (hS3.below x6.below).below ((Below.refl _ _).alloc (Nat.le_refl _) (.cells #[.int .i64 0, .int .i64 0, .int .i64 0, .int .i64 (G + 1), .bool false, .bool true] 34))))
              go_roundw
              case rel => exact ⟨i + 1, _, _, _, by go_num, by omega, hS4⟩
              case measure => simp [intOf]; omega
          · cases hb : wmG M'
            · have hR := wg_round hS2 HG.out.1 HG.out.2 ha hb
              simp only [if_true, Bool.false_eq_true, if_false, Int.add_zero] at hR
              obtain ⟨hR1, hR2⟩ := hR
              unfold RU at hR2
              have hga := wguards_any hS2.m0
              have hgb := wguards_any hS2.m1
              rw [ha] at hga
              rw [hb] at hgb
              have HGD := Lib.hid (show 0 ≤ G ∧ G ≤ 13 from HG.out)
              have gA := HGD.out.1
              have gB := HGD.out.2
              go_wp2_with fail
              refine wp_loop_rounds 3 ?_
              rw [rounds_succ]
              go_wp2_with (first
                | (go_at_call 20; (with_reducible refine hga.mono ?_); rintro _ _ ⟨rfl, rfl⟩))
              rw [rounds_succ]
              go_wp2_with (first
                | (go_at_call 20; (with_reducible refine hgb.mono ?_); rintro _ _ ⟨rfl, rfl⟩))
              rw [rounds_succ]
              go_wp2_with (first
                | (go_at_call 22; (with_reducible refine (rvLoad hS2.rv 6).mono ?_); rintro _ W3 ⟨rfl, hr3, ht3⟩; have hS3 := hS2.touch hr3 ht3; rw [hR1])
                | (go_at_call 21; (with_reducible refine (hR2 _).mono ?_); rintro _ _ ⟨rfl, x6, rfl⟩; have hS4 := (hS3.below x6.below).below ((Below.refl _ _).alloc (Nat.le_refl _) (.cells #[.int .i64 0, .int .i64 0, .int .i64 0, .int .i64 (G + 1), .bool false, .bool true] 34))))
              go_roundw
              case rel => exact ⟨i + 1, _, _, _, by go_num, by omega, hS4⟩
              case measure => simp [intOf]; omega
            · have hR := wg_round hS2 HG.out.1 HG.out.2 ha hb
              simp only [if_true, Bool.false_eq_true, if_false, Int.add_zero] at hR
              obtain ⟨hR1, hR2⟩ := hR
              unfold RU at hR2
              have hga := wguards_any hS2.m0
              have hgb := wguards_any hS2.m1
              rw [ha] at hga
              rw [hb] at hgb
              have HGD := Lib.hid (show 0 ≤ G ∧ G ≤ 13 from HG.out)
              have gA := HGD.out.1
              have gB := HGD.out.2
              go_wp2_with fail
              refine wp_loop_rounds 3 ?_
              rw [rounds_succ]
              go_wp2_with (first
                | (go_at_call 20; (with_reducible refine hga.mono ?_); rintro _ _ ⟨rfl, rfl⟩))
              rw [rounds_succ]
              go_wp2_with (first
                | (go_at_call 20; (with_reducible refine hgb.mono ?_); rintro _ _ ⟨rfl, rfl⟩))
              rw [rounds_succ]
              go_wp2_with (first
                | (go_at_call 22; (with_reducible refine (rvLoad hS2.rv 6).mono ?_); rintro _ W3 ⟨rfl, hr3, ht3⟩; have hS3 := hS2.touch hr3 ht3; rw [hR1])
                | (go_at_call 21; (with_reducible refine (hR2 _).mono ?_); rintro _ _ ⟨rfl, x6, rfl⟩; have hS4 := (hS3.below x6.below).below ((Below.refl _ _).alloc (Nat.le_refl _) (.cells #[.int .i64 0, .int .i64 0, .int .i64 0, .int .i64 (G + 1 + 1), .bool false, .bool true] 34))))
              go_roundw
              case rel => exact ⟨i + 1, _, _, _, by go_num, by omega, hS4⟩
              case measure => simp [intOf]; omega
    · have ei : i = l.length := by omega
      have hil2 : ¬ (i : Int) < l.length := by omega
      clear hP hil
      have hrow := hS.row
      obtain ⟨r0, r1⟩ := hrow
      have h50 := hS.run0 HG.out.1 HG.out.2
      go_wp2_with (first
        | (go_at_call 23; (with_reducible refine h50.mono ?_); rintro _ W2 ⟨c, j, M2, bs2, rfl, hz2, hS2⟩; refine apUn ?_))
      refine Lib.hid ?_
      clear r0 r1 h50 hS
      have hrow := hS2.row
      obtain ⟨r0, r1⟩ := hrow
      have h51 := hS2.run1 HG.out.1 HG.out.2
      go_wp2_with (first
        | (go_at_call 23; (with_reducible refine h51.mono ?_); rintro _ W3 ⟨c3, j3, M3, bs3, rfl, hz3, hS3⟩; refine apUn ?_))
      refine Lib.hid ?_
      clear r0 r1 h51 hS2
      have hw3 := hS3.rv
      rw [gI_end hz2, gI_end hz3, Int.add_zero, Int.add_zero] at hw3
      have hd0 : 0 ≤ f0 → f0 ≤ 7 → ¬ f0 = f1 → atI bs3 f0 = 1 := fun a b c => hS3.i0.dn (Or.inr hz2) a b c
      have hd1 : 0 ≤ f1 → f1 ≤ 7 → ¬ f0 = f1 → atI bs3 f1 = 2 := fun a b c => hS3.i1.dn (Or.inr hz3) a b (fun e => c e.symm)
      clear hS3 hz2 hz3
      have hd0' : 0 ≤ f0 → f0 ≤ 7 → ¬ f0 = f1 → atI bs3 f0 = 1 := fun a b c => hd0 a b c
      have hd1' : 0 ≤ f1 → f1 ≤ 7 → ¬ f0 = f1 → atI bs3 f1 = 2 := fun a b c => hd1 a b c
      have HD0 := Lib.hid hd0'
      have HD1 := Lib.hid hd1'
      clear hd0 hd1 hd0' hd1'
      by_cases z1 : f0 < 0
      · skip
        by_cases s1 : f1 < 0
        · skip
          go_wp2_with (first
            | (go_at_call 22; (with_reducible refine (rvLoad hw3 6).mono ?_); rintro _ W4 ⟨rfl, hw4, -⟩; rw [show atI (wgW G) 6 = wE G from rfl])
            | (go_at_call 16; (with_reducible refine (hlv _ (hH2.below hw4.bel) (hE2.below hw4.bel hE2.lt)).mono ?_); rintro _ _ ⟨rfl, x9, rfl⟩))
          go_ret
          exact Ret.mk rfl (hB2.trans ((x9.cat hw4.bel hw4.bel.size).mono hB2.size))
        · by_cases s2 : 7 < f1
          · skip
            go_wp2_with (first
              | (go_at_call 22; (with_reducible refine (rvLoad hw3 6).mono ?_); rintro _ W4 ⟨rfl, hw4, -⟩; rw [show atI (wgW G) 6 = wE G from rfl])
              | (go_at_call 16; (with_reducible refine (hlv _ (hH2.below hw4.bel) (hE2.below hw4.bel hE2.lt)).mono ?_); rintro _ _ ⟨rfl, x9, rfl⟩))
            go_ret
            exact Ret.mk rfl (hB2.trans ((x9.cat hw4.bel hw4.bel.size).mono hB2.size))
          · have hne : ¬ f0 = f1 := by omega
            have hv1 := HD1.out (by omega) (by omega) hne
            have hne1 : decide (f0 = f1) = false := decide_eq_false hne
            have hne2 : (f0 == f1) = false := by simpa using hne
            clear hne
            go_wp2_with (first
              | (go_at_call 22; (with_reducible refine (rvLoad hw3 6).mono ?_); rintro _ W4 ⟨rfl, hw4, -⟩; rw [show atI (wgW G) 6 = wE G from rfl])
              | (go_at_call 24; (with_reducible refine (rvByteAt hw4 f1).mono ?_); rintro _ W6 ⟨rfl, hw6, -⟩; rw [hv1])
              | (go_at_call 16; (with_reducible refine (hlv _ (hH2.below hw6.bel) (hE2.below hw6.bel hE2.lt)).mono ?_); rintro _ _ ⟨rfl, x9, rfl⟩))
            go_ret
            exact Ret.mk rfl (hB2.trans ((x9.cat hw6.bel hw6.bel.size).mono hB2.size))
      · by_cases z2 : 7 < f0
        · skip
          by_cases s1 : f1 < 0
          · skip
            go_wp2_with (first
              | (go_at_call 22; (with_reducible refine (rvLoad hw3 6).mono ?_); rintro _ W4 ⟨rfl, hw4, -⟩; rw [show atI (wgW G) 6 = wE G from rfl])
              | (go_at_call 16; (with_reducible refine (hlv _ (hH2.below hw4.bel) (hE2.below hw4.bel hE2.lt)).mono ?_); rintro _ _ ⟨rfl, x9, rfl⟩))
            go_ret
            exact Ret.mk rfl (hB2.trans ((x9.cat hw4.bel hw4.bel.size).mono hB2.size))
          · by_cases s2 : 7 < f1
            · skip
              go_wp2_with (first
                | (go_at_call 22; (with_reducible refine (rvLoad hw3 6).mono ?_); rintro _ W4 ⟨rfl, hw4, -⟩; rw [show atI (wgW G) 6 = wE G from rfl])
                | (go_at_call 16; (with_reducible refine (hlv _ (hH2.below hw4.bel) (hE2.below hw4.bel hE2.lt)).mono ?_); rintro _ _ ⟨rfl, x9, rfl⟩))
              go_ret
              exact Ret.mk rfl (hB2.trans ((x9.cat hw4.bel hw4.bel.size).mono hB2.size))
            · have hne : ¬ f0 = f1 := by omega
              have hv1 := HD1.out (by omega) (by omega) hne
              have hne1 : decide (f0 = f1) = false := decide_eq_false hne
              have hne2 : (f0 == f1) = false := by simpa using hne
              clear hne
              go_wp2_with (first
                | (go_at_call 22; (with_reducible refine (rvLoad hw3 6).mono ?_); rintro _ W4 ⟨rfl, hw4, -⟩; rw [show atI (wgW G) 6 = wE G from rfl])
                | (go_at_call 24; (with_reducible refine (rvByteAt hw4 f1).mono ?_); rintro _ W6 ⟨rfl, hw6, -⟩; rw [hv1])
                | (go_at_call 16; (with_reducible refine (hlv _ (hH2.below hw6.bel) (hE2.below hw6.bel hE2.lt)).mono ?_); rintro _ _ ⟨rfl, x9, rfl⟩))
              go_ret
              exact Ret.mk rfl (hB2.trans ((x9.cat hw6.bel hw6.bel.size).mono hB2.size))
        · by_cases z3 : f0 = f1
          · have s1 : ¬ f1 < 0 := by omega
            have s2 : ¬ 7 < f1 := by omega
            have e1 : decide (f0 = f1) = true := decide_eq_true z3
            have e2 : (f0 == f1) = true := by simpa using z3
            clear z3
            go_wp2_with (first
              | (go_at_call 22; (with_reducible refine (rvLoad hw3 6).mono ?_); rintro _ W4 ⟨rfl, hw4, -⟩; rw [show atI (wgW G) 6 = wE G from rfl])
              | (go_at_call 16; (with_reducible refine (hlv _ (hH2.below hw4.bel) (hE2.below hw4.bel hE2.lt)).mono ?_); rintro _ _ ⟨rfl, x9, rfl⟩))
            go_ret
            exact Ret.mk rfl (hB2.trans ((x9.cat hw4.bel hw4.bel.size).mono hB2.size))
          · have hv0 := HD0.out (by omega) (by omega) z3
            have e1 : decide (f0 = f1) = false := decide_eq_false z3
            have e2 : (f0 == f1) = false := by simpa using z3
            have HZ := Lib.hid z3
            clear z3
            by_cases s1 : f1 < 0
            · skip
              go_wp2_with (first
                | (go_at_call 22; (with_reducible refine (rvLoad hw3 6).mono ?_); rintro _ W4 ⟨rfl, hw4, -⟩; rw [show atI (wgW G) 6 = wE G from rfl])
                | (go_at_call 24; (with_reducible refine (rvByteAt hw4 f0).mono ?_); rintro _ W5 ⟨rfl, hw5, -⟩; rw [hv0])
                | (go_at_call 16; (with_reducible refine (hlv _ (hH2.below hw5.bel) (hE2.below hw5.bel hE2.lt)).mono ?_); rintro _ _ ⟨rfl, x9, rfl⟩))
              go_ret
              exact Ret.mk rfl (hB2.trans ((x9.cat hw5.bel hw5.bel.size).mono hB2.size))
            · by_cases s2 : 7 < f1
              · skip
                go_wp2_with (first
                  | (go_at_call 22; (with_reducible refine (rvLoad hw3 6).mono ?_); rintro _ W4 ⟨rfl, hw4, -⟩; rw [show atI (wgW G) 6 = wE G from rfl])
                  | (go_at_call 24; (with_reducible refine (rvByteAt hw4 f0).mono ?_); rintro _ W5 ⟨rfl, hw5, -⟩; rw [hv0])
                  | (go_at_call 16; (with_reducible refine (hlv _ (hH2.below hw5.bel) (hE2.below hw5.bel hE2.lt)).mono ?_); rintro _ _ ⟨rfl, x9, rfl⟩))
                go_ret
                exact Ret.mk rfl (hB2.trans ((x9.cat hw5.bel hw5.bel.size).mono hB2.size))
              · have hne : ¬ f0 = f1 := HZ.out
                have hv1 := HD1.out (by omega) (by omega) hne
                have hne1 : decide (f0 = f1) = false := decide_eq_false hne
                have hne2 : (f0 == f1) = false := by simpa using hne
                clear hne
                go_wp2_with (first
                  | (go_at_call 22; (with_reducible refine (rvLoad hw3 6).mono ?_); rintro _ W4 ⟨rfl, hw4, -⟩; rw [show atI (wgW G) 6 = wE G from rfl])
                  | (go_at_call 24; (with_reducible refine (rvByteAt hw4 f0).mono ?_); rintro _ W5 ⟨rfl, hw5, -⟩; rw [hv0])
                  | (go_at_call 24; (with_reducible refine (rvByteAt hw5 f1).mono ?_); rintro _ W6 ⟨rfl, hw6, -⟩; rw [hv1])
                  | (go_at_call 16; (with_reducible refine (hlv _ (hH2.below hw6.bel) (hE2.below hw6.bel hE2.lt)).mono ?_); rintro _ _ ⟨rfl, x9, rfl⟩))
                go_ret
                exact Ret.mk rfl (hB2.trans ((x9.cat hw6.bel hw6.bel.size).mono hB2.size))
set_option maxHeartbeats 4000000 in
set_option maxRecDepth 8000 in
theorem wguards_long {p : Option Addr} {l : List Int} {cap : Nat} {f0 f1 G : Int} {w : World} (hl : 100 < l.length) (hH : HasHead w) (hE : HasFields w) :
    Calls Tryd.prog 3 #[.agg #[.slice p l.length cap, .int .i64 f0, .int .i64 f1, .int .i64 G]] w (Ret w (.bool true)) := by
  have hl1 : (100 : Int) < l.length := by omega
  have hB0 : Below w.heap.size w (w.alloc (.cells #[.slice p l.length cap, .int .i64 f0, .int .i64 f1, .int .i64 G] 24)) := (Below.refl _ _).alloc (Nat.le_refl _) _
  have hb0 : Fs (w.alloc (.cells #[.slice p l.length cap, .int .i64 f0, .int .i64 f1, .int .i64 G] 24)) w.heap.size [.slice p l.length cap, .int .i64 f0, .int .i64 f1, .int .i64 G] := Fs.new' _ _ rfl rfl
  have hE0 : HasFields (w.alloc (.cells #[.slice p l.length cap, .int .i64 f0, .int .i64 f1, .int .i64 G] 24)) := hE.alloc _
  have hH0 : HasHead (w.alloc (.cells #[.slice p l.length cap, .int .i64 f0, .int .i64 f1, .int .i64 G] 24)) := hH.alloc _
  have hst := fun (W : World) hF => start_yes 8 1 2 (by decide) W hF
  have hmk := fun W => Make_same 0 0 W
  rw [show mkV 0 0 = 1099511627776 from by decide +kernel, show mkE 0 0 = 0 from by decide +kernel] at hmk
  have hpk := fun W => refPack_any 0 0 0 G false true W
  have hlv := fun W => wlive_any W
  go_enter Tryd.func3, Tryd.ntmps3
  go_wp2_with fail
  have b0 := hb0.at' 0 rfl
  have b1 := hb0.at' 1 rfl
  have b2 := hb0.at' 2 rfl
  have b3 := hb0.at' 3 rfl
  have hlt0 := hb0.lt
  generalize w.alloc (.cells #[.slice p l.length cap, .int .i64 f0, .int .i64 f1, .int .i64 G] 24) = Wa at *
  generalize w.heap.size = bb at b0 b1 b2 b3 hlt0 ⊢
  refine wp_region_later (by kernel_rfl) (by kernel_rfl) ?_
  repeat (go_big_quiet_step (fail))
  refine wpQuiet_nil ?_
  rintro _ ⟨x0, rfl⟩
  have hB1 := hB0.trans (x0.below.mono hB0.size)
  have hE1 := hE0.below x0.below hE0.lt
  have hH1 := hH0.below x0.below
  clear b0 b1 b2 b3 hlt0 hb0 hB0 hE0 hH0
  generalize x0.at' = Wb at *
  have hB2 := hB1.alloc hB1.size (.cells #[.int .i64 8, .int .i64 1, .int .i64 2] 26)
  have hc2 : Fs (Wb.alloc (.cells #[.int .i64 8, .int .i64 1, .int .i64 2] 26)) Wb.heap.size [.int .i64 8, .int .i64 1, .int .i64 2] := Fs.new' _ _ rfl rfl
  have hE2 := hE1.alloc (.cells #[.int .i64 8, .int .i64 1, .int .i64 2] 26)
  have hH2 := hH1.alloc (.cells #[.int .i64 8, .int .i64 1, .int .i64 2] 26)
  clear hB1 hE1 hH1
  go_wp2_with (first
    | (go_at_call 13; (with_reducible refine (hst _ hH2).mono ?_); rintro _ V1 ⟨A, rfl, hlo, hB3, ws, nn, hM1, hlen, hat⟩; have hws := words_of 2 1 wg0 (by decide) (by decide +kernel) ws hlen hat; subst hws; have hv1 := Rv.begin (t := 2) (s := 1) hE2 hlo hB3 hM1 (by decide))
    | (go_at_call 14; (with_reducible refine (hmk _).mono ?_); rintro _ _ ⟨rfl, rfl⟩)
    | (go_at_call 15; (with_reducible refine (hpk _).mono ?_); rintro _ _ ⟨rfl, x2, rfl⟩; have hv2 := hv1.later x2)
    | (go_at_call 16; (with_reducible refine (hlv _ (hH2.below hv2.bel) (hE2.below hv2.bel hE2.lt)).mono ?_); rintro _ _ ⟨rfl, x5, rfl⟩))
  go_ret
  exact Ret.mk rfl (hB2.trans ((x5.cat hv2.bel hv2.bel.size).mono hB2.size))
set_option maxHeartbeats 4000000 in
set_option maxRecDepth 8000 in
theorem wguards_bad {p : Option Addr} {l : List Int} {cap : Nat} {f0 f1 G : Int} {w : World} (hl : ¬ 100 < l.length) (hm : En.may ⟨0, 0, 0, G, false, true⟩ = false) (hH : HasHead w) (hE : HasFields w) :
    Calls Tryd.prog 3 #[.agg #[.slice p l.length cap, .int .i64 f0, .int .i64 f1, .int .i64 G]] w (Ret w (.bool true)) := by
  have hl1 : ¬ (100 : Int) < l.length := by omega
  have hB0 : Below w.heap.size w (w.alloc (.cells #[.slice p l.length cap, .int .i64 f0, .int .i64 f1, .int .i64 G] 24)) := (Below.refl _ _).alloc (Nat.le_refl _) _
  have hb0 : Fs (w.alloc (.cells #[.slice p l.length cap, .int .i64 f0, .int .i64 f1, .int .i64 G] 24)) w.heap.size [.slice p l.length cap, .int .i64 f0, .int .i64 f1, .int .i64 G] := Fs.new' _ _ rfl rfl
  have hE0 : HasFields (w.alloc (.cells #[.slice p l.length cap, .int .i64 f0, .int .i64 f1, .int .i64 G] 24)) := hE.alloc _
  have hH0 : HasHead (w.alloc (.cells #[.slice p l.length cap, .int .i64 f0, .int .i64 f1, .int .i64 G] 24)) := hH.alloc _
  have hst := fun (W : World) hF => start_yes 8 1 2 (by decide) W hF
  have hmk := fun W => Make_same 0 0 W
  rw [show mkV 0 0 = 1099511627776 from by decide +kernel, show mkE 0 0 = 0 from by decide +kernel] at hmk
  have hpk := fun W => refPack_any 0 0 0 G false true W
  rw [packE_bad hm, packV_bad hm] at hpk
  have hlv := fun W => wlive_any W
  go_enter Tryd.func3, Tryd.ntmps3
  go_wp2_with fail
  have b0 := hb0.at' 0 rfl
  have b1 := hb0.at' 1 rfl
  have b2 := hb0.at' 2 rfl
  have b3 := hb0.at' 3 rfl
  have hlt0 := hb0.lt
  generalize w.alloc (.cells #[.slice p l.length cap, .int .i64 f0, .int .i64 f1, .int .i64 G] 24) = Wa at *
  generalize w.heap.size = bb at b0 b1 b2 b3 hlt0 ⊢
  refine wp_region_later (by kernel_rfl) (by kernel_rfl) ?_
  repeat (go_big_quiet_step (fail))
  refine wpQuiet_nil ?_
  rintro _ ⟨x0, rfl⟩
  have hB1 := hB0.trans (x0.below.mono hB0.size)
  have hE1 := hE0.below x0.below hE0.lt
  have hH1 := hH0.below x0.below
  clear b0 b1 b2 b3 hlt0 hb0 hB0 hE0 hH0
  generalize x0.at' = Wb at *
  have hB2 := hB1.alloc hB1.size (.cells #[.int .i64 8, .int .i64 1, .int .i64 2] 26)
  have hc2 : Fs (Wb.alloc (.cells #[.int .i64 8, .int .i64 1, .int .i64 2] 26)) Wb.heap.size [.int .i64 8, .int .i64 1, .int .i64 2] := Fs.new' _ _ rfl rfl
  have hE2 := hE1.alloc (.cells #[.int .i64 8, .int .i64 1, .int .i64 2] 26)
  have hH2 := hH1.alloc (.cells #[.int .i64 8, .int .i64 1, .int .i64 2] 26)
  clear hB1 hE1 hH1
  go_wp2_with (first
    | (go_at_call 13; (with_reducible refine (hst _ hH2).mono ?_); rintro _ V1 ⟨A, rfl, hlo, hB3, ws, nn, hM1, hlen, hat⟩; have hws := words_of 2 1 wg0 (by decide) (by decide +kernel) ws hlen hat; subst hws; have hv1 := Rv.begin (t := 2) (s := 1) hE2 hlo hB3 hM1 (by decide))
    | (go_at_call 14; (with_reducible refine (hmk _).mono ?_); rintro _ _ ⟨rfl, rfl⟩)
    | (go_at_call 15; (with_reducible refine (hpk _).mono ?_); rintro _ _ ⟨rfl, x2, rfl⟩; have hv2 := hv1.later x2)
    | (go_at_call 16; (with_reducible refine (hlv _ (hH2.below hv2.bel) (hE2.below hv2.bel hE2.lt)).mono ?_); rintro _ _ ⟨rfl, x5, rfl⟩))
  go_ret
  exact Ret.mk rfl (hB2.trans ((x5.cat hv2.bel hv2.bel.size).mono hB2.size))
set_option maxHeartbeats 4000000 in
set_option maxRecDepth 8000 in
theorem wguards_big {p : Option Addr} {l : List Int} {cap : Nat} {f0 f1 G : Int} {w : World} (hl : ¬ 100 < l.length) (hm : En.may ⟨0, 0, 0, G, false, true⟩ = true) (hg : 13 < G) (hH : HasHead w) (hE : HasFields w) :
    Calls Tryd.prog 3 #[.agg #[.slice p l.length cap, .int .i64 f0, .int .i64 f1, .int .i64 G]] w (Ret w (.bool true)) := by
  have hl1 : ¬ (100 : Int) < l.length := by omega
  have hB0 : Below w.heap.size w (w.alloc (.cells #[.slice p l.length cap, .int .i64 f0, .int .i64 f1, .int .i64 G] 24)) := (Below.refl _ _).alloc (Nat.le_refl _) _
  have hb0 : Fs (w.alloc (.cells #[.slice p l.length cap, .int .i64 f0, .int .i64 f1, .int .i64 G] 24)) w.heap.size [.slice p l.length cap, .int .i64 f0, .int .i64 f1, .int .i64 G] := Fs.new' _ _ rfl rfl
  have hE0 : HasFields (w.alloc (.cells #[.slice p l.length cap, .int .i64 f0, .int .i64 f1, .int .i64 G] 24)) := hE.alloc _
  have hH0 : HasHead (w.alloc (.cells #[.slice p l.length cap, .int .i64 f0, .int .i64 f1, .int .i64 G] 24)) := hH.alloc _
  have hst := fun (W : World) hF => start_yes 8 1 2 (by decide) W hF
  have hmk := fun W => Make_same 0 0 W
  rw [show mkV 0 0 = 1099511627776 from by decide +kernel, show mkE 0 0 = 0 from by decide +kernel] at hmk
  have hpk := fun W => refPack_any 0 0 0 G false true W
  rw [packE_ok hm, packV_ok hm] at hpk
  have hlv := fun W => wlive_any W
  go_enter Tryd.func3, Tryd.ntmps3
  go_wp2_with fail
  have b0 := hb0.at' 0 rfl
  have b1 := hb0.at' 1 rfl
  have b2 := hb0.at' 2 rfl
  have b3 := hb0.at' 3 rfl
  have hlt0 := hb0.lt
  generalize w.alloc (.cells #[.slice p l.length cap, .int .i64 f0, .int .i64 f1, .int .i64 G] 24) = Wa at *
  generalize w.heap.size = bb at b0 b1 b2 b3 hlt0 ⊢
  refine wp_region_later (by kernel_rfl) (by kernel_rfl) ?_
  repeat (go_big_quiet_step (fail))
  refine wpQuiet_nil ?_
  rintro _ ⟨x0, rfl⟩
  have hB1 := hB0.trans (x0.below.mono hB0.size)
  have hE1 := hE0.below x0.below hE0.lt
  have hH1 := hH0.below x0.below
  clear b0 b1 b2 b3 hlt0 hb0 hB0 hE0 hH0
  generalize x0.at' = Wb at *
  have hB2 := hB1.alloc hB1.size (.cells #[.int .i64 8, .int .i64 1, .int .i64 2] 26)
  have hc2 : Fs (Wb.alloc (.cells #[.int .i64 8, .int .i64 1, .int .i64 2] 26)) Wb.heap.size [.int .i64 8, .int .i64 1, .int .i64 2] := Fs.new' _ _ rfl rfl
  have hE2 := hE1.alloc (.cells #[.int .i64 8, .int .i64 1, .int .i64 2] 26)
  have hH2 := hH1.alloc (.cells #[.int .i64 8, .int .i64 1, .int .i64 2] 26)
  clear hB1 hE1 hH1
  go_wp2_with (first
    | (go_at_call 13; (with_reducible refine (hst _ hH2).mono ?_); rintro _ V1 ⟨A, rfl, hlo, hB3, ws, nn, hM1, hlen, hat⟩; have hws := words_of 2 1 wg0 (by decide) (by decide +kernel) ws hlen hat; subst hws; have hv1 := Rv.begin (t := 2) (s := 1) hE2 hlo hB3 hM1 (by decide))
    | (go_at_call 14; (with_reducible refine (hmk _).mono ?_); rintro _ _ ⟨rfl, rfl⟩)
    | (go_at_call 15; (with_reducible refine (hpk _).mono ?_); rintro _ _ ⟨rfl, x2, rfl⟩; have hv2 := hv1.later x2)
    | (go_at_call 16; (with_reducible refine (hlv _ (hH2.below hv2.bel) (hE2.below hv2.bel hE2.lt)).mono ?_); rintro _ _ ⟨rfl, x5, rfl⟩))
  go_ret
  exact Ret.mk rfl (hB2.trans ((x5.cat hv2.bel hv2.bel.size).mono hB2.size))
theorem WriteGuards_walk {p : Option Addr} {l : List Int} {cap : Nat} {f0 f1 G : Int} {w : World} (hP : NumP w p l) (hH : HasHead w) (hE : HasFields w) :
    Calls Tryd.prog 3 #[.agg #[.slice p l.length cap, .int .i64 f0, .int .i64 f1, .int .i64 G]] w (Ret w (.bool true)) := by
  by_cases hl : 100 < l.length
  · exact wguards_long hl hH hE
  · cases hm : En.may ⟨0, 0, 0, G, false, true⟩
    · exact wguards_bad hl hm hH hE
    · by_cases hg : 13 < G
      · exact wguards_big hl hm hg hH hE
      · obtain ⟨m1, m2, m3, m4, m5, m6, m7, m8, _⟩ := may_of hm
        simp only at m7 m8
        exact wguards_yes hl m7 (by omega) hP hH hE
end Go.Proofs.YtnojemmpgaibkaaDoor
