/-
  The walk of WriteTwice.
  Conditions: none but that the tables read as they are laid.
-/
import Derived.Test.YtnojemmpgaibkaaDoorWrObj
import Derived.Test.YtnojemmpgaibkaaDoorRvW
namespace Go.Proofs.YtnojemmpgaibkaaDoor
open Go.RowKit
attribute [local go_sem] Later.cell Later.frozen Later.lt Later.le
set_option linter.unusedVariables false
set_option linter.unusedSimpArgs false

theorem wo_zero : List.replicate (8 : Int).toNat (0 : Int) = [0, 0, 0, 0, 0, 0, 0, 0] := rfl
theorem two_at {l : List Int} (hl : l.length = 8) {p q x y : Int} (p0 : 0 ≤ p) (p1 : p ≤ 7) (q0 : 0 ≤ q) (q1 : q ≤ 7) : atI (setI (setI l p x) q y) q = y ∧ atI (setI (setI l p x) q y) p = if p = q then y else x := by
  have i0 : inI l p = true := inI_iff.2 ⟨p0, by omega⟩
  have i1 : inI (setI l p x) q = true := inI_iff.2 ⟨q0, by rw [setI_length]; omega⟩
  obtain ⟨a, rfl⟩ := Int.eq_ofNat_of_zero_le p0
  obtain ⟨b, rfl⟩ := Int.eq_ofNat_of_zero_le q0
  have ha : a < l.length := by omega
  have hb : b < l.length := by omega
  rw [setI_in i1, setI_in i0, atI_nat, atI_nat]
  simp only [Int.toNat_natCast]
  refine ⟨by simp [hb], ?_⟩
  by_cases h : a = b
  · subst h
    simp [ha]
  · rw [if_neg (by omega)]
    simp [Ne.symm h, ha]
def wtO (d h off b : Int) : Array Value := #[.int .i64 d, .int .i64 h, .int .i64 off, .int .i64 b]
set_option maxHeartbeats 8000000 in
set_option maxRecDepth 8000 in
theorem twice_eq {da ha oa na db hb nb : Int} (p0 : 0 ≤ oa) (p1 : oa ≤ 7) {w : World} (hH : HasHead w) (hE : HasFields w) :
    Calls Tryd.prog 6 #[.agg #[.int .i64 da, .int .i64 ha, .int .i64 oa, .int .i64 na], .agg #[.int .i64 db, .int .i64 hb, .int .i64 oa, .int .i64 nb]] w (Ret w (.bool true)) := by
  have hB0 : Below w.heap.size w (((w.alloc (.cells #[.int .i64 da, .int .i64 ha, .int .i64 oa, .int .i64 na] 52)).alloc (.cells #[.int .i64 db, .int .i64 hb, .int .i64 oa, .int .i64 nb] 52)).alloc (.cells #[.int .i64 8, .int .i64 1, .int .i64 1] 26)) := (((Below.refl _ _).alloc (Nat.le_refl _) _).alloc (by simp) _).alloc (by simp; omega) _
  have hA0 : Fs (((w.alloc (.cells #[.int .i64 da, .int .i64 ha, .int .i64 oa, .int .i64 na] 52)).alloc (.cells #[.int .i64 db, .int .i64 hb, .int .i64 oa, .int .i64 nb] 52)).alloc (.cells #[.int .i64 8, .int .i64 1, .int .i64 1] 26)) w.heap.size [.int .i64 da, .int .i64 ha, .int .i64 oa, .int .i64 na] := ((Fs.new' _ _ rfl rfl).alloc _).alloc _
  have hb0 : Fs (((w.alloc (.cells #[.int .i64 da, .int .i64 ha, .int .i64 oa, .int .i64 na] 52)).alloc (.cells #[.int .i64 db, .int .i64 hb, .int .i64 oa, .int .i64 nb] 52)).alloc (.cells #[.int .i64 8, .int .i64 1, .int .i64 1] 26)) (w.heap.size + 1) [.int .i64 db, .int .i64 hb, .int .i64 oa, .int .i64 nb] := (Fs.new' _ _ (by simp) rfl).alloc _
  have hc0 : Fs (((w.alloc (.cells #[.int .i64 da, .int .i64 ha, .int .i64 oa, .int .i64 na] 52)).alloc (.cells #[.int .i64 db, .int .i64 hb, .int .i64 oa, .int .i64 nb] 52)).alloc (.cells #[.int .i64 8, .int .i64 1, .int .i64 1] 26)) (w.heap.size + 1 + 1) [.int .i64 8, .int .i64 1, .int .i64 1] := Fs.new' _ _ (by simp) rfl
  have hst := start_yes 8 1 1 (by decide) (((w.alloc (.cells #[.int .i64 da, .int .i64 ha, .int .i64 oa, .int .i64 na] 52)).alloc (.cells #[.int .i64 db, .int .i64 hb, .int .i64 oa, .int .i64 nb] 52)).alloc (.cells #[.int .i64 8, .int .i64 1, .int .i64 1] 26)) (((hH.alloc _).alloc _).alloc _)
  have hE0 := ((hE.alloc (.cells #[.int .i64 da, .int .i64 ha, .int .i64 oa, .int .i64 na] 52)).alloc (.cells #[.int .i64 db, .int .i64 hb, .int .i64 oa, .int .i64 nb] 52)).alloc (.cells #[.int .i64 8, .int .i64 1, .int .i64 1] 26)
  have hH0 := ((hH.alloc (.cells #[.int .i64 da, .int .i64 ha, .int .i64 oa, .int .i64 na] 52)).alloc (.cells #[.int .i64 db, .int .i64 hb, .int .i64 oa, .int .i64 nb] 52)).alloc (.cells #[.int .i64 8, .int .i64 1, .int .i64 1] 26)
  have hmk := fun W => Make_same 0 0 W
  rw [mk00.1, mk00.2] at hmk
  have hlv := fun W => wlive_any W
  go_enter Tryd.func6, Tryd.ntmps6
  go_wp2_with fail
  generalize ((w.alloc (.cells #[.int .i64 da, .int .i64 ha, .int .i64 oa, .int .i64 na] 52)).alloc (.cells #[.int .i64 db, .int .i64 hb, .int .i64 oa, .int .i64 nb] 52)).alloc (.cells #[.int .i64 8, .int .i64 1, .int .i64 1] 26) = W0 at *
  obtain ⟨M1, h10, e1⟩ := wo_run (off := oa) (b := na) (wd := 0) (ba := 0) (bs := List.replicate (8 : Int).toNat 0) p0 p1
  obtain ⟨M2, h20, e2⟩ := wo_run (off := oa) (b := nb) (wd := 0) (ba := 0) (bs := setI (List.replicate (8 : Int).toNat 0) oa (na % 256)) p0 p1
  have n1 := fun W => wnew_yes 8 1 1 1099511627776 oa na (by decide) W
  have n2 := fun W => wnew_yes 8 1 1 1099511627776 oa nb (by decide) W
  rw [wo_new] at n1 n2
  have r1 := fun (W : World) (A : PAt) (K : List (Nat × List Value)) (k : Nat) (h : Rv W0 A 1 1 woU (List.replicate (8 : Int).toNat 0) K W) (hk : A.hi ≤ k) hK (hP : Fs W k (wmL 1 1 ⟨true, 0, 0, oa, na, 1, 0, 0, 0⟩)) => rvwRun 10 10 rfl (by decide) h hk hK hP (show (0 : Int) ≤ 1 ∧ (1 : Int) ≤ 6 by decide) e1
  have r2 := fun (W : World) (A : PAt) (K : List (Nat × List Value)) (k : Nat) (h : Rv W0 A 1 1 woU (setI (List.replicate (8 : Int).toNat 0) oa (na % 256)) K W) (hk : A.hi ≤ k) hK (hP : Fs W k (wmL 1 1 ⟨true, 0, 0, oa, nb, 1, 0, 0, 0⟩)) => rvwRun 10 10 rfl (by decide) h hk hK hP (show (0 : Int) ≤ 1 ∧ (1 : Int) ≤ 6 by decide) e2
  obtain ⟨ta1, ta2, ta3⟩ := tmod_bd na
  obtain ⟨tb1, tb2, tb3⟩ := tmod_bd nb
  clear ta3 tb3 e1 e2
  go_wp2_with (first
    | (go_at_call 13; (with_reducible refine hst.mono ?_); rintro _ V1 ⟨A, rfl, hlo, hB1, ws, n, hM1, hlen, hat⟩; have hws := words_of 1 1 wo0 (by decide) (by decide +kernel) ws hlen hat; subst hws; have hv1 := Rv.begin (t := 1) (s := 1) hE0 hlo hB1 hM1 (by decide); have ga := hA0.below hv1.bel hA0.lt; have gb := hb0.below hv1.bel hb0.lt; have gc := hc0.below hv1.bel hc0.lt; have ga2 := ga.at' 2 rfl; have ga3 := ga.at' 3 rfl; have gb2 := gb.at' 2 rfl; have gb3 := gb.at' 3 rfl; have gc0 := gc.at' 0 rfl; have gc1 := gc.at' 1 rfl; have gc2 := gc.at' 2 rfl; clear ga gb gc)
    | (go_at_call 14; (with_reducible refine (hmk _).mono ?_); rintro _ _ ⟨rfl, rfl⟩)
    | (go_at_call 17; (with_reducible refine (rvStore hv1 _ _).mono ?_); rintro _ V2 ⟨rfl, hv2, -⟩; clear ga2 ga3 gb2 gb3 gc0 gc1 gc2 hv1)
    | (go_at_call 17; (with_reducible refine (rvStore hv2 _ _).mono ?_); rintro _ V3 ⟨rfl, hv3, -⟩; rw [wo_free] at hv3; have ga := hA0.below hv3.bel hA0.lt; have gb := hb0.below hv3.bel hb0.lt; have gc := hc0.below hv3.bel hc0.lt; have ga2 := ga.at' 2 rfl; have ga3 := ga.at' 3 rfl; have gb2 := gb.at' 2 rfl; have gb3 := gb.at' 3 rfl; have gc0 := gc.at' 0 rfl; have gc1 := gc.at' 1 rfl; have gc2 := gc.at' 2 rfl; clear ga gb gc; clear hv2)
    | (go_at_call 18; (with_reducible refine (n1 _).mono ?_); rintro _ V5 ⟨k1, rfl, hk1, hb1, hf1⟩; have hv5 := hv3.below hb1; have hh1 := Nat.le_trans hv3.hi_le hk1; clear ga2 ga3 gb2 gb3 gc0 gc1 gc2 hv3)
    | (go_at_call 23; (with_reducible refine (r1 _ _ _ _ hv5 hh1 (fun p hp => absurd hp (by simp)) hf1).mono ?_); rintro _ V6 ⟨rfl, hv6, -, -⟩; have hv7 := hv6.push #[.int .i64 0, .int .i64 0] 41; clear hv5 hv6; have ga := hA0.below hv7.bel hA0.lt; have gb := hb0.below hv7.bel hb0.lt; have gc := hc0.below hv7.bel hc0.lt; have ga2 := ga.at' 2 rfl; have ga3 := ga.at' 3 rfl; have gb2 := gb.at' 2 rfl; have gb3 := gb.at' 3 rfl; have gc0 := gc.at' 0 rfl; have gc1 := gc.at' 1 rfl; have gc2 := gc.at' 2 rfl; clear ga gb gc)
    | (go_at_call 18; (with_reducible refine (n2 _).mono ?_); rintro _ V8 ⟨k2, rfl, hk2, hb2, hf2⟩; have hv8 := hv7.below hb2; have hh2 := Nat.le_trans hv7.hi_le hk2; go_loud (have hK2 : ∀ p ∈ [(V6.heap.size, (#[.int .i64 0, .int .i64 0] : Array Value).toList)], p.1 ≠ k2 := (fun p hp => by have := (hv7.keep p hp).1.lt; omega)))
    | (go_at_call 23; (with_reducible refine (r2 _ _ _ _ hv8 hh2 hK2 hf2).mono ?_); rintro _ V9 ⟨rfl, hv9, -, -⟩; have hv10 := hv9.push #[.int .i64 0, .int .i64 0] 41; clear ga2 ga3 gb2 gb3 gc0 gc1 gc2 hv7 hv8 hv9; have ga := hA0.below hv10.bel hA0.lt; have gb := hb0.below hv10.bel hb0.lt; have gc := hc0.below hv10.bel hc0.lt; have ga2 := ga.at' 2 rfl; have ga3 := ga.at' 3 rfl; have gb2 := gb.at' 2 rfl; have gb3 := gb.at' 3 rfl; have gc0 := gc.at' 0 rfl; have gc1 := gc.at' 1 rfl; have gc2 := gc.at' 2 rfl; clear ga gb gc))
  clear ga2 ga3 gb2 gb3 gc0 gc1 gc2 hst hmk n1 n2 r1 r2
  have hbt := two_at (l := List.replicate (8 : Int).toNat 0) (by decide) (x := na % 256) (y := nb % 256) p0 p1 p0 p1
  rw [back_mod na, back_mod nb, if_pos rfl] at hbt
  rw [back_mod na, back_mod nb] at hv10
  have hR10 := hv10.drew
  have ha2 := fun (x : In (Rv W0 A 1 1 woU (setI (setI (List.replicate (8 : Int).toNat 0) oa (na.tmod 256 % 256)) oa (nb.tmod 256 % 256)) ((V9.heap.size, #[.int .i64 0, .int .i64 0].toList) :: [(V6.heap.size, #[.int .i64 0, .int .i64 0].toList)]))) => And.intro (x.base hA0 2 rfl) (And.intro (x.base hb0 2 rfl) (x.base hb0 3 rfl))
  have hr2 := fun (x : In (Rv W0 A 1 1 woU (setI (setI (List.replicate (8 : Int).toNat 0) oa (na.tmod 256 % 256)) oa (nb.tmod 256 % 256)) ((V9.heap.size, #[.int .i64 0, .int .i64 0].toList) :: [(V6.heap.size, #[.int .i64 0, .int .i64 0].toList)]))) => And.intro (And.intro (x.kept (k := V6.heap.size) (l := [.int .i64 0, .int .i64 0]) (by simp) 0 rfl) (x.kept (k := V6.heap.size) (l := [.int .i64 0, .int .i64 0]) (by simp) 1 rfl)) (And.intro (x.kept (k := V9.heap.size) (l := [.int .i64 0, .int .i64 0]) (by simp) 0 rfl) (x.kept (k := V9.heap.size) (l := [.int .i64 0, .int .i64 0]) (by simp) 1 rfl))
  have hc1 := fun (x : In (Rv W0 A 1 1 woU (setI (setI (List.replicate (8 : Int).toNat 0) oa (na.tmod 256 % 256)) oa (nb.tmod 256 % 256)) ((V9.heap.size, #[.int .i64 0, .int .i64 0].toList) :: [(V6.heap.size, #[.int .i64 0, .int .i64 0].toList)]))) => x.byte hbt.1
  have hc2 := fun (x : In (Rv W0 A 1 1 woU (setI (setI (List.replicate (8 : Int).toNat 0) oa (na.tmod 256 % 256)) oa (nb.tmod 256 % 256)) ((V9.heap.size, #[.int .i64 0, .int .i64 0].toList) :: [(V6.heap.size, #[.int .i64 0, .int .i64 0].toList)]))) => x.byte hbt.2
  have hc3 := fun (x : In (Rv W0 A 1 1 woU (setI (setI (List.replicate (8 : Int).toNat 0) oa (na.tmod 256 % 256)) oa (nb.tmod 256 % 256)) ((V9.heap.size, #[.int .i64 0, .int .i64 0].toList) :: [(V6.heap.size, #[.int .i64 0, .int .i64 0].toList)]))) => x.load (show atI woU 5 = 562949953421312 from rfl)
  have hc4 := fun (x : In (Rv W0 A 1 1 woU (setI (setI (List.replicate (8 : Int).toNat 0) oa (na.tmod 256 % 256)) oa (nb.tmod 256 % 256)) ((V9.heap.size, #[.int .i64 0, .int .i64 0].toList) :: [(V6.heap.size, #[.int .i64 0, .int .i64 0].toList)]))) => x.ret (hlv _ (hH0.below x.ok.bel) (hE0.below x.ok.bel hE0.lt))
  have hend := fun (x : In (Rv W0 A 1 1 woU (setI (setI (List.replicate (8 : Int).toNat 0) oa (na.tmod 256 % 256)) oa (nb.tmod 256 % 256)) ((V9.heap.size, #[.int .i64 0, .int .i64 0].toList) :: [(V6.heap.size, #[.int .i64 0, .int .i64 0].toList)]))) => hB0.trans (x.ok.bel.mono hB0.size)
  clear hv10 hbt p0 p1
  generalize Rv W0 A 1 1 woU (setI (setI (List.replicate (8 : Int).toNat 0) oa (na.tmod 256 % 256)) oa (nb.tmod 256 % 256)) ((V9.heap.size, #[.int .i64 0, .int .i64 0].toList) :: [(V6.heap.size, #[.int .i64 0, .int .i64 0].toList)]) = R at *
  unfold Keeps at hc1 hc2 hc3 hc4
  have HC1 := Lib.hid hc1
  have HC2 := Lib.hid hc2
  have HC3 := Lib.hid hc3
  have HC4 := Lib.hid hc4
  have HEN := Lib.hid hend
  have HLV := Lib.hid hlv
  clear hc1 hc2 hc3 hc4 hend hlv
  refine wp_region_in hR10 (by kernel_rfl) (by kernel_rfl) fun hne => ?_
  repeat (go_big_quiet_step ((first
    | (go_at_call 24; (with_reducible exact HC1.out _))
    | (go_at_call 24; (with_reducible exact HC2.out _))
    | (go_at_call 22; (with_reducible exact HC3.out _))
    | (go_at_call 16; (with_reducible exact HC4.out _)))))
  refine wpQuiet_nil ?_
  rintro _ ⟨x9, rfl⟩
  go_wp2_with fail
  go_ret
  exact Ret.mk rfl (HEN.out x9)
set_option maxHeartbeats 8000000 in
set_option maxRecDepth 8000 in
theorem twice_ne {da ha oa na db hb ob nb : Int} (p0 : 0 ≤ oa) (p1 : oa ≤ 7) (q0 : 0 ≤ ob) (q1 : ob ≤ 7) (he : ¬ oa = ob) {w : World} (hH : HasHead w) (hE : HasFields w) :
    Calls Tryd.prog 6 #[.agg #[.int .i64 da, .int .i64 ha, .int .i64 oa, .int .i64 na], .agg #[.int .i64 db, .int .i64 hb, .int .i64 ob, .int .i64 nb]] w (Ret w (.bool true)) := by
  have hB0 : Below w.heap.size w (((w.alloc (.cells #[.int .i64 da, .int .i64 ha, .int .i64 oa, .int .i64 na] 52)).alloc (.cells #[.int .i64 db, .int .i64 hb, .int .i64 ob, .int .i64 nb] 52)).alloc (.cells #[.int .i64 8, .int .i64 1, .int .i64 1] 26)) := (((Below.refl _ _).alloc (Nat.le_refl _) _).alloc (by simp) _).alloc (by simp; omega) _
  have hA0 : Fs (((w.alloc (.cells #[.int .i64 da, .int .i64 ha, .int .i64 oa, .int .i64 na] 52)).alloc (.cells #[.int .i64 db, .int .i64 hb, .int .i64 ob, .int .i64 nb] 52)).alloc (.cells #[.int .i64 8, .int .i64 1, .int .i64 1] 26)) w.heap.size [.int .i64 da, .int .i64 ha, .int .i64 oa, .int .i64 na] := ((Fs.new' _ _ rfl rfl).alloc _).alloc _
  have hb0 : Fs (((w.alloc (.cells #[.int .i64 da, .int .i64 ha, .int .i64 oa, .int .i64 na] 52)).alloc (.cells #[.int .i64 db, .int .i64 hb, .int .i64 ob, .int .i64 nb] 52)).alloc (.cells #[.int .i64 8, .int .i64 1, .int .i64 1] 26)) (w.heap.size + 1) [.int .i64 db, .int .i64 hb, .int .i64 ob, .int .i64 nb] := (Fs.new' _ _ (by simp) rfl).alloc _
  have hc0 : Fs (((w.alloc (.cells #[.int .i64 da, .int .i64 ha, .int .i64 oa, .int .i64 na] 52)).alloc (.cells #[.int .i64 db, .int .i64 hb, .int .i64 ob, .int .i64 nb] 52)).alloc (.cells #[.int .i64 8, .int .i64 1, .int .i64 1] 26)) (w.heap.size + 1 + 1) [.int .i64 8, .int .i64 1, .int .i64 1] := Fs.new' _ _ (by simp) rfl
  have hst := start_yes 8 1 1 (by decide) (((w.alloc (.cells #[.int .i64 da, .int .i64 ha, .int .i64 oa, .int .i64 na] 52)).alloc (.cells #[.int .i64 db, .int .i64 hb, .int .i64 ob, .int .i64 nb] 52)).alloc (.cells #[.int .i64 8, .int .i64 1, .int .i64 1] 26)) (((hH.alloc _).alloc _).alloc _)
  have hE0 := ((hE.alloc (.cells #[.int .i64 da, .int .i64 ha, .int .i64 oa, .int .i64 na] 52)).alloc (.cells #[.int .i64 db, .int .i64 hb, .int .i64 ob, .int .i64 nb] 52)).alloc (.cells #[.int .i64 8, .int .i64 1, .int .i64 1] 26)
  have hH0 := ((hH.alloc (.cells #[.int .i64 da, .int .i64 ha, .int .i64 oa, .int .i64 na] 52)).alloc (.cells #[.int .i64 db, .int .i64 hb, .int .i64 ob, .int .i64 nb] 52)).alloc (.cells #[.int .i64 8, .int .i64 1, .int .i64 1] 26)
  have hmk := fun W => Make_same 0 0 W
  rw [mk00.1, mk00.2] at hmk
  have hlv := fun W => wlive_any W
  go_enter Tryd.func6, Tryd.ntmps6
  go_wp2_with fail
  generalize ((w.alloc (.cells #[.int .i64 da, .int .i64 ha, .int .i64 oa, .int .i64 na] 52)).alloc (.cells #[.int .i64 db, .int .i64 hb, .int .i64 ob, .int .i64 nb] 52)).alloc (.cells #[.int .i64 8, .int .i64 1, .int .i64 1] 26) = W0 at *
  obtain ⟨M1, h10, e1⟩ := wo_run (off := oa) (b := na) (wd := 0) (ba := 0) (bs := List.replicate (8 : Int).toNat 0) p0 p1
  obtain ⟨M2, h20, e2⟩ := wo_run (off := ob) (b := nb) (wd := 0) (ba := 0) (bs := setI (List.replicate (8 : Int).toNat 0) oa (na % 256)) q0 q1
  have n1 := fun W => wnew_yes 8 1 1 1099511627776 oa na (by decide) W
  have n2 := fun W => wnew_yes 8 1 1 1099511627776 ob nb (by decide) W
  rw [wo_new] at n1 n2
  have r1 := fun (W : World) (A : PAt) (K : List (Nat × List Value)) (k : Nat) (h : Rv W0 A 1 1 woU (List.replicate (8 : Int).toNat 0) K W) (hk : A.hi ≤ k) hK (hP : Fs W k (wmL 1 1 ⟨true, 0, 0, oa, na, 1, 0, 0, 0⟩)) => rvwRun 10 10 rfl (by decide) h hk hK hP (show (0 : Int) ≤ 1 ∧ (1 : Int) ≤ 6 by decide) e1
  have r2 := fun (W : World) (A : PAt) (K : List (Nat × List Value)) (k : Nat) (h : Rv W0 A 1 1 woU (setI (List.replicate (8 : Int).toNat 0) oa (na % 256)) K W) (hk : A.hi ≤ k) hK (hP : Fs W k (wmL 1 1 ⟨true, 0, 0, ob, nb, 1, 0, 0, 0⟩)) => rvwRun 10 10 rfl (by decide) h hk hK hP (show (0 : Int) ≤ 1 ∧ (1 : Int) ≤ 6 by decide) e2
  obtain ⟨ta1, ta2, ta3⟩ := tmod_bd na
  obtain ⟨tb1, tb2, tb3⟩ := tmod_bd nb
  clear ta3 tb3 e1 e2
  go_wp2_with (first
    | (go_at_call 13; (with_reducible refine hst.mono ?_); rintro _ V1 ⟨A, rfl, hlo, hB1, ws, n, hM1, hlen, hat⟩; have hws := words_of 1 1 wo0 (by decide) (by decide +kernel) ws hlen hat; subst hws; have hv1 := Rv.begin (t := 1) (s := 1) hE0 hlo hB1 hM1 (by decide); have ga := hA0.below hv1.bel hA0.lt; have gb := hb0.below hv1.bel hb0.lt; have gc := hc0.below hv1.bel hc0.lt; have ga2 := ga.at' 2 rfl; have ga3 := ga.at' 3 rfl; have gb2 := gb.at' 2 rfl; have gb3 := gb.at' 3 rfl; have gc0 := gc.at' 0 rfl; have gc1 := gc.at' 1 rfl; have gc2 := gc.at' 2 rfl; clear ga gb gc)
    | (go_at_call 14; (with_reducible refine (hmk _).mono ?_); rintro _ _ ⟨rfl, rfl⟩)
    | (go_at_call 17; (with_reducible refine (rvStore hv1 _ _).mono ?_); rintro _ V2 ⟨rfl, hv2, -⟩; clear ga2 ga3 gb2 gb3 gc0 gc1 gc2 hv1)
    | (go_at_call 17; (with_reducible refine (rvStore hv2 _ _).mono ?_); rintro _ V3 ⟨rfl, hv3, -⟩; rw [wo_free] at hv3; have ga := hA0.below hv3.bel hA0.lt; have gb := hb0.below hv3.bel hb0.lt; have gc := hc0.below hv3.bel hc0.lt; have ga2 := ga.at' 2 rfl; have ga3 := ga.at' 3 rfl; have gb2 := gb.at' 2 rfl; have gb3 := gb.at' 3 rfl; have gc0 := gc.at' 0 rfl; have gc1 := gc.at' 1 rfl; have gc2 := gc.at' 2 rfl; clear ga gb gc; clear hv2)
    | (go_at_call 18; (with_reducible refine (n1 _).mono ?_); rintro _ V5 ⟨k1, rfl, hk1, hb1, hf1⟩; have hv5 := hv3.below hb1; have hh1 := Nat.le_trans hv3.hi_le hk1; clear ga2 ga3 gb2 gb3 gc0 gc1 gc2 hv3)
    | (go_at_call 23; (with_reducible refine (r1 _ _ _ _ hv5 hh1 (fun p hp => absurd hp (by simp)) hf1).mono ?_); rintro _ V6 ⟨rfl, hv6, -, -⟩; have hv7 := hv6.push #[.int .i64 0, .int .i64 0] 41; clear hv5 hv6; have ga := hA0.below hv7.bel hA0.lt; have gb := hb0.below hv7.bel hb0.lt; have gc := hc0.below hv7.bel hc0.lt; have ga2 := ga.at' 2 rfl; have ga3 := ga.at' 3 rfl; have gb2 := gb.at' 2 rfl; have gb3 := gb.at' 3 rfl; have gc0 := gc.at' 0 rfl; have gc1 := gc.at' 1 rfl; have gc2 := gc.at' 2 rfl; clear ga gb gc)
    | (go_at_call 18; (with_reducible refine (n2 _).mono ?_); rintro _ V8 ⟨k2, rfl, hk2, hb2, hf2⟩; have hv8 := hv7.below hb2; have hh2 := Nat.le_trans hv7.hi_le hk2; go_loud (have hK2 : ∀ p ∈ [(V6.heap.size, (#[.int .i64 0, .int .i64 0] : Array Value).toList)], p.1 ≠ k2 := (fun p hp => by have := (hv7.keep p hp).1.lt; omega)))
    | (go_at_call 23; (with_reducible refine (r2 _ _ _ _ hv8 hh2 hK2 hf2).mono ?_); rintro _ V9 ⟨rfl, hv9, -, -⟩; have hv10 := hv9.push #[.int .i64 0, .int .i64 0] 41; clear ga2 ga3 gb2 gb3 gc0 gc1 gc2 hv7 hv8 hv9; have ga := hA0.below hv10.bel hA0.lt; have gb := hb0.below hv10.bel hb0.lt; have gc := hc0.below hv10.bel hc0.lt; have ga2 := ga.at' 2 rfl; have ga3 := ga.at' 3 rfl; have gb2 := gb.at' 2 rfl; have gb3 := gb.at' 3 rfl; have gc0 := gc.at' 0 rfl; have gc1 := gc.at' 1 rfl; have gc2 := gc.at' 2 rfl; clear ga gb gc))
  clear ga2 ga3 gb2 gb3 gc0 gc1 gc2 hst hmk n1 n2 r1 r2
  have hbt := two_at (l := List.replicate (8 : Int).toNat 0) (by decide) (x := na % 256) (y := nb % 256) p0 p1 q0 q1
  rw [back_mod na, back_mod nb, if_neg he] at hbt
  rw [back_mod na, back_mod nb] at hv10
  have hR10 := hv10.drew
  have ha2 := fun (x : In (Rv W0 A 1 1 woU (setI (setI (List.replicate (8 : Int).toNat 0) oa (na.tmod 256 % 256)) ob (nb.tmod 256 % 256)) ((V9.heap.size, #[.int .i64 0, .int .i64 0].toList) :: [(V6.heap.size, #[.int .i64 0, .int .i64 0].toList)]))) => And.intro (x.base hA0 2 rfl) (And.intro (x.base hb0 2 rfl) (x.base hb0 3 rfl))
  have hr2 := fun (x : In (Rv W0 A 1 1 woU (setI (setI (List.replicate (8 : Int).toNat 0) oa (na.tmod 256 % 256)) ob (nb.tmod 256 % 256)) ((V9.heap.size, #[.int .i64 0, .int .i64 0].toList) :: [(V6.heap.size, #[.int .i64 0, .int .i64 0].toList)]))) => And.intro (And.intro (x.kept (k := V6.heap.size) (l := [.int .i64 0, .int .i64 0]) (by simp) 0 rfl) (x.kept (k := V6.heap.size) (l := [.int .i64 0, .int .i64 0]) (by simp) 1 rfl)) (And.intro (x.kept (k := V9.heap.size) (l := [.int .i64 0, .int .i64 0]) (by simp) 0 rfl) (x.kept (k := V9.heap.size) (l := [.int .i64 0, .int .i64 0]) (by simp) 1 rfl))
  have hc1 := fun (x : In (Rv W0 A 1 1 woU (setI (setI (List.replicate (8 : Int).toNat 0) oa (na.tmod 256 % 256)) ob (nb.tmod 256 % 256)) ((V9.heap.size, #[.int .i64 0, .int .i64 0].toList) :: [(V6.heap.size, #[.int .i64 0, .int .i64 0].toList)]))) => x.byte hbt.1
  have hc2 := fun (x : In (Rv W0 A 1 1 woU (setI (setI (List.replicate (8 : Int).toNat 0) oa (na.tmod 256 % 256)) ob (nb.tmod 256 % 256)) ((V9.heap.size, #[.int .i64 0, .int .i64 0].toList) :: [(V6.heap.size, #[.int .i64 0, .int .i64 0].toList)]))) => x.byte hbt.2
  have hc3 := fun (x : In (Rv W0 A 1 1 woU (setI (setI (List.replicate (8 : Int).toNat 0) oa (na.tmod 256 % 256)) ob (nb.tmod 256 % 256)) ((V9.heap.size, #[.int .i64 0, .int .i64 0].toList) :: [(V6.heap.size, #[.int .i64 0, .int .i64 0].toList)]))) => x.load (show atI woU 5 = 562949953421312 from rfl)
  have hc4 := fun (x : In (Rv W0 A 1 1 woU (setI (setI (List.replicate (8 : Int).toNat 0) oa (na.tmod 256 % 256)) ob (nb.tmod 256 % 256)) ((V9.heap.size, #[.int .i64 0, .int .i64 0].toList) :: [(V6.heap.size, #[.int .i64 0, .int .i64 0].toList)]))) => x.ret (hlv _ (hH0.below x.ok.bel) (hE0.below x.ok.bel hE0.lt))
  have hend := fun (x : In (Rv W0 A 1 1 woU (setI (setI (List.replicate (8 : Int).toNat 0) oa (na.tmod 256 % 256)) ob (nb.tmod 256 % 256)) ((V9.heap.size, #[.int .i64 0, .int .i64 0].toList) :: [(V6.heap.size, #[.int .i64 0, .int .i64 0].toList)]))) => hB0.trans (x.ok.bel.mono hB0.size)
  clear hv10 hbt p0 p1 q0 q1
  generalize Rv W0 A 1 1 woU (setI (setI (List.replicate (8 : Int).toNat 0) oa (na.tmod 256 % 256)) ob (nb.tmod 256 % 256)) ((V9.heap.size, #[.int .i64 0, .int .i64 0].toList) :: [(V6.heap.size, #[.int .i64 0, .int .i64 0].toList)]) = R at *
  unfold Keeps at hc1 hc2 hc3 hc4
  have HC1 := Lib.hid hc1
  have HC2 := Lib.hid hc2
  have HC3 := Lib.hid hc3
  have HC4 := Lib.hid hc4
  have HEN := Lib.hid hend
  have HLV := Lib.hid hlv
  clear hc1 hc2 hc3 hc4 hend hlv
  refine wp_region_in hR10 (by kernel_rfl) (by kernel_rfl) fun hne => ?_
  repeat (go_big_quiet_step ((first
    | (go_at_call 24; (with_reducible exact HC1.out _))
    | (go_at_call 24; (with_reducible exact HC2.out _))
    | (go_at_call 22; (with_reducible exact HC3.out _))
    | (go_at_call 16; (with_reducible exact HC4.out _)))))
  refine wpQuiet_nil ?_
  rintro _ ⟨x9, rfl⟩
  go_wp2_with fail
  go_ret
  exact Ret.mk rfl (HEN.out x9)
set_option maxHeartbeats 4000000 in
theorem twice_n1 {da ha oa na db hb ob nb : Int} (h : oa < 0) {w : World} (hH : HasHead w) (hE : HasFields w) :
    Calls Tryd.prog 6 #[.agg #[.int .i64 da, .int .i64 ha, .int .i64 oa, .int .i64 na], .agg #[.int .i64 db, .int .i64 hb, .int .i64 ob, .int .i64 nb]] w (Ret w (.bool true)) := by
  have hB0 : Below w.heap.size w (((w.alloc (.cells #[.int .i64 da, .int .i64 ha, .int .i64 oa, .int .i64 na] 52)).alloc (.cells #[.int .i64 db, .int .i64 hb, .int .i64 ob, .int .i64 nb] 52)).alloc (.cells #[.int .i64 8, .int .i64 1, .int .i64 1] 26)) := (((Below.refl _ _).alloc (Nat.le_refl _) _).alloc (by simp) _).alloc (by simp; omega) _
  have hA0 : Fs (((w.alloc (.cells #[.int .i64 da, .int .i64 ha, .int .i64 oa, .int .i64 na] 52)).alloc (.cells #[.int .i64 db, .int .i64 hb, .int .i64 ob, .int .i64 nb] 52)).alloc (.cells #[.int .i64 8, .int .i64 1, .int .i64 1] 26)) w.heap.size [.int .i64 da, .int .i64 ha, .int .i64 oa, .int .i64 na] := ((Fs.new' _ _ rfl rfl).alloc _).alloc _
  have hb0 : Fs (((w.alloc (.cells #[.int .i64 da, .int .i64 ha, .int .i64 oa, .int .i64 na] 52)).alloc (.cells #[.int .i64 db, .int .i64 hb, .int .i64 ob, .int .i64 nb] 52)).alloc (.cells #[.int .i64 8, .int .i64 1, .int .i64 1] 26)) (w.heap.size + 1) [.int .i64 db, .int .i64 hb, .int .i64 ob, .int .i64 nb] := (Fs.new' _ _ (by simp) rfl).alloc _
  have hc0 : Fs (((w.alloc (.cells #[.int .i64 da, .int .i64 ha, .int .i64 oa, .int .i64 na] 52)).alloc (.cells #[.int .i64 db, .int .i64 hb, .int .i64 ob, .int .i64 nb] 52)).alloc (.cells #[.int .i64 8, .int .i64 1, .int .i64 1] 26)) (w.heap.size + 1 + 1) [.int .i64 8, .int .i64 1, .int .i64 1] := Fs.new' _ _ (by simp) rfl
  have hst := start_yes 8 1 1 (by decide) (((w.alloc (.cells #[.int .i64 da, .int .i64 ha, .int .i64 oa, .int .i64 na] 52)).alloc (.cells #[.int .i64 db, .int .i64 hb, .int .i64 ob, .int .i64 nb] 52)).alloc (.cells #[.int .i64 8, .int .i64 1, .int .i64 1] 26)) (((hH.alloc _).alloc _).alloc _)
  have hE0 := ((hE.alloc (.cells #[.int .i64 da, .int .i64 ha, .int .i64 oa, .int .i64 na] 52)).alloc (.cells #[.int .i64 db, .int .i64 hb, .int .i64 ob, .int .i64 nb] 52)).alloc (.cells #[.int .i64 8, .int .i64 1, .int .i64 1] 26)
  have hH0 := ((hH.alloc (.cells #[.int .i64 da, .int .i64 ha, .int .i64 oa, .int .i64 na] 52)).alloc (.cells #[.int .i64 db, .int .i64 hb, .int .i64 ob, .int .i64 nb] 52)).alloc (.cells #[.int .i64 8, .int .i64 1, .int .i64 1] 26)
  have hmk := fun W => Make_same 0 0 W
  rw [mk00.1, mk00.2] at hmk
  have hlv := fun W => wlive_any W
  go_enter Tryd.func6, Tryd.ntmps6
  go_wp2_with fail
  generalize ((w.alloc (.cells #[.int .i64 da, .int .i64 ha, .int .i64 oa, .int .i64 na] 52)).alloc (.cells #[.int .i64 db, .int .i64 hb, .int .i64 ob, .int .i64 nb] 52)).alloc (.cells #[.int .i64 8, .int .i64 1, .int .i64 1] 26) = W0 at *
  go_wp2_with (first
    | (go_at_call 13; (with_reducible refine hst.mono ?_); rintro _ V1 ⟨A, rfl, hlo, hB1, ws, n, hM1, hlen, hat⟩; have hws := words_of 1 1 wo0 (by decide) (by decide +kernel) ws hlen hat; subst hws; have hv1 := Rv.begin (t := 1) (s := 1) hE0 hlo hB1 hM1 (by decide); have ga := hA0.below hv1.bel hA0.lt; have gb := hb0.below hv1.bel hb0.lt; have gc := hc0.below hv1.bel hc0.lt; have ga2 := ga.at' 2 rfl; have ga3 := ga.at' 3 rfl; have gb2 := gb.at' 2 rfl; have gb3 := gb.at' 3 rfl; have gc0 := gc.at' 0 rfl; have gc1 := gc.at' 1 rfl; have gc2 := gc.at' 2 rfl; clear ga gb gc)
    | (go_at_call 14; (with_reducible refine (hmk _).mono ?_); rintro _ _ ⟨rfl, rfl⟩)
    | (go_at_call 16; (with_reducible refine (hlv _ (hH0.below hv1.bel) (hE0.below hv1.bel hE0.lt)).mono ?_); rintro _ _ ⟨rfl, x5, rfl⟩))
  go_ret
  exact Ret.mk rfl (hB0.trans ((x5.cat hv1.bel hv1.bel.size).mono hB0.size))
set_option maxHeartbeats 4000000 in
theorem twice_n2 {da ha oa na db hb ob nb : Int} (h0 : ¬ oa < 0) (h : 7 < oa) {w : World} (hH : HasHead w) (hE : HasFields w) :
    Calls Tryd.prog 6 #[.agg #[.int .i64 da, .int .i64 ha, .int .i64 oa, .int .i64 na], .agg #[.int .i64 db, .int .i64 hb, .int .i64 ob, .int .i64 nb]] w (Ret w (.bool true)) := by
  have hB0 : Below w.heap.size w (((w.alloc (.cells #[.int .i64 da, .int .i64 ha, .int .i64 oa, .int .i64 na] 52)).alloc (.cells #[.int .i64 db, .int .i64 hb, .int .i64 ob, .int .i64 nb] 52)).alloc (.cells #[.int .i64 8, .int .i64 1, .int .i64 1] 26)) := (((Below.refl _ _).alloc (Nat.le_refl _) _).alloc (by simp) _).alloc (by simp; omega) _
  have hA0 : Fs (((w.alloc (.cells #[.int .i64 da, .int .i64 ha, .int .i64 oa, .int .i64 na] 52)).alloc (.cells #[.int .i64 db, .int .i64 hb, .int .i64 ob, .int .i64 nb] 52)).alloc (.cells #[.int .i64 8, .int .i64 1, .int .i64 1] 26)) w.heap.size [.int .i64 da, .int .i64 ha, .int .i64 oa, .int .i64 na] := ((Fs.new' _ _ rfl rfl).alloc _).alloc _
  have hb0 : Fs (((w.alloc (.cells #[.int .i64 da, .int .i64 ha, .int .i64 oa, .int .i64 na] 52)).alloc (.cells #[.int .i64 db, .int .i64 hb, .int .i64 ob, .int .i64 nb] 52)).alloc (.cells #[.int .i64 8, .int .i64 1, .int .i64 1] 26)) (w.heap.size + 1) [.int .i64 db, .int .i64 hb, .int .i64 ob, .int .i64 nb] := (Fs.new' _ _ (by simp) rfl).alloc _
  have hc0 : Fs (((w.alloc (.cells #[.int .i64 da, .int .i64 ha, .int .i64 oa, .int .i64 na] 52)).alloc (.cells #[.int .i64 db, .int .i64 hb, .int .i64 ob, .int .i64 nb] 52)).alloc (.cells #[.int .i64 8, .int .i64 1, .int .i64 1] 26)) (w.heap.size + 1 + 1) [.int .i64 8, .int .i64 1, .int .i64 1] := Fs.new' _ _ (by simp) rfl
  have hst := start_yes 8 1 1 (by decide) (((w.alloc (.cells #[.int .i64 da, .int .i64 ha, .int .i64 oa, .int .i64 na] 52)).alloc (.cells #[.int .i64 db, .int .i64 hb, .int .i64 ob, .int .i64 nb] 52)).alloc (.cells #[.int .i64 8, .int .i64 1, .int .i64 1] 26)) (((hH.alloc _).alloc _).alloc _)
  have hE0 := ((hE.alloc (.cells #[.int .i64 da, .int .i64 ha, .int .i64 oa, .int .i64 na] 52)).alloc (.cells #[.int .i64 db, .int .i64 hb, .int .i64 ob, .int .i64 nb] 52)).alloc (.cells #[.int .i64 8, .int .i64 1, .int .i64 1] 26)
  have hH0 := ((hH.alloc (.cells #[.int .i64 da, .int .i64 ha, .int .i64 oa, .int .i64 na] 52)).alloc (.cells #[.int .i64 db, .int .i64 hb, .int .i64 ob, .int .i64 nb] 52)).alloc (.cells #[.int .i64 8, .int .i64 1, .int .i64 1] 26)
  have hmk := fun W => Make_same 0 0 W
  rw [mk00.1, mk00.2] at hmk
  have hlv := fun W => wlive_any W
  go_enter Tryd.func6, Tryd.ntmps6
  go_wp2_with fail
  generalize ((w.alloc (.cells #[.int .i64 da, .int .i64 ha, .int .i64 oa, .int .i64 na] 52)).alloc (.cells #[.int .i64 db, .int .i64 hb, .int .i64 ob, .int .i64 nb] 52)).alloc (.cells #[.int .i64 8, .int .i64 1, .int .i64 1] 26) = W0 at *
  go_wp2_with (first
    | (go_at_call 13; (with_reducible refine hst.mono ?_); rintro _ V1 ⟨A, rfl, hlo, hB1, ws, n, hM1, hlen, hat⟩; have hws := words_of 1 1 wo0 (by decide) (by decide +kernel) ws hlen hat; subst hws; have hv1 := Rv.begin (t := 1) (s := 1) hE0 hlo hB1 hM1 (by decide); have ga := hA0.below hv1.bel hA0.lt; have gb := hb0.below hv1.bel hb0.lt; have gc := hc0.below hv1.bel hc0.lt; have ga2 := ga.at' 2 rfl; have ga3 := ga.at' 3 rfl; have gb2 := gb.at' 2 rfl; have gb3 := gb.at' 3 rfl; have gc0 := gc.at' 0 rfl; have gc1 := gc.at' 1 rfl; have gc2 := gc.at' 2 rfl; clear ga gb gc)
    | (go_at_call 14; (with_reducible refine (hmk _).mono ?_); rintro _ _ ⟨rfl, rfl⟩)
    | (go_at_call 16; (with_reducible refine (hlv _ (hH0.below hv1.bel) (hE0.below hv1.bel hE0.lt)).mono ?_); rintro _ _ ⟨rfl, x5, rfl⟩))
  go_ret
  exact Ret.mk rfl (hB0.trans ((x5.cat hv1.bel hv1.bel.size).mono hB0.size))
set_option maxHeartbeats 4000000 in
theorem twice_n3 {da ha oa na db hb ob nb : Int} (h0 : ¬ oa < 0) (h1 : ¬ 7 < oa) (h : ob < 0) {w : World} (hH : HasHead w) (hE : HasFields w) :
    Calls Tryd.prog 6 #[.agg #[.int .i64 da, .int .i64 ha, .int .i64 oa, .int .i64 na], .agg #[.int .i64 db, .int .i64 hb, .int .i64 ob, .int .i64 nb]] w (Ret w (.bool true)) := by
  have hB0 : Below w.heap.size w (((w.alloc (.cells #[.int .i64 da, .int .i64 ha, .int .i64 oa, .int .i64 na] 52)).alloc (.cells #[.int .i64 db, .int .i64 hb, .int .i64 ob, .int .i64 nb] 52)).alloc (.cells #[.int .i64 8, .int .i64 1, .int .i64 1] 26)) := (((Below.refl _ _).alloc (Nat.le_refl _) _).alloc (by simp) _).alloc (by simp; omega) _
  have hA0 : Fs (((w.alloc (.cells #[.int .i64 da, .int .i64 ha, .int .i64 oa, .int .i64 na] 52)).alloc (.cells #[.int .i64 db, .int .i64 hb, .int .i64 ob, .int .i64 nb] 52)).alloc (.cells #[.int .i64 8, .int .i64 1, .int .i64 1] 26)) w.heap.size [.int .i64 da, .int .i64 ha, .int .i64 oa, .int .i64 na] := ((Fs.new' _ _ rfl rfl).alloc _).alloc _
  have hb0 : Fs (((w.alloc (.cells #[.int .i64 da, .int .i64 ha, .int .i64 oa, .int .i64 na] 52)).alloc (.cells #[.int .i64 db, .int .i64 hb, .int .i64 ob, .int .i64 nb] 52)).alloc (.cells #[.int .i64 8, .int .i64 1, .int .i64 1] 26)) (w.heap.size + 1) [.int .i64 db, .int .i64 hb, .int .i64 ob, .int .i64 nb] := (Fs.new' _ _ (by simp) rfl).alloc _
  have hc0 : Fs (((w.alloc (.cells #[.int .i64 da, .int .i64 ha, .int .i64 oa, .int .i64 na] 52)).alloc (.cells #[.int .i64 db, .int .i64 hb, .int .i64 ob, .int .i64 nb] 52)).alloc (.cells #[.int .i64 8, .int .i64 1, .int .i64 1] 26)) (w.heap.size + 1 + 1) [.int .i64 8, .int .i64 1, .int .i64 1] := Fs.new' _ _ (by simp) rfl
  have hst := start_yes 8 1 1 (by decide) (((w.alloc (.cells #[.int .i64 da, .int .i64 ha, .int .i64 oa, .int .i64 na] 52)).alloc (.cells #[.int .i64 db, .int .i64 hb, .int .i64 ob, .int .i64 nb] 52)).alloc (.cells #[.int .i64 8, .int .i64 1, .int .i64 1] 26)) (((hH.alloc _).alloc _).alloc _)
  have hE0 := ((hE.alloc (.cells #[.int .i64 da, .int .i64 ha, .int .i64 oa, .int .i64 na] 52)).alloc (.cells #[.int .i64 db, .int .i64 hb, .int .i64 ob, .int .i64 nb] 52)).alloc (.cells #[.int .i64 8, .int .i64 1, .int .i64 1] 26)
  have hH0 := ((hH.alloc (.cells #[.int .i64 da, .int .i64 ha, .int .i64 oa, .int .i64 na] 52)).alloc (.cells #[.int .i64 db, .int .i64 hb, .int .i64 ob, .int .i64 nb] 52)).alloc (.cells #[.int .i64 8, .int .i64 1, .int .i64 1] 26)
  have hmk := fun W => Make_same 0 0 W
  rw [mk00.1, mk00.2] at hmk
  have hlv := fun W => wlive_any W
  go_enter Tryd.func6, Tryd.ntmps6
  go_wp2_with fail
  generalize ((w.alloc (.cells #[.int .i64 da, .int .i64 ha, .int .i64 oa, .int .i64 na] 52)).alloc (.cells #[.int .i64 db, .int .i64 hb, .int .i64 ob, .int .i64 nb] 52)).alloc (.cells #[.int .i64 8, .int .i64 1, .int .i64 1] 26) = W0 at *
  go_wp2_with (first
    | (go_at_call 13; (with_reducible refine hst.mono ?_); rintro _ V1 ⟨A, rfl, hlo, hB1, ws, n, hM1, hlen, hat⟩; have hws := words_of 1 1 wo0 (by decide) (by decide +kernel) ws hlen hat; subst hws; have hv1 := Rv.begin (t := 1) (s := 1) hE0 hlo hB1 hM1 (by decide); have ga := hA0.below hv1.bel hA0.lt; have gb := hb0.below hv1.bel hb0.lt; have gc := hc0.below hv1.bel hc0.lt; have ga2 := ga.at' 2 rfl; have ga3 := ga.at' 3 rfl; have gb2 := gb.at' 2 rfl; have gb3 := gb.at' 3 rfl; have gc0 := gc.at' 0 rfl; have gc1 := gc.at' 1 rfl; have gc2 := gc.at' 2 rfl; clear ga gb gc)
    | (go_at_call 14; (with_reducible refine (hmk _).mono ?_); rintro _ _ ⟨rfl, rfl⟩)
    | (go_at_call 16; (with_reducible refine (hlv _ (hH0.below hv1.bel) (hE0.below hv1.bel hE0.lt)).mono ?_); rintro _ _ ⟨rfl, x5, rfl⟩))
  go_ret
  exact Ret.mk rfl (hB0.trans ((x5.cat hv1.bel hv1.bel.size).mono hB0.size))
set_option maxHeartbeats 4000000 in
theorem twice_n4 {da ha oa na db hb ob nb : Int} (h0 : ¬ oa < 0) (h1 : ¬ 7 < oa) (h2 : ¬ ob < 0) (h : 7 < ob) {w : World} (hH : HasHead w) (hE : HasFields w) :
    Calls Tryd.prog 6 #[.agg #[.int .i64 da, .int .i64 ha, .int .i64 oa, .int .i64 na], .agg #[.int .i64 db, .int .i64 hb, .int .i64 ob, .int .i64 nb]] w (Ret w (.bool true)) := by
  have hB0 : Below w.heap.size w (((w.alloc (.cells #[.int .i64 da, .int .i64 ha, .int .i64 oa, .int .i64 na] 52)).alloc (.cells #[.int .i64 db, .int .i64 hb, .int .i64 ob, .int .i64 nb] 52)).alloc (.cells #[.int .i64 8, .int .i64 1, .int .i64 1] 26)) := (((Below.refl _ _).alloc (Nat.le_refl _) _).alloc (by simp) _).alloc (by simp; omega) _
  have hA0 : Fs (((w.alloc (.cells #[.int .i64 da, .int .i64 ha, .int .i64 oa, .int .i64 na] 52)).alloc (.cells #[.int .i64 db, .int .i64 hb, .int .i64 ob, .int .i64 nb] 52)).alloc (.cells #[.int .i64 8, .int .i64 1, .int .i64 1] 26)) w.heap.size [.int .i64 da, .int .i64 ha, .int .i64 oa, .int .i64 na] := ((Fs.new' _ _ rfl rfl).alloc _).alloc _
  have hb0 : Fs (((w.alloc (.cells #[.int .i64 da, .int .i64 ha, .int .i64 oa, .int .i64 na] 52)).alloc (.cells #[.int .i64 db, .int .i64 hb, .int .i64 ob, .int .i64 nb] 52)).alloc (.cells #[.int .i64 8, .int .i64 1, .int .i64 1] 26)) (w.heap.size + 1) [.int .i64 db, .int .i64 hb, .int .i64 ob, .int .i64 nb] := (Fs.new' _ _ (by simp) rfl).alloc _
  have hc0 : Fs (((w.alloc (.cells #[.int .i64 da, .int .i64 ha, .int .i64 oa, .int .i64 na] 52)).alloc (.cells #[.int .i64 db, .int .i64 hb, .int .i64 ob, .int .i64 nb] 52)).alloc (.cells #[.int .i64 8, .int .i64 1, .int .i64 1] 26)) (w.heap.size + 1 + 1) [.int .i64 8, .int .i64 1, .int .i64 1] := Fs.new' _ _ (by simp) rfl
  have hst := start_yes 8 1 1 (by decide) (((w.alloc (.cells #[.int .i64 da, .int .i64 ha, .int .i64 oa, .int .i64 na] 52)).alloc (.cells #[.int .i64 db, .int .i64 hb, .int .i64 ob, .int .i64 nb] 52)).alloc (.cells #[.int .i64 8, .int .i64 1, .int .i64 1] 26)) (((hH.alloc _).alloc _).alloc _)
  have hE0 := ((hE.alloc (.cells #[.int .i64 da, .int .i64 ha, .int .i64 oa, .int .i64 na] 52)).alloc (.cells #[.int .i64 db, .int .i64 hb, .int .i64 ob, .int .i64 nb] 52)).alloc (.cells #[.int .i64 8, .int .i64 1, .int .i64 1] 26)
  have hH0 := ((hH.alloc (.cells #[.int .i64 da, .int .i64 ha, .int .i64 oa, .int .i64 na] 52)).alloc (.cells #[.int .i64 db, .int .i64 hb, .int .i64 ob, .int .i64 nb] 52)).alloc (.cells #[.int .i64 8, .int .i64 1, .int .i64 1] 26)
  have hmk := fun W => Make_same 0 0 W
  rw [mk00.1, mk00.2] at hmk
  have hlv := fun W => wlive_any W
  go_enter Tryd.func6, Tryd.ntmps6
  go_wp2_with fail
  generalize ((w.alloc (.cells #[.int .i64 da, .int .i64 ha, .int .i64 oa, .int .i64 na] 52)).alloc (.cells #[.int .i64 db, .int .i64 hb, .int .i64 ob, .int .i64 nb] 52)).alloc (.cells #[.int .i64 8, .int .i64 1, .int .i64 1] 26) = W0 at *
  go_wp2_with (first
    | (go_at_call 13; (with_reducible refine hst.mono ?_); rintro _ V1 ⟨A, rfl, hlo, hB1, ws, n, hM1, hlen, hat⟩; have hws := words_of 1 1 wo0 (by decide) (by decide +kernel) ws hlen hat; subst hws; have hv1 := Rv.begin (t := 1) (s := 1) hE0 hlo hB1 hM1 (by decide); have ga := hA0.below hv1.bel hA0.lt; have gb := hb0.below hv1.bel hb0.lt; have gc := hc0.below hv1.bel hc0.lt; have ga2 := ga.at' 2 rfl; have ga3 := ga.at' 3 rfl; have gb2 := gb.at' 2 rfl; have gb3 := gb.at' 3 rfl; have gc0 := gc.at' 0 rfl; have gc1 := gc.at' 1 rfl; have gc2 := gc.at' 2 rfl; clear ga gb gc)
    | (go_at_call 14; (with_reducible refine (hmk _).mono ?_); rintro _ _ ⟨rfl, rfl⟩)
    | (go_at_call 16; (with_reducible refine (hlv _ (hH0.below hv1.bel) (hE0.below hv1.bel hE0.lt)).mono ?_); rintro _ _ ⟨rfl, x5, rfl⟩))
  go_ret
  exact Ret.mk rfl (hB0.trans ((x5.cat hv1.bel hv1.bel.size).mono hB0.size))
theorem WriteTwice_walk {da ha oa na db hb ob nb : Int} {w : World} (hH : HasHead w) (hE : HasFields w) :
    Calls Tryd.prog 6 #[.agg #[.int .i64 da, .int .i64 ha, .int .i64 oa, .int .i64 na], .agg #[.int .i64 db, .int .i64 hb, .int .i64 ob, .int .i64 nb]] w (Ret w (.bool true)) := by
  by_cases h1 : oa < 0
  · exact twice_n1 h1 hH hE
  · by_cases h2 : 7 < oa
    · exact twice_n2 h1 h2 hH hE
    · by_cases h3 : ob < 0
      · exact twice_n3 h1 h2 h3 hH hE
      · by_cases h4 : 7 < ob
        · exact twice_n4 h1 h2 h3 h4 hH hE
        · by_cases he : oa = ob
          · subst he; exact twice_eq (by omega) (by omega) hH hE
          · exact twice_ne (by omega) (by omega) (by omega) (by omega) he hH hE
end Go.Proofs.YtnojemmpgaibkaaDoor
