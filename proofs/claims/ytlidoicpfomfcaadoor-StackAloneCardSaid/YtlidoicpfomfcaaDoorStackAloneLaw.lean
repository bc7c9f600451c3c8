/-
  The walk of StackAlone.
  Conditions: none but that the tables read as they are laid; that live answers true.
-/
import Derived.Test.YtlidoicpfomfcaaDoorStRound
namespace Go.Proofs.YtlidoicpfomfcaaDoor
open Go.RowKit
attribute [local go_sem] Later.cell Later.frozen Later.lt Later.le
set_option linter.unusedVariables false

theorem alone_no (a s t : Int) (w : World) (hlive : ∀ W, HasHead W → Calls Tryd.prog 8 #[] W (Ret W (.bool true))) (hF : HasHead w) (h : mayC a s t = false) :
    Calls Tryd.prog 5 #[.agg #[.int .i64 a, .int .i64 s, .int .i64 t]] w (Ret w (.bool true)) := by
  have hst := start_no a s t h _ (hF.alloc (.cells #[.int .i64 a, .int .i64 s, .int .i64 t] 23))
  have hmay := fun W => rMay_no h W
  go_enter Tryd.func5, Tryd.ntmps5
  go_wp2_with (first
    | (go_at_call 9; (with_reducible refine hst.mono ?_); rintro _ _ ⟨rfl, x1, rfl⟩)
    | (go_at_call 10; (with_reducible refine (hmay _).mono ?_); rintro _ _ ⟨rfl, x2, rfl⟩; have hB : Below w.heap.size w x2.at' := x2.cat (x1.boxed.alloc (x1.le w.heap.size (by simp)) _) (by have := x1.le w.heap.size (by simp); simp; omega))
    | (go_at_call 8; (with_reducible refine (hlive _ (hF.below hB)).mono ?_); rintro _ _ ⟨rfl, x3, rfl⟩))
  go_ret
  exact Ret.mk rfl (x3.cat hB hB.size)
/-- The loop's relation: so many are taken. -/
def AlRel (A : PAt) (V : World) (t s : Int) (bs : List Int) (u : Value) (wr : World) : Prop :=
  ∃ k : Nat, (k : Int) ≤ s ∧ u = .int .i64 k ∧ Touch A.lo A.hi V wr ∧ ∃ ws n, Mem wr A ws bs n ∧ GiW t s k 0 ws

set_option maxHeartbeats 8000000 in
set_option maxRecDepth 4000 in
theorem alone_yes (a s t : Int) (w : World) (hlive : ∀ W, HasHead W → Calls Tryd.prog 8 #[] W (Ret W (.bool true))) (hF : HasHead w) (h : mayC a s t = true) :
    Calls Tryd.prog 5 #[.agg #[.int .i64 a, .int .i64 s, .int .i64 t]] w (Ret w (.bool true)) := by
  have hst := start_yes a s t h _ (hF.alloc (.cells #[.int .i64 a, .int .i64 s, .int .i64 t] 23))
  obtain ⟨-, -, -, s0, s64, t0, t4⟩ := mayC_iff.1 h
  go_enter Tryd.func5, Tryd.ntmps5
  go_wp2_with (first
    | (go_at_call 9; (with_reducible refine hst.mono ?_); rintro _ W1 ⟨A, rfl, hlo, hB1, ws, bs, n, hM1, hlen, hat⟩))
  rw [World.size_alloc] at hlo
  have hz1 := hB1.size
  rw [World.size_alloc] at hz1
  have hB2 : Below w.heap.size w (W1.alloc (.cells #[.int .i64 t, .int .i64 s] 31)) := (((Below.refl _ _).alloc (Nat.le_refl _) _).trans (hB1.mono (by simp))).alloc (by omega) _
  have hc1 : Fs (W1.alloc (.cells #[.int .i64 t, .int .i64 s] 31)) w.heap.size [.int .i64 a, .int .i64 s, .int .i64 t] := ((Fs.new' _ _ rfl rfl : Fs (w.alloc (.cells #[.int .i64 a, .int .i64 s, .int .i64 t] 23)) _ _).below hB1 (by simp)).alloc _
  have hl1 : Fs (W1.alloc (.cells #[.int .i64 t, .int .i64 s] 31)) W1.heap.size [.int .i64 t, .int .i64 s] := Fs.new' _ _ rfl rfl
  have hM2 := hM1.alloc (.cells #[.int .i64 t, .int .i64 s] 31)
  have hG := gi_start t0 hlen hat s0
  have hlh : A.hi ≤ W1.heap.size := hM1.hs
  have hwc : w.heap.size < A.lo := by omega
  have g0 : 0 < A.lo := by have := hF.lt0; omega
  have g1 : 1 < A.lo := by have := hF.lt1; omega
  generalize W1.alloc (.cells #[.int .i64 t, .int .i64 s] 31) = V at *
  generalize W1.heap.size = bl at *
  have HB := Lib.hid hB2
  have hFV := hF.below hB2
  clear hst h hlen hat hM1 hB1 hB2 hz1
  go_loopw [5] (fun u wr => AlRel A V t s bs u wr) (fun u _ => (s + 1 - intOf u).toNat)
  case atStart => exact ⟨0, by omega, rfl, Touch.refl _ _ _, ws, n, hM2, hG⟩
  case round =>
    obtain ⟨k, hk, rfl, hT, ws, n, hM, hW⟩ := hrel
    clear hG hM2
    have hFr := hFV.touch hT g0 g1
    have hc := hc1.touch hT (Or.inl hwc)
    have hl := hl1.touch hT (Or.inr hlh)
    have hwd := gi_wd hW t0 s0 s64 hk (Nat.zero_le _)
    have hx := (hwd 1).2
    have c1 : wr.cell? ⟨w.heap.size, 1, none⟩ = some (.int .i64 s) := hc.at' 1 rfl
    have l0 : wr.cell? ⟨bl, 0, none⟩ = some (.int .i64 t) := hl.at' 0 rfl
    have l1 : wr.cell? ⟨bl, 1, none⟩ = some (.int .i64 s) := hl.at' 1 rfl
    have HWD := Lib.hid hwd
    have HW := Lib.hid hW
    have HX := Lib.hid hx
    have HK := Lib.hid hk
    clear hwd hx
    by_cases hks : (k : Int) < s
    · have d2 : ((k : Int) == s) = false := beq_false_of_ne (by omega)
      have hk0 : (0 : Int) ≤ k := by omega
      have p1 := fun kp W (h : Rd wr A bs kp (popL t s ⟨0, 0, 0, 0, 0⟩) ws W) => rdPop t0 t4 s0 s64 HX.out (by decide) (gi_p1 HW.out s64 hks) h
      have p2 := fun kp W (h : Rd wr A bs kp (popL t s (gP1 k)) ws W) => rdPop t0 t4 s0 s64 HX.out (by show (k : Int) + 1 + k * 1048576 ≤ 9223372036854775807; omega) (gi_p2 HW.out t0 s64 hks) h
      have p3 := fun kp W (h : Rd wr A bs kp (popL t s (gP2 s k)) ws W) => rdPop t0 t4 s0 s64 HX.out (by show (k : Int) + 1 + k * 1048576 ≤ 9223372036854775807; omega) (gi_p3 HW.out t0 s0 hks) h
      have HT := Lib.hid (gi_take HW.out t0 s0)
      generalize setI ws 1 (frTop s (k + 1) + ((k : Int) + 1) * 1048576) = ws' at p3 HT
      have HKS := Lib.hid hks
      clear hW
      unfold ifc at p1 p2 p3
      go_wp2_with (first
        | (go_at_call 20; (with_reducible refine (NewPop_any t s _).mono ?_); rintro _ W2 ⟨kp, rfl, hk1, hb2, hf2⟩; have hr0 := Rd.begin hFr g0 g1 hM hk1 hb2 hf2)
        | (go_at_call 22; (refine (p1 _ _ hr0).mono ?_); rintro _ W3 ⟨rfl, hr1⟩; have e1 : W3.cell? ⟨w.heap.size, 1, none⟩ = some (.int .i64 s) := (hc.touch hr1.mv (Or.inl hwc)).at' 1 rfl; clear hr0)
        | (go_at_call 22; (refine (p2 _ _ hr1).mono ?_); rintro _ W4 ⟨rfl, hr2⟩; clear hr1)
        | (go_at_call 22; (refine (p3 _ _ hr2).mono ?_); rintro _ W5 ⟨rfl, hr3⟩; clear hr2))
      go_roundw
      case rel => exact ⟨k + 1, by have := HKS.out; omega, by go_num, hT.trans hr3.mv, ws', _, hr3.mem.choose_spec, HT.out⟩
      case measure => have := HKS.out; simp [intOf]; omega
    · have ek : (k : Int) = s := by omega
      have d2 : ((k : Int) == s) = true := by rw [ek]; simp
      have d1 : decide ((k : Int) ≤ s) = true := decide_eq_true hk
      have p1 := fun kp W (h : Rd wr A bs kp (popL t s ⟨0, 0, 0, 0, 0⟩) ws W) => rdPop t0 t4 s0 s64 HX.out (by decide) (gi_p0 HW.out s64 ek) h
      have f1 := fun kp L W (h : Rd wr A bs kp L ws W) => rdFree t0 t4 s0 s64 HWD.out h
      rw [gi_none HW.out s64 ek] at f1
      clear hks hk hW ek
      unfold ifc at p1 f1
      go_wp2_with (first
        | (go_at_call 20; (with_reducible refine (NewPop_any t s _).mono ?_); rintro _ W2 ⟨kp, rfl, hk1, hb2, hf2⟩; have hr0 := Rd.begin hFr g0 g1 hM hk1 hb2 hf2)
        | (go_at_call 22; (refine (p1 _ _ hr0).mono ?_); rintro _ W3 ⟨rfl, hr1⟩; have e1 : W3.cell? ⟨w.heap.size, 1, none⟩ = some (.int .i64 s) := (hc.touch hr1.mv (Or.inl hwc)).at' 1 rfl; have m0 : W3.cell? ⟨bl, 0, none⟩ = some (.int .i64 t) := (hl.touch hr1.mv (Or.inr hlh)).at' 0 rfl; have m1 : W3.cell? ⟨bl, 1, none⟩ = some (.int .i64 s) := (hl.touch hr1.mv (Or.inr hlh)).at' 1 rfl; clear hr0)
        | (go_at_call 18; (refine (f1 _ _ _ hr1).mono ?_); rintro _ W4 ⟨v, rfl, ht4, hm4, hi4⟩; obtain ⟨p, cap, rfl⟩ := ints_len hi4; have hB4 := (hT.trans ht4).below HB.out (by omega) HB.out.size)
        | (go_at_call 8; (with_reducible refine (hlive _ (hF.below hB4)).mono ?_); rintro _ _ ⟨rfl, x5, rfl⟩))
      go_ret
      exact Ret.mk rfl (x5.cat hB4 hB4.size)
theorem StackAlone_walk {a s t : Int} {w : World} (hlive : ∀ W, HasHead W → Calls Tryd.prog 8 #[] W (Ret W (.bool true))) (hF : HasHead w) :
    Calls Tryd.prog 5 #[.agg #[.int .i64 a, .int .i64 s, .int .i64 t]] w (Ret w (.bool true)) := by
  cases h : mayC a s t
  · exact alone_no a s t w hlive hF h
  · exact alone_yes a s t w hlive hF h
end Go.Proofs.YtlidoicpfomfcaaDoor
