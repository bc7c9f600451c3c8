/-
  The walk of StackLifo.
  Conditions: none but that the tables read as they are laid; that live answers true.
-/
import Derived.Test.YtlidoicpfomfcaaDoorStRound
import Derived.Test.YtlidoicpfomfcaaDoorLayFreeMore
namespace Go.Proofs.YtlidoicpfomfcaaDoor
open Go.RowKit
attribute [local go_sem] Later.cell Later.frozen Later.lt Later.le
set_option linter.unusedVariables false

theorem lifo_no (a s t n : Int) (w : World) (hlive : ∀ W, HasHead W → Calls Tryd.prog 8 #[] W (Ret W (.bool true))) (hF : HasHead w) (h : mayC a s t = false) :
    Calls Tryd.prog 7 #[.agg #[.int .i64 a, .int .i64 s, .int .i64 t], .int .i64 n] w (Ret w (.bool true)) := by
  have hst := start_no a s t h _ (hF.alloc (.cells #[.int .i64 a, .int .i64 s, .int .i64 t] 23))
  have hmay := fun W => rMay_no h W
  go_enter Tryd.func7, Tryd.ntmps7
  go_wp2_with (first
    | (go_at_call 9; (with_reducible refine hst.mono ?_); rintro _ _ ⟨rfl, x1, rfl⟩)
    | (go_at_call 10; (with_reducible refine (hmay _).mono ?_); rintro _ _ ⟨rfl, x2, rfl⟩; have hB : Below w.heap.size w x2.at' := x2.cat (x1.boxed.alloc (x1.le w.heap.size (by simp)) _) (by have := x1.le w.heap.size (by simp); simp; omega))
    | (go_at_call 8; (with_reducible refine (hlive _ (hF.below hB)).mono ?_); rintro _ _ ⟨rfl, x3, rfl⟩))
  go_ret
  exact Ret.mk rfl (x3.cat hB hB.size)
set_option maxRecDepth 4000 in
theorem lifo_out (a s t n : Int) (w : World) (hlive : ∀ W, HasHead W → Calls Tryd.prog 8 #[] W (Ret W (.bool true))) (hF : HasHead w) (h : mayC a s t = true) (hn : ¬ (0 ≤ n ∧ n ≤ s)) :
    Calls Tryd.prog 7 #[.agg #[.int .i64 a, .int .i64 s, .int .i64 t], .int .i64 n] w (Ret w (.bool true)) := by
  have hst := start_yes a s t h _ (hF.alloc (.cells #[.int .i64 a, .int .i64 s, .int .i64 t] 23))
  have hc1 : Fs (w.alloc (.cells #[.int .i64 a, .int .i64 s, .int .i64 t] 23)) w.heap.size [.int .i64 a, .int .i64 s, .int .i64 t] := Fs.new' _ _ rfl rfl
  by_cases hn0 : 0 ≤ n
  · have hn1 : s < n := by omega
    clear hn
    go_enter Tryd.func7, Tryd.ntmps7
    go_wp2_with (first
      | (go_at_call 9; (with_reducible refine hst.mono ?_); rintro _ W1 ⟨A, rfl, hlo, hB1, ws, bs, m, hM1, hlen, hat⟩; have hz1 := hB1.size; have hc2 := (hc1.below hB1 (by simp)).alloc (.cells #[.int .i64 t, .int .i64 s] 31); have e1 : (W1.alloc (.cells #[.int .i64 t, .int .i64 s] 31)).cell? ⟨w.heap.size, 1, none⟩ = some (.int .i64 s) := hc2.at' 1 rfl; have hB : Below w.heap.size w (W1.alloc (.cells #[.int .i64 t, .int .i64 s] 31)) := (((Below.refl _ _).alloc (Nat.le_refl _) _).trans (hB1.mono (by simp))).alloc (by rw [World.size_alloc] at hz1; omega) _; clear hM1 hlen hat hlo hc2 hB1 hz1)
      | (go_at_call 8; (with_reducible refine (hlive _ (hF.below hB)).mono ?_); rintro _ _ ⟨rfl, x3, rfl⟩))
    go_ret
    exact Ret.mk rfl (x3.cat hB hB.size)
  · have hn1 : n < 0 := by omega
    clear hn hn0
    go_enter Tryd.func7, Tryd.ntmps7
    go_wp2_with (first
      | (go_at_call 9; (with_reducible refine hst.mono ?_); rintro _ W1 ⟨A, rfl, hlo, hB1, ws, bs, m, hM1, hlen, hat⟩; have hz1 := hB1.size; have hB : Below w.heap.size w (W1.alloc (.cells #[.int .i64 t, .int .i64 s] 31)) := (((Below.refl _ _).alloc (Nat.le_refl _) _).trans (hB1.mono (by simp))).alloc (by rw [World.size_alloc] at hz1; omega) _; clear hM1 hlen hat hlo hB1 hz1)
      | (go_at_call 8; (with_reducible refine (hlive _ (hF.below hB)).mono ?_); rintro _ _ ⟨rfl, x3, rfl⟩))
    go_ret
    exact Ret.mk rfl (x3.cat hB hB.size)
/-- The first loop's relation: so many are taken; the second one's: so many are given back. -/
def LiRel (A : PAt) (V : World) (t s : Int) (bs : List Int) (N : Nat) (u v : Value) (wr : World) : Prop :=
  ∃ k : Nat, k ≤ N ∧ v = .int .i64 k ∧ Touch A.lo A.hi V wr ∧ Ints wr V.heap.size u (upto k) ∧ ∃ ws n, Mem wr A ws bs n ∧ GiW t s k 0 ws
def LjRel (A : PAt) (V : World) (t s : Int) (bs : List Int) (N : Nat) (u v : Value) (wr : World) : Prop :=
  ∃ k : Nat, k ≤ N ∧ v = .int .i64 k ∧ Touch A.lo A.hi V wr ∧ Ints wr V.heap.size u (upto N) ∧ ∃ ws n, Mem wr A ws bs n ∧ GiW t s N k ws
theorem upto_open {w : World} {base k : Nat} {u : Value} (h : Ints w base u (upto k)) (hk : 0 < k) : ∃ g cap, u = .slice (some ⟨g, 0, none⟩) k cap ∧ base ≤ g ∧ g < w.heap.size ∧ ∀ j, j < k → w.cell? ⟨g, j, none⟩ = some (.int .i64 j) := by
  obtain ⟨g, cap, hv, hg, hl, hc⟩ := h.open' (fun e => by have := congrArg List.length e; rw [upto_len, List.length_nil] at this; omega)
  rw [upto_len] at hv hc
  exact ⟨g, cap, hv, hg, hl, fun j hj => by rw [hc j hj]; simp [upto, hj]⟩
theorem atI_set_ne {l : List Int} {p v i : Int} (h : i ≠ p) : atI (setI l p v) i = atI l i := by
  by_cases k : inI l p = true
  · rw [atI_set _ _ _ _ k, if_neg h]
  · rw [setI_no (by simpa using k)]
theorem upto_at {N j : Nat} (h : j < N) : (upto N).getD j 0 = j := by simp [upto, h]

set_option maxHeartbeats 16000000 in
set_option maxRecDepth 4000 in
theorem lifo_yes (a s t : Int) (N : Nat) (w : World) (hlive : ∀ W, HasHead W → Calls Tryd.prog 8 #[] W (Ret W (.bool true))) (hF : HasHead w) (h : mayC a s t = true) (hN : (N : Int) ≤ s) :
    Calls Tryd.prog 7 #[.agg #[.int .i64 a, .int .i64 s, .int .i64 t], .int .i64 N] w (Ret w (.bool true)) := by
  have hst := start_yes a s t h _ (hF.alloc (.cells #[.int .i64 a, .int .i64 s, .int .i64 t] 23))
  have hc0 : Fs (w.alloc (.cells #[.int .i64 a, .int .i64 s, .int .i64 t] 23)) w.heap.size [.int .i64 a, .int .i64 s, .int .i64 t] := Fs.new' _ _ rfl rfl
  obtain ⟨-, -, -, s0, s64, t0, t4⟩ := mayC_iff.1 h
  obtain ⟨i9, hi9, hz9, hz1, hz2⟩ := info_parts info_num
  have hN0 : (0 : Int) ≤ N := by omega
  go_enter Tryd.func7, Tryd.ntmps7
  go_wp2_with (first
    | (go_at_call 9; (with_reducible refine hst.mono ?_); rintro _ W1 ⟨A, rfl, hlo, hB1, ws, bs, n, hM1, hlen, hat⟩; have hc01 := (hc0.below hB1 (by simp)).alloc (.cells #[.int .i64 t, .int .i64 s] 31); have e1 : (W1.alloc (.cells #[.int .i64 t, .int .i64 s] 31)).cell? ⟨w.heap.size, 1, none⟩ = some (.int .i64 s) := hc01.at' 1 rfl))
  rw [World.size_alloc] at hlo
  have hz1' := hB1.size
  rw [World.size_alloc] at hz1'
  have hB2 : Below w.heap.size w (W1.alloc (.cells #[.int .i64 t, .int .i64 s] 31)) := (((Below.refl _ _).alloc (Nat.le_refl _) _).trans (hB1.mono (by simp))).alloc (by omega) _
  have hl1 : Fs (W1.alloc (.cells #[.int .i64 t, .int .i64 s] 31)) W1.heap.size [.int .i64 t, .int .i64 s] := Fs.new' _ _ rfl rfl
  have hM2 := hM1.alloc (.cells #[.int .i64 t, .int .i64 s] 31)
  have hG := gi_start t0 hlen hat s0
  have hlh : A.hi ≤ W1.heap.size := hM1.hs
  have hwc : w.heap.size < A.lo := by omega
  have g0 : 0 < A.lo := by have := hF.lt0; omega
  have g1 : 1 < A.lo := by have := hF.lt1; omega
  clear e1
  generalize W1.alloc (.cells #[.int .i64 t, .int .i64 s] 31) = V at *
  generalize W1.heap.size = bl at *
  have HB := Lib.hid hB2
  have hFV := hF.below hB2
  have hAV : A.hi ≤ V.heap.size := hM2.hs
  clear hst h hlen hat hM1 hB1 hB2 hz1' hc0
  go_loopw [7, 8] (fun u v wr => LiRel A V t s bs N u v wr) (fun _ v _ => (N - intOf v).toNat)
  case atStart => exact ⟨0, by omega, rfl, Touch.refl _ _ _, Ints.nil _ _, ws, n, hM2, hG⟩
  case round =>
    obtain ⟨k, hk, rfl, hT, hI, ws, n, hM, hW⟩ := hrel
    clear hG hM2
    have hFr := hFV.touch hT g0 g1
    have hl := hl1.touch hT (Or.inr hlh)
    have hwd := gi_wd hW t0 s0 s64 (by omega) (Nat.zero_le _)
    have hx := (hwd 1).2
    have l0 : wr.cell? ⟨bl, 0, none⟩ = some (.int .i64 t) := hl.at' 0 rfl
    have l1 : wr.cell? ⟨bl, 1, none⟩ = some (.int .i64 s) := hl.at' 1 rfl
    have HW := Lib.hid hW
    have HX := Lib.hid hx
    clear hwd hx hW
    by_cases hkN : (k : Int) < N
    · have hks : (k : Int) < s := by omega
      have p1 := fun kp W (h : Rd wr A bs kp (popL t s ⟨0, 0, 0, 0, 0⟩) ws W) => rdPop t0 t4 s0 s64 HX.out (by decide) (gi_p1 HW.out s64 hks) h
      have p2 := fun kp W (h : Rd wr A bs kp (popL t s (gP1 k)) ws W) => rdPop t0 t4 s0 s64 HX.out (by show (k : Int) + 1 + k * 1048576 ≤ 9223372036854775807; omega) (gi_p2 HW.out t0 s64 hks) h
      have p3 := fun kp W (h : Rd wr A bs kp (popL t s (gP2 s k)) ws W) => rdPop t0 t4 s0 s64 HX.out (by show (k : Int) + 1 + k * 1048576 ≤ 9223372036854775807; omega) (gi_p3 HW.out t0 s0 hks) h
      have HT := Lib.hid (gi_take HW.out t0 s0)
      generalize setI ws 1 (frTop s (k + 1) + ((k : Int) + 1) * 1048576) = ws' at p3 HT
      unfold ifc at p1 p2 p3
      go_wp2_with (first
        | (go_at_call 20; (with_reducible refine (NewPop_any t s _).mono ?_); rintro _ W2 ⟨kp, rfl, hk1, hb2, hf2⟩; have hr0 := Rd.begin hFr g0 g1 hM hk1 hb2 hf2)
        | (go_at_call 22; (refine (p1 _ _ hr0).mono ?_); rintro _ W3 ⟨rfl, hr1⟩; clear hr0)
        | (go_at_call 22; (refine (p2 _ _ hr1).mono ?_); rintro _ W4 ⟨rfl, hr2⟩; clear hr1)
        | (go_at_call 22; (refine (p3 _ _ hr2).mono ?_); rintro _ W5 ⟨rfl, hr3⟩; clear hr2)
        | (at_builtin; refine wpList_append_own _ rfl _ _ 48 rfl V.heap.size 3 i9 (.int .i64 0) 1 8 Tryd.underlying48 hi9 hz9 hz1 hz2 rfl (by decide) _ _ _ rfl ((hI.touch hr3.mv hAV).alloc _) ⟨W5.heap.size, 0, none⟩ 1 1 [.int .i64 k] rfl rfl (cell_one_new _ _ _) (fun u hu => by simp at hu; subst hu; rfl) (by rw [upto_len]; unfold maxLen; omega) (by rw [upto_len]; omega) (by have := hT.size; have := hr3.mv.size; simp; omega) ?_; intro v' w4 hown' hgrow _; obtain ⟨y, rfl, hM6, hI6⟩ := grown_turn (⟨W5, hT.trans hr3.mv⟩ : Turned A.lo A.hi V) hr3.mem.choose_spec (hI.touch hr3.mv hAV) hAV hgrow hown'; clear hgrow hown'))
      go_roundw
      case rel => exact ⟨k + 1, by omega, by go_num, y.turn, by rw [upto_succ]; exact hI6, ws', _, hM6, HT.out⟩
      case measure => simp [intOf]; omega
    · have ek : k = N := by omega
      subst ek
      have hge : ¬ (k : Int) < k := by omega
      have hTA := Lib.hid hT
      have HIA := Lib.hid hI
      have hNA := Lib.hid hN
      have HM := Lib.hid hM
      clear hk hkN hge
      go_wp2_with fail
      have hz3 := hT.size
      clear hI hM HX hFr hl l0 l1
      go_loopw [13] (fun v wr2 => LjRel A V t s bs k u7 v wr2) (fun v _ => (k - intOf v).toNat)
      case atStart => exact ⟨0, by omega, rfl, hTA.out, HIA.out, ws, n, HM.out, HW.out⟩
      case round =>
        obtain ⟨j, hj, rfl, hT, hI, ws, n, hM, hW⟩ := hrel
        have hFr := hFV.touch hT g0 g1
        have hl := hl1.touch hT (Or.inr hlh)
        have hwd := gi_wd hW t0 s0 s64 hNA.out hj
        have hx := (hwd 1).2
        have l0 : wr.cell? ⟨bl, 0, none⟩ = some (.int .i64 t) := hl.at' 0 rfl
        have l1 : wr.cell? ⟨bl, 1, none⟩ = some (.int .i64 s) := hl.at' 1 rfl
        have HW := Lib.hid hW
        have HX := Lib.hid hx
        have HWD := Lib.hid hwd
        clear hwd hx hW
        have hsz := hT.size
        by_cases hjk : (j : Int) < k
        · obtain ⟨gr, cr, rfl, hgr, hgl, hgc⟩ := upto_open hI (by omega)
          have hcj := hgc j (by omega)
          have hjs : (j : Int) < s := by omega
          have hll := hl.lt
          have q1 := fun kp W (h : Rd wr A bs kp (pushC t s ⟨j, 0, 0, 0, 0⟩) ws W) => rdPush t0 t4 s0 s64 HX.out (gi_q1 HW.out t0 s64 hNA.out (by omega)) h
          have q2 := fun kp W (h : Rd wr A bs kp (pushC t s (gQ1 s k j)) ws W) => rdPush t0 t4 s0 s64 HX.out (gi_q2 (n := k) (ws := ws) hjs t0) h
          have q3 := fun kp W (h : Rd wr A bs kp (pushC t s (gQ2 s k j)) (setI ws (4 + t + j * 3 + 2) (gLink s k j)) W) => rdPush t0 t4 s0 s64 (by rw [atI_set_ne (by omega)]; exact HX.out) (gi_q3 HW.out t0 s0 hjs) h
          have HT := Lib.hid (show GiW t s k (j + 1) (setI (setI ws (4 + t + j * 3 + 2) (gLink s k j)) 1 (gNext k j)) from gi_give HW.out t0 s0 hNA.out (by omega))
          generalize setI (setI ws (4 + t + j * 3 + 2) (gLink s k j)) 1 (gNext k j) = ws3 at q3 HT
          generalize setI ws (4 + t + j * 3 + 2) (gLink s k j) = ws2 at q2 q3
          have hnp := fun W => NewPush_any t s j W
          have kB : ∀ W' : World, Below wr.heap.size wr W' → W'.cell? ⟨bl, 0, none⟩ = some (.int .i64 t) ∧ W'.cell? ⟨bl, 1, none⟩ = some (.int .i64 s) ∧ W'.cell? ⟨gr, j, none⟩ = some (.int .i64 j) ∧ Below wr.heap.size wr W' := fun W' hb => ⟨(hl.below hb hll).at' 0 rfl, (hl.below hb hll).at' 1 rfl, (hb.cell (p := ⟨gr, j, none⟩) hgl).trans hcj, hb⟩
          have HKB := Lib.hid kB
          clear hgc kB
          unfold ifc at q1 q2 q3
          go_wp2_with fail
          go_region_held3 (fun w' => w'.cell? ⟨bl, 0, none⟩ = some (.int .i64 t) ∧ w'.cell? ⟨bl, 1, none⟩ = some (.int .i64 s) ∧ w'.cell? ⟨gr, j, none⟩ = some (.int .i64 j) ∧ Below wr.heap.size wr w') (first
            | exact HKB.out _ (Below.refl _ _)
            | exact HKB.out _ (Below.refl _ _).drew
            | assumption
            | exact HKB.out _ (by assumption)) (first
            | (go_at_call 24; (with_reducible refine (hnp _).mono ?_); rintro _ W2 ⟨kq, rfl, hk1, hb2, hf2⟩; have hb3 : Below wr.heap.size wr W2 := (Below.refl wr.heap.size wr).drew.trans hb2))
          all_goals
            have hr0 := Rd.begin hFr g0 g1 hM hk1 hb3 hf2
            rename_i hHeld
            clear hHeld hcj
            go_wp2_with (first
              | (go_at_call 21; (refine (q1 _ _ hr0).mono ?_); rintro _ W3 ⟨rfl, hr1⟩; clear hr0)
              | (go_at_call 21; (refine (q2 _ _ hr1).mono ?_); rintro _ W4 ⟨rfl, hr2⟩; clear hr1)
              | (go_at_call 21; (refine (q3 _ _ hr2).mono ?_); rintro _ W5 ⟨rfl, hr3⟩; clear hr2))
            go_roundw
            case rel => exact ⟨j + 1, by omega, by go_num, hT.trans hr3.mv, hI.touch hr3.mv hAV, ws3, _, hr3.mem.choose_spec, HT.out⟩
            case measure => simp [intOf]; omega
        · have ej : j = k := by omega
          subst ej
          have hfr := gi_free HW.out t0 s0 s64 hNA.out
          have f1 := Free_any (t := t) (s := s) hFr g0 g1 hM t0 t4 s0 s64 HWD.out
          rw [hfr] at f1
          clear hfr
          unfold ifc at f1
          go_wp2_with (first
            | (go_at_call 18; (with_reducible refine f1.mono ?_); rintro _ W4 ⟨v, rfl, ht4, hm4, hi4⟩))
          have hne : (List.range s.toNat).map (fun m => gO j m - 1) ≠ [] := fun e => by
            have := congrArg List.length e
            rw [List.length_map, List.length_range, List.length_nil] at this
            omega
          obtain ⟨gf, cf, rfl, -, hgf, hcf⟩ := hi4.open' hne
          have hll : ((List.range s.toNat).map (fun m => gO j m - 1)).length = s.toNat := by simp
          rw [hll] at hcf ⊢
          have hI4 := hI.touch ht4 hAV
          have hB4 := (hT.trans ht4).below HB.out (by omega) HB.out.size
          have HB4 := Lib.hid hB4
          have hc4 : W4.cell? ⟨w.heap.size, 1, none⟩ = some (.int .i64 s) := (hc01.touch (hT.trans ht4) (Or.inl hwc)).at' 1 rfl
          have hlw : w.heap.size < W4.heap.size := (hc01.touch (hT.trans ht4) (Or.inl hwc)).lt
          have HCF := Lib.hid (show ∀ m r : Nat, (m : Int) < s → gO j m - 1 = r → W4.cell? ⟨gf, m, none⟩ = some (.int .i64 r) from fun m r hm hr => by
            have hm' : m < s.toNat := by omega
            have he : ((List.range s.toNat).map (fun m => gO j m - 1)).getD m 0 = r := by simp [hm', hr]
            rw [hcf m hm', he])
          have hS9 : ((s.toNat : Nat) : Int) = s := by omega
          have d3 : (((s.toNat : Nat) : Int) == s) = true := by rw [hS9]; simp
          generalize s.toNat = S at d3 hS9 ⊢
          clear hcf hll hne f1 hi4 hM hFr hl l0 l1 hB4
          go_loopw [18] (fun v wr3 => ∃ m : Nat, m ≤ j ∧ v = .int .i64 m ∧ ∃ y : Later W4, wr3 = y.at') (fun v _ => (j - intOf v).toNat)
          case atStart => exact ⟨0, by omega, rfl, ⟨W4, Below.refl _ _⟩, rfl⟩
          case round =>
            obtain ⟨m, hm, rfl, y, rfl⟩ := hrel
            by_cases hmj : (m : Int) < j
            · obtain ⟨gr, cr, rfl, hgr, hgl, hgc⟩ := upto_open hI4 (by omega)
              have e1 := hgc (j - 1 - m) (by omega)
              have e2 := HCF.out m (j - 1 - m) (by have := hNA.out; omega) (by unfold gO; rw [if_pos (by omega)]; omega)
              have er : (j : Int) - 1 - m = ((j - 1 - m : Nat) : Int) := by omega
              have er2 : j - 1 - m < j := by omega
              have hms : m < S := by have := hNA.out; omega
              generalize j - 1 - m = r at e1 e2 er er2
              clear hgc
              go_wp2_with fail
              refine wp_region_later' y (by kernel_rfl) (by kernel_rfl) ?_
              repeat (go_big_quiet_step (fail))
              refine wpQuiet_nil ?_
              rintro _ ⟨z, rfl⟩
              go_wp2
              go_roundw
              case rel => exact ⟨m + 1, by omega, by go_num, z, rfl⟩
              case measure => simp [intOf]; omega
            · have em : m = j := by omega
              subst em
              have hcy : y.at'.cell? ⟨w.heap.size, 1, none⟩ = some (.int .i64 s) := (y.cell _ _ _ hlw).trans hc4
              have hBy := y.cat HB4.out HB4.out.size
              go_wp2_with (first
                | (go_at_call 8; (with_reducible refine (hlive _ (hF.below hBy)).mono ?_); rintro _ _ ⟨rfl, x5, rfl⟩))
              go_ret
              exact Ret.mk rfl (x5.cat hBy hBy.size)
theorem StackLifo_walk {a s t n : Int} {w : World} (hlive : ∀ W, HasHead W → Calls Tryd.prog 8 #[] W (Ret W (.bool true))) (hF : HasHead w) :
    Calls Tryd.prog 7 #[.agg #[.int .i64 a, .int .i64 s, .int .i64 t], .int .i64 n] w (Ret w (.bool true)) := by
  cases h : mayC a s t
  · exact lifo_no a s t n w hlive hF h
  · by_cases hn : 0 ≤ n ∧ n ≤ s
    · obtain ⟨N, rfl⟩ := Int.eq_ofNat_of_zero_le hn.1
      exact lifo_yes a s t N w hlive hF h hn.2
    · exact lifo_out a s t n w hlive hF h hn
end Go.Proofs.YtlidoicpfomfcaaDoor
