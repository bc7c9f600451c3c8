/-
  What is free, as the document tells it.
  Conditions: none but that its cells lie there, of a configuration that may be.
-/
import Derived.Test.YtlidoicpfomfcaaDoorStPair
import Derived.Test.YtlidoicpfomfcaaDoorRfStart
namespace Go.Proofs.YtlidoicpfomfcaaDoor
open Go.RowKit
attribute [local go_sem] Later.cell Later.frozen Later.lt Later.le
set_option linter.unusedVariables false

section
variable {w : World} {p q : Nat} {bv : Value} {ws : List Int} {n a s t : Int}
/-- What is known all along. -/
structure RfI (V : World) (g p q : Nat) (bv : Value) (a s t : Int) (ws : List Int) (u : Value) (l : List Int) (w' : World) : Prop where
  fs : Fs w' g [.int .i64 a, .int .i64 s, .int .i64 t]
  rm : ∃ n, RMem w' p q bv ws n
  bel : Below V.heap.size V w'
  own : Ints w' V.heap.size u l
theorem RfI.later {V W : World} {g : Nat} {u : Value} {l : List Int} (h : RfI V g p q bv a s t ws u l W) (y : Later W) : RfI V g p q bv a s t ws u l y.at' := ⟨h.fs.later y, h.rm.imp fun _ k => k.later y, y.cat h.bel h.bel.size, h.own.later y⟩
theorem RfI.more {V W w4 : World} {g : Nat} {u u' : Value} {l : List Int} {o : Obj} {x : Int} (h : RfI V g p q bv a s t ws u l W) (hg : g < V.heap.size) (hp : p < V.heap.size) (hq : q < V.heap.size)
    (hgr : (W.alloc o).grownBy w4 u.ownBlock) (hO : w4.ownsRow V.heap.size 3 1 u' (l.length + 1) (l.map (Value.int .i64) ++ [Value.int .i64 x])) : RfI V g p q bv a s t ws u' (l ++ [x]) w4 := by
  have hr : ∀ k, u.ownBlock = some k → V.heap.size ≤ k := fun k hk => (World.ownsRow.lt h.own k hk).1
  have hb : ∀ k, k < W.heap.size → k < V.heap.size → w4.heap[k]? = W.heap[k]? := fun k hk hkv => by
    rw [hgr.block k (by simp; omega) (fun e => by have := hr k e.symm; omega)]
    exact ((Below.refl W.heap.size W).alloc (Nat.le_refl _) o).block k hk
  have hz : W.heap.size ≤ w4.heap.size := Nat.le_trans (by simp) hgr.size
  exact ⟨h.fs.of_block hz (hb g h.fs.lt hg), h.rm.imp fun _ k => k.of_block hz (hb p k.fp.lt hp) (hb q k.lq hq), (h.bel.alloc h.bel.size o).grown hgr (by have := h.bel.size; simp; omega) hr, Ints.more hO rfl⟩

/-- The loop's relation. -/
def RlRel (V : World) (g p q : Nat) (bv : Value) (a s t : Int) (ws L : List Int) (u v i : Value) (wr : World) : Prop :=
  ∃ (l : List Int) (x : Int), v = .int .i64 x ∧ i = .int .i64 l.length ∧ (l.length : Int) ≤ s ∧ l ++ freeF t s ws (s.toNat - l.length) x = L ∧ RfI V g p q bv a s t ws u l wr

set_option maxHeartbeats 8000000 in
theorem refFree_any (h : mayC a s t = true) (hR : RMem w p q bv ws n) (hl : (ws.length : Int) = wordsN t s) (hW : Wd ws) :
    Calls Tryd.prog 19 #[.agg #[.int .i64 a, .int .i64 s, .int .i64 t], .pointer (some ⟨p, 0, none⟩)] w fun e w' => ∃ v, e = .returned v ∧ Below w.heap.size w w' ∧ Ints w' w.heap.size v (freeL t s ws) := by
  have hmay := fun W => rMay_yes h W
  have ha7 := fun i W => at7 h i W
  obtain ⟨-, -, -, s0, s64, t0, t4⟩ := mayC_iff.1 h
  have hx := (hW 1).2
  have hun := fun W => refHUnpack_any (atI ws 1) hx W
  have hl1 : 1 < ws.length := by unfold wordsN at hl; omega
  have hx1 : ws.getD 1 0 = atI ws 1 := by
    have := atI_nat ws 1
    simpa using this.symm
  have hFL := Lib.hid (show freeL t s ws = if heB (atI ws 1) then freeF t s ws s.toNat (atI ws 1 % 1048576) else [] from rfl)
  have c0 : w.cell? ⟨p, 0, none⟩ = some (.slice (some ⟨q, 0, none⟩) ws.length ws.length) := hR.fp.at' 0 rfl
  have q1 : w.cell? ⟨q, 1, none⟩ = some (.int .i64 (atI ws 1)) := by
    have := hR.row.cell hl1
    rw [hx1] at this
    exact this
  have hpl := hR.fp.lt
  have hql := hR.lq
  generalize atI ws 1 = x at hx hun hFL q1
  have hlc := Lib.hid hl
  clear hx1 h hl
  go_enter Tryd.func19, Tryd.ntmps19
  go_wp2_with (first
    | (go_at_call 10; (with_reducible refine (hmay _).mono ?_); rintro _ _ ⟨rfl, x1, rfl⟩; have hb1 := x1.boxed; have hR1 := hR.below hb1 hpl hql; have hP1 : Fs x1.at' w.heap.size [.int .i64 a, .int .i64 s, .int .i64 t] := (Fs.new' _ _ rfl rfl : Fs (w.alloc (.cells #[.int .i64 a, .int .i64 s, .int .i64 t] 23)) _ _).later x1; have d0 : x1.at'.cell? ⟨p, 0, none⟩ = some (.slice (some ⟨q, 0, none⟩) ws.length ws.length) := hR1.fp.at' 0 rfl; have d1 : x1.at'.cell? ⟨q, 1, none⟩ = some (.int .i64 x) := (hb1.cell (p := ⟨q, 1, none⟩) hql).trans q1)
    | (go_at_call 42; (with_reducible refine (hun _).mono ?_); rintro _ _ ⟨rfl, rfl⟩))
  obtain ⟨i9, hi9, hz9, hz1, hz2⟩ := info_parts info_num
  have hgV : w.heap.size < x1.at'.heap.size := hP1.lt
  have hpV : p < x1.at'.heap.size := hR1.fp.lt
  have hqV : q < x1.at'.heap.size := hR1.lq
  have hbV := Lib.hid hb1
  generalize x1.at' = V at *
  have E0 := Lib.hid (show ([] : List Int) ++ freeF t s ws (s.toNat - ([] : List Int).length) (heT x) = freeL t s ws from by
    rw [hFL.out]
    cases hb : heB x
    · rw [heT_bad hb, if_neg (by decide)]
      exact freeF_out _ (by omega)
    · rw [heT_ok hb, if_pos rfl]
      rfl)
  generalize heT x = tp at E0 ⊢
  clear hun hFL hmay d0 d1 c0 q1 hx hb1 x1 hR
  go_loopw [5, 6, 9] (fun u v i wr => RlRel V w.heap.size p q bv a s t ws (freeL t s ws) u v i wr) (fun _ _ i _ => (s - intOf i).toNat)
  case atStart => exact ⟨[], tp, rfl, rfl, by simp; omega, E0.out, ⟨hP1, ⟨n, hR1⟩, Below.refl _ _, Ints.nil _ _⟩⟩
  case round =>
    obtain ⟨l, y, rfl, rfl, hlen, hL, hI⟩ := hrel
    have HL := Lib.hid hL
    have g1 : wr.cell? ⟨w.heap.size, 1, none⟩ = some (.int .i64 s) := hI.fs.at' 1 rfl
    have hszr := hI.bel.size
    clear hL E0
    by_cases hin : 1 ≤ y ∧ y ≤ s
    · by_cases hls : (l.length : Int) < s
      · have hnx : freeF t s ws (s.toNat - l.length) y = (y - 1) :: freeF t s ws (s.toNat - (l.length + 1)) (atI ws (partN t s (y - 1) 2)) := by
          rw [show s.toNat - l.length = (s.toNat - (l.length + 1)) + 1 from by omega]
          exact freeF_in hin
        have hpn : partN t s (y - 1) 2 = 4 + t + (y - 1) * 3 + 2 := partN_in (by omega)
        have hlcc := hlc.out
        unfold wordsN at hlcc
        obtain ⟨k, hk⟩ := Int.eq_ofNat_of_zero_le (show 0 ≤ partN t s (y - 1) 2 by rw [hpn]; omega)
        have hkl : k < ws.length := by omega
        have ha := fun W => ha7 (y - 1) W
        rw [hk] at ha hnx
        rw [atI_nat] at hnx
        have HN := Lib.hid hnx
        have hrow : ∀ W, (∃ n, RMem W p q bv ws n) → W.cell? ⟨q, k, none⟩ = some (.int .i64 (ws.getD k 0)) ∧ W.cell? ⟨p, 0, none⟩ = some (.slice (some ⟨q, 0, none⟩) ws.length ws.length) := fun W ⟨n, r⟩ => ⟨r.row.cell hkl, r.fp.at' 0 rfl⟩
        generalize ws.getD k 0 = j at HN hrow
        have hkl2 : (k : Int) < ws.length := by omega
        obtain ⟨y0, y1⟩ := hin
        have HRW := Lib.hid hrow
        obtain ⟨pu, cap, rfl⟩ := ints_len hI.own
        clear hnx hpn hk hlcc ha7 hrow
        go_wp2_with (first
          | (at_builtin; refine wpList_append_own _ rfl _ _ 48 rfl V.heap.size 3 i9 (.int .i64 0) 1 8 Tryd.underlying48 hi9 hz9 hz1 hz2 rfl (by decide) _ _ _ rfl (hI.own.alloc _) ⟨wr.heap.size, 0, none⟩ 1 1 [.int .i64 (y - 1)] rfl rfl (cell_one_new _ _ _) (fun u hu => by simp at hu; subst hu; rfl) (by unfold maxLen; omega) (by omega) (by simp; omega) ?_; intro v' w4 hown' hgrow _; have hI2 := hI.more hgV hpV hqV hgrow hown'; clear hgrow hown'; have hc := hI2.rm))
        obtain ⟨r1, r2⟩ := HRW.out w4 hI2.rm
        have f0 : w4.cell? ⟨w.heap.size, 0, none⟩ = some (.int .i64 a) := hI2.fs.at' 0 rfl
        have f1 : w4.cell? ⟨w.heap.size, 1, none⟩ = some (.int .i64 s) := hI2.fs.at' 1 rfl
        have f2 : w4.cell? ⟨w.heap.size, 2, none⟩ = some (.int .i64 t) := hI2.fs.at' 2 rfl
        have hlg := hI2.fs.lt
        have hlp : p < w4.heap.size := by have := hI2.bel.size; omega
        have hlq : q < w4.heap.size := by have := hI2.bel.size; omega
        go_wp2_with fail
        refine wp_region_later (by kernel_rfl) (by kernel_rfl) ?_
        repeat (go_big_quiet_step (first | (go_at_call 43; exact later_of _ (ha _))))
        refine wpQuiet_nil ?_
        rintro _ ⟨z, rfl⟩
        have hI3 := hI2.later z
        go_wp2
        refine ⟨⟨l ++ [y - 1], j, rfl, by simp, by simp; omega, ?_, hI3⟩, by simp [intOf]; omega⟩
        rw [← HL.out, HN.out, List.length_append, List.length_singleton, List.append_assoc, List.singleton_append]
      · have hdd : decide ((l.length : Int) < s) = false := decide_eq_false hls
        have hL2 : freeL t s ws = l := by rw [← HL.out, show s.toNat - l.length = 0 from by omega]; simp [freeF]
        have HL2 := Lib.hid hL2
        clear hls hin
        clear hL2 HL ha7 hP1 hR1 hlen
        go_wp2_with fail
        go_ret
        refine ⟨_, rfl, hbV.out.trans (hI.bel.mono hbV.out.size), ?_⟩
        rw [HL2.out]
        exact hI.own.low hbV.out.size
    · have hL2 : freeL t s ws = l := by rw [← HL.out, freeF_out _ hin]; simp
      have HL2 := Lib.hid hL2
      clear hL2 HL ha7 hP1 hR1
      by_cases hls : (l.length : Int) < s
      · by_cases hy : 1 ≤ y
        · have hy2 : ¬ y ≤ s := by omega
          clear hin hlen
          go_wp2_with fail
          go_ret
          refine ⟨_, rfl, hbV.out.trans (hI.bel.mono hbV.out.size), ?_⟩
          rw [HL2.out]
          exact hI.own.low hbV.out.size
        · clear hin hlen
          go_wp2_with fail
          go_ret
          refine ⟨_, rfl, hbV.out.trans (hI.bel.mono hbV.out.size), ?_⟩
          rw [HL2.out]
          exact hI.own.low hbV.out.size
      · have hdd : decide ((l.length : Int) < s) = false := decide_eq_false hls
        clear hin hlen hls
        go_wp2_with fail
        go_ret
        refine ⟨_, rfl, hbV.out.trans (hI.bel.mono hbV.out.size), ?_⟩
        rw [HL2.out]
        exact hI.own.low hbV.out.size
end
end Go.Proofs.YtlidoicpfomfcaaDoor
