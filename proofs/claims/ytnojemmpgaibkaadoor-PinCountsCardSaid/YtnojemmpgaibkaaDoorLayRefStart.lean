/-
  The document's own Start of layer 6: the words that it tells.
  Conditions: that the config may be.
-/
import Derived.Test.YtnojemmpgaibkaaDoorLayRef
import Derived.Deep.OwnRows
import Derived.OwnWalk
namespace Go.Proofs.YtnojemmpgaibkaaDoor
open Go.RowKit
attribute [local go_sem] Later.cell Later.frozen Later.lt Later.le
set_option linter.unusedVariables false

theorem info_int' : (Tryd.prog.info? 3).map (fun i => (i.zero, i.size, i.bytes)) = some (some (.int .i64 0), 1, 8) := by kernel_rfl

/-- What a call answers that makes a row of numbers, and turns nothing that was there. -/
def RowRet (w : World) (n : Nat) (f : Nat → Int) (e : Ending) (w' : World) : Prop :=
  ∃ g : Nat, e = .returned (.slice (some ⟨g, 0, none⟩) n n) ∧ w.heap.size ≤ g ∧ ∃ x : Later w, w' = x.at' ∧ x.at'.rowIs g 3 n (fun j => .int .i64 (f j))

/-- The links of the first k slots are laid. -/
def rsV (t s k : Int) (j : Nat) : Int := if ((j : Int) - 6 - t) % 3 = 0 ∧ 0 ≤ ((j : Int) - 6 - t) / 3 ∧ ((j : Int) - 6 - t) / 3 < k ∧ ((j : Int) - 6 - t) / 3 + 1 < s then ((j : Int) - 6 - t) / 3 + 2 else 0
theorem rsV_zero (t s : Int) (j : Nat) : rsV t s 0 j = 0 := if_neg (by omega)
theorem rsV_next {t s k : Int} {j : Nat} (h0 : 0 ≤ k) (h1 : k + 1 < s) : rsV t s (k + 1) j = if (j : Int) = 4 + t + k * 3 + 2 then k + 2 else rsV t s k j := by
  unfold rsV
  by_cases hx : (j : Int) = 4 + t + k * 3 + 2
  · rw [if_pos hx, if_pos (by omega)]; omega
  · rw [if_neg hx]
    by_cases hc : ((j : Int) - 6 - t) % 3 = 0 ∧ 0 ≤ ((j : Int) - 6 - t) / 3 ∧ ((j : Int) - 6 - t) / 3 < k ∧ ((j : Int) - 6 - t) / 3 + 1 < s
    · rw [if_pos hc, if_pos (by omega)]
    · rw [if_neg hc, if_neg (by omega)]
theorem rsV_last {t s k : Int} {j : Nat} (h1 : ¬ k + 1 < s) : rsV t s (k + 1) j = rsV t s k j := by
  unfold rsV
  by_cases hc : ((j : Int) - 6 - t) % 3 = 0 ∧ 0 ≤ ((j : Int) - 6 - t) / 3 ∧ ((j : Int) - 6 - t) / 3 < k ∧ ((j : Int) - 6 - t) / 3 + 1 < s
  · rw [if_pos hc, if_pos (by omega)]
  · rw [if_neg hc, if_neg (by omega)]
/-- All words, as the document tells them. -/
def rsF (t s : Int) (j : Nat) : Int := if j = 1 then 1 else rsV t s s j

/-- The loop's relation. -/
def RsRel (w1 : World) (g n : Nat) (t s : Int) (u : Value) (wr : World) : Prop :=
  ∃ k : Nat, (k : Int) ≤ s ∧ u = .int .i64 k ∧ Below w1.heap.size w1 wr ∧ wr.rowIs g 3 n (fun j => .int .i64 (rsV t s k j))

theorem rStart_any (a s t : Int) (h : mayC a s t = true) (w : World) : Calls Tryd.prog 51 #[.agg #[.int .i64 a, .int .i64 s, .int .i64 t]] w (RowRet w (wordsN t s).toNat (rsF t s)) := by
  have c1 := fun W => rWords_yes h W
  have c2 := fun (k : Int) W => rAt_part h 2 k (by omega) (by omega) W
  obtain ⟨-, -, -, h3, h4, h5, h6⟩ := mayC_iff.1 h
  clear h
  have hN : wordsN t s = 4 + t + s * 3 := rfl
  obtain ⟨n, en⟩ : ∃ n : Nat, wordsN t s = n := ⟨(wordsN t s).toNat, by rw [hN]; omega⟩
  rw [en] at c1 hN ⊢
  rw [Int.toNat_natCast]
  have HN := Lib.hid hN
  have nb : n ≤ 400 := by omega
  clear en hN
  have hm := run_make_row' (P := Tryd.prog) 22 3 (.int .i64 0) 8 Tryd.underlying22 info_int' rfl .i64 .i64 n (by omega) (by omega)
  go_enter Tryd.func51, Tryd.ntmps51
  go_wp2_with (go_at_call 40; (with_reducible refine (c1 _).mono ?_); rintro _ _ ⟨rfl, x1, rfl⟩)
  have hrow : (x1.at'.alloc (.cells (madeCells #[.int .i64 0] n) 3)).rowIs x1.at'.heap.size 3 n (fun j => .int .i64 (rsV t s 0 j)) := (World.rowIs_made x1.at' (.int .i64 0) n 3).congr fun j _ => by rw [rsV_zero]
  have hb : Below x1.at'.heap.size x1.at' (x1.at'.alloc (.cells (madeCells #[.int .i64 0] n) 3)) := (Below.refl _ _).alloc (Nat.le_refl _) _
  have hlt : w.heap.size < x1.at'.heap.size := x1.lt _ (by simp)
  have d0 : x1.at'.cell? ⟨w.heap.size, 0, none⟩ = some (.int .i64 a) := by rw [x1.cell _ _ _ (by simp)]; simp
  have d1 : x1.at'.cell? ⟨w.heap.size, 1, none⟩ = some (.int .i64 s) := by rw [x1.cell _ _ _ (by simp)]; simp
  have d2 : x1.at'.cell? ⟨w.heap.size, 2, none⟩ = some (.int .i64 t) := by rw [x1.cell _ _ _ (by simp)]; simp
  have hbw : Below w.heap.size w x1.at' := x1.boxed
  have HBW := Lib.hid hbw
  clear c1 hm hbw
  generalize hg : x1.at'.heap.size = g at *
  generalize x1.at' = w1 at *
  have HG := Lib.hid hg
  clear hg x1
  go_loopw [4] (fun u wr => RsRel w1 g n t s u wr) (fun u _ => (s - intOf u).toNat)
  case atStart => exact ⟨0, by omega, rfl, by rw [HG.out]; exact hb, hrow⟩
  case round =>
    obtain ⟨k, hk, rfl, hbr, hr⟩ := hrel
    have e0 : wr.cell? ⟨w.heap.size, 0, none⟩ = some (.int .i64 a) := (hbr.cell (p := ⟨w.heap.size, 0, none⟩) (by rw [HG.out]; exact hlt)).trans d0
    have e1 : wr.cell? ⟨w.heap.size, 1, none⟩ = some (.int .i64 s) := (hbr.cell (p := ⟨w.heap.size, 1, none⟩) (by rw [HG.out]; exact hlt)).trans d1
    have e2 : wr.cell? ⟨w.heap.size, 2, none⟩ = some (.int .i64 t) := (hbr.cell (p := ⟨w.heap.size, 2, none⟩) (by rw [HG.out]; exact hlt)).trans d2
    have hgr := hr.lt
    clear d0 d1 d2 hrow hb
    by_cases hks : (k : Int) < s
    · by_cases hk1 : (k : Int) + 1 < s
      · have c2k := c2 k
        rw [partN_in (by omega), show (2 : Int) + 5 = 7 from rfl] at c2k
        obtain ⟨p, ep⟩ : ∃ p : Nat, 4 + t + (k : Int) * 3 + 2 = p := ⟨(4 + t + (k : Int) * 3 + 2).toNat, by omega⟩
        rw [ep] at c2k
        have hpn : p < n := by have := HN.out; omega
        have hpi : (p : Int) < n := by omega
        have hc := hr.cell hpn
        have hf := hr.frozen p
        have EP := Lib.hid ep
        have hpg : p < n := hpn
        clear ep hpn c2
        go_wp2_with (go_at_call 58; (with_reducible refine (c2k _).mono ?_); rintro _ _ ⟨rfl, y, rfl⟩)
        go_roundw
        case rel =>
          refine ⟨k + 1, by omega, by go_num, ?_, ?_⟩
          · exact (hbr.trans (y.below.mono (by rw [HG.out]; omega))).setCell (by rw [HG.out]; exact Nat.le_refl _) _
          · refine ((hr.of_block (y.below.block g hgr)).set p (.int .i64 ((k : Int) + 2))).congr fun j hj => ?_
            have := rsV_next (t := t) (s := s) (k := k) (j := j) (by omega) hk1
            rw [Int.natCast_add, Int.natCast_one, this, EP.out]
            by_cases e : j = p
            · subst e; simp
            · simp [e]; omega
        case measure => simp [intOf]; omega
      · clear c2
        go_wp2
        go_roundw
        case rel => exact ⟨k + 1, by omega, by go_num, hbr, hr.congr fun j _ => by rw [Int.natCast_add, Int.natCast_one, rsV_last hk1]⟩
        case measure => simp [intOf]; omega
    · have ek : (k : Int) = s := by omega
      have EK := Lib.hid ek
      have hge : ¬ (k : Int) < s := hks
      have hn1 : 1 < n := by have := HN.out; omega
      have hn1' : (1 : Int) < n := by omega
      have hc := hr.cell hn1
      have hf := hr.frozen 1
      clear ek hk hks c2 e0 e2
      go_wp2
      go_ret
      have hz : w.heap.size ≤ g := Nat.le_of_lt hlt
      refine ⟨g, rfl, hz, ⟨_, HBW.out.trans ((hbr.setCell (p := ⟨g, 1, none⟩) (by rw [HG.out]; exact Nat.le_refl _) (.int .i64 1)).mono (by rw [HG.out]; exact hz))⟩, rfl, ?_⟩
      refine (hr.set 1 (.int .i64 1)).congr fun j hj => ?_
      unfold rsF
      rw [EK.out]
      by_cases e : j = 1
      · subst e; simp
      · simp [e]
end Go.Proofs.YtnojemmpgaibkaaDoor
