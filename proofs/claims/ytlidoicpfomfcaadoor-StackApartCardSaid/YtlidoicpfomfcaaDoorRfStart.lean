/-
  The document's cells as they are at first.
  Conditions: none but a configuration that may be.
-/
import Derived.Test.YtlidoicpfomfcaaDoorRfMem
import Derived.Test.YtlidoicpfomfcaaDoorLayStartsMath
import Derived.Deep.RegionHeld3
namespace Go.Proofs.YtlidoicpfomfcaaDoor
open Go.RowKit
attribute [local go_sem] Later.cell Later.frozen Later.lt Later.le
set_option linter.unusedVariables false

/-- A new one, whatever its words. -/
theorem refNew05_any (a b : Nat) (ha : 1 ≤ a) (ha' : a ≤ 4096) (hb : b ≤ 4096) (w : World) : Calls Tryd.prog 30 #[.int .i64 a, .int .i64 b] w fun e w' => ∃ p v bv, e = .returned (.pointer (some ⟨p, 0, none⟩)) ∧ w.heap.size ≤ p ∧ Below w.heap.size w w' ∧ Fs w' p [v, bv, .int .i64 0] := by
  have hm1 := run_make_row' (P := Tryd.prog) 48 3 (.int .i64 0) 8 Tryd.underlying48 info_int rfl .i64 .i64 a (by omega) (by omega)
  have hm2 := run_make_row' (P := Tryd.prog) 48 3 (.int .i64 0) 8 Tryd.underlying48 info_int rfl .i64 .i64 b (by omega) (by omega)
  go_enter Tryd.func30, Tryd.ntmps30
  go_wp2_with fail
  go_region
  all_goals (try go_wp2)
  all_goals go_ret
  all_goals exact ⟨w.heap.size + 1 + 1, _, _, rfl, by omega, ((((Below.refl _ _).alloc (Nat.le_refl _) _).alloc (by simp) _).alloc (by simp; omega) _).drew, (Fs.new' _ _ (by simp) rfl).drew⟩

set_option maxHeartbeats 4000000 in
theorem refStart_any (a s t : Int) (h : mayC a s t = true) (w : World) : Calls Tryd.prog 11 #[.agg #[.int .i64 a, .int .i64 s, .int .i64 t]] w fun e w' => ∃ p q bv ws n, e = .returned (.pointer (some ⟨p, 0, none⟩)) ∧ w.heap.size ≤ p ∧ w.heap.size ≤ q ∧ Below w.heap.size w w' ∧ RMem w' p q bv ws n ∧ (ws.length : Int) = wordsN t s ∧ ∀ y, atI ws y = stV t s (fun _ => 0) y := by
  have cW := fun W => rWords_yes h W
  have cS := fun W => rStart_any a s t h W
  obtain ⟨-, m1, m2, m3, m4, m5, m6⟩ := mayC_iff.1 h
  have hN : wordsN t s = ((wordsN t s).toNat : Int) := by unfold wordsN; omega
  have hN0 : 1 ≤ (wordsN t s).toNat := by unfold wordsN; omega
  have hN1 : (wordsN t s).toNat ≤ 4096 := by unfold wordsN; omega
  have ha : a = (a.toNat : Int) := by omega
  have cN : ∀ W, Calls Tryd.prog 30 #[.int .i64 (wordsN t s), .int .i64 a] W _ := fun W => by
    have := refNew05_any (wordsN t s).toNat a.toNat hN0 hN1 (by omega) W
    rw [← hN, ← ha] at this
    exact this
  have HST := Lib.hid (show ∀ k : Nat, (k : Int) < wordsN t s → stV t s (fun _ => 0) k = rsF t s k from fun k hk => st_in m5 m3 k hk)
  have HSO := Lib.hid (show ∀ y : Int, wordsN t s ≤ y → stV t s (fun _ => 0) y = 0 from fun y hy => st_out m5 m3 y hy)
  have HSN := Lib.hid (show ∀ y : Int, y < 0 → stV t s (fun _ => 0) y = 0 from fun y hy => by
    unfold stV lkV faV zV
    rw [if_neg (by omega), if_neg (by omega), if_neg (by omega)])
  have HN := Lib.hid hN
  have HN1 := Lib.hid hN1
  generalize (wordsN t s).toNat = nn at cS HN HN1
  generalize wordsN t s = N at *
  clear hN hN0 hN1 ha h
  go_enter Tryd.func11, Tryd.ntmps11
  go_wp2_with fail
  have hPc : Fs (w.alloc (.cells #[.int .i64 a, .int .i64 s, .int .i64 t] 23)) w.heap.size [.int .i64 a, .int .i64 s, .int .i64 t] := Fs.new' _ _ rfl rfl
  have hB0 : Below w.heap.size w (w.alloc (.cells #[.int .i64 a, .int .i64 s, .int .i64 t] 23)) := (Below.refl _ _).alloc (Nat.le_refl _) _
  generalize w.alloc (.cells #[.int .i64 a, .int .i64 s, .int .i64 t] 23) = W at *
  have k3 : ∀ {V : World}, Fs V w.heap.size [.int .i64 a, .int .i64 s, .int .i64 t] → V.cell? ⟨w.heap.size, 0, none⟩ = some (.int .i64 a) ∧ V.cell? ⟨w.heap.size, 1, none⟩ = some (.int .i64 s) ∧ V.cell? ⟨w.heap.size, 2, none⟩ = some (.int .i64 t) ∧ Fs V w.heap.size [.int .i64 a, .int .i64 s, .int .i64 t] := fun h => ⟨h.at' 0 rfl, h.at' 1 rfl, h.at' 2 rfl, h⟩
  have k3' : ∀ {V : World} {p q r : Prop}, (p ∧ q ∧ r ∧ Fs V w.heap.size [.int .i64 a, .int .i64 s, .int .i64 t]) → Fs V w.heap.size [.int .i64 a, .int .i64 s, .int .i64 t] := fun h => h.2.2.2
  have kb : ∀ {V V' : World}, Fs V w.heap.size [.int .i64 a, .int .i64 s, .int .i64 t] → Below V.heap.size V V' → Fs V' w.heap.size [.int .i64 a, .int .i64 s, .int .i64 t] := fun h hb => h.below hb h.lt
  go_region_held3 (fun w' => w'.cell? ⟨w.heap.size, 0, none⟩ = some (.int .i64 a) ∧ w'.cell? ⟨w.heap.size, 1, none⟩ = some (.int .i64 s) ∧ w'.cell? ⟨w.heap.size, 2, none⟩ = some (.int .i64 t) ∧ Fs w' w.heap.size [.int .i64 a, .int .i64 s, .int .i64 t]) (first
    | exact k3 hPc
    | exact k3 hPc.drew
    | assumption
    | exact k3 ((k3' ‹_ ∧ _›).later _)
    | exact k3 (kb (k3' ‹_ ∧ _›) (by assumption))) (first
    | (go_at_call 28; (with_reducible refine (cW _).mono ?_); rintro _ _ ⟨rfl, y, rfl⟩)
    | (go_at_call 30; (with_reducible refine (cN _).mono ?_); rintro _ W2 ⟨p, v, bv, rfl, hp, hb2, hf2⟩))
  all_goals
    rename_i hHeld
    have hP2 := k3' hHeld
    clear hHeld
    have d0 : W2.cell? ⟨w.heap.size, 0, none⟩ = some (.int .i64 a) := hP2.at' 0 rfl
    have d1 : W2.cell? ⟨w.heap.size, 1, none⟩ = some (.int .i64 s) := hP2.at' 1 rfl
    have d2 : W2.cell? ⟨w.heap.size, 2, none⟩ = some (.int .i64 t) := hP2.at' 2 rfl
    have hzy := y.below.size
    have hzW := hB0.size
    rw [World.size_drew] at hzy
    have hB2 : Below w.heap.size w W2 := (y.cat hB0.drew hB0.size).trans (hb2.mono (by omega))
    clear cN cW k3 k3' kb hPc
    go_wp2_with (first
      | (go_at_call 31; (with_reducible refine (cS _).mono ?_); rintro _ _ ⟨q, rfl, hq, x3, rfl, hrow⟩; have hf3 := hf2.later x3; have e0 : x3.at'.cell? ⟨p, 0, none⟩ = some v := hf3.at' 0 rfl; have f0 := hf3.fz 0))
    go_ret
    have hqp : p < q := by have := hf2.lt; omega
    have hql : q < x3.at'.heap.size := by
      obtain ⟨c, hc, _⟩ := hrow
      exact (Array.getElem?_eq_some_iff.1 hc).1
    refine ⟨p, q, bv, (List.range nn).map fun k => rsF t s k, 0, rfl, by omega, by have := hB2.size; omega, (x3.cat hB2 hB2.size).setCell (by show w.heap.size ≤ p; omega) _, ⟨?_, ?_, by omega, by simpa using hql, by simpa using HN1.out⟩, by simpa using HN.out.symm, fun y => ?_⟩
    · have := hf3.set 0 (by simp) (.slice (some ⟨q, 0, none⟩) nn nn)
      simpa using this
    · rw [List.length_map, List.length_range]
      refine (hrow.setOther (by show q ≠ p; omega) _).congr fun j hj => by simp [hj]
    · have hL := HN.out
      unfold atI
      by_cases y0 : 0 ≤ y
      · rw [if_pos y0]
        obtain ⟨k, rfl⟩ := Int.eq_ofNat_of_zero_le y0
        rw [Int.toNat_natCast]
        by_cases hk : k < nn
        · rw [HST.out k (by omega)]
          simp [hk]
        · rw [HSO.out k (by omega)]
          simp [hk]
      · rw [if_neg y0, HSN.out y (by omega)]
end Go.Proofs.YtlidoicpfomfcaaDoor
