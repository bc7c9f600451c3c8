/-
  The statements' own start: plain cells as they are at first, and their layout.
  Conditions: none but that the tables read as they are laid.
-/
import Derived.Test.YtlidoicpfomfcaaDoorStBase
import Derived.Test.YtlidoicpfomfcaaDoorLayFreeMore
import Derived.Deep.RegionHeld3
namespace Go.Proofs.YtlidoicpfomfcaaDoor
open Go.RowKit
attribute [local go_sem] Later.cell Later.frozen Later.lt Later.le Turned.cell_lo Turned.cell_hi Turned.frozen_lo Turned.frozen_hi Turned.lt Turned.le
set_option linter.unusedVariables false

set_option maxHeartbeats 4000000 in
theorem start_no (a s t : Int) (h : mayC a s t = false) (w : World) (hF : HasHead w) : Calls Tryd.prog 9 #[.agg #[.int .i64 a, .int .i64 s, .int .i64 t]] w (Ret w (.tuple #[.pointer none, .agg #[.int .i64 0, .int .i64 0]])) := by
  have cO := fun W => Of_bad a s t h W
  have cW := fun W => rWords_no h W
  have cN := fun W => New_bad 0 a (by simp [cmB]) W
  go_enter Tryd.func9, Tryd.ntmps9
  go_wp2_with (first
    | (go_at_call 26; (with_reducible refine (cO _).mono ?_); rintro _ _ ⟨rfl, x1, rfl⟩))
  have hB0 : Below w.heap.size w (x1.at'.alloc (.cells #[.int .i64 0, .int .i64 0] 31)) := ((((Below.refl _ _).alloc (Nat.le_refl _) _).alloc (by simp) _).trans (x1.below.mono (by simp; omega))).alloc (by have := x1.below.size; simp at this; omega) _
  have hPc : Fs (x1.at'.alloc (.cells #[.int .i64 0, .int .i64 0] 31)) w.heap.size [.int .i64 a, .int .i64 s, .int .i64 t] := ((((Fs.new' _ _ rfl rfl).alloc _).later x1).alloc _)
  have hPr : Fs (x1.at'.alloc (.cells #[.int .i64 0, .int .i64 0] 31)) (w.heap.size + 1) [.int .i64 0, .int .i64 0] := (((Fs.new' _ _ (by simp) rfl).later x1).alloc _)
  have hPl : Fs (x1.at'.alloc (.cells #[.int .i64 0, .int .i64 0] 31)) x1.at'.heap.size [.int .i64 0, .int .i64 0] := Fs.new' _ _ rfl rfl
  have hne : x1.at'.heap.size ≠ w.heap.size + 1 := by have := x1.below.size; simp at this; omega
  generalize x1.at'.alloc (.cells #[.int .i64 0, .int .i64 0] 31) = W at *
  generalize x1.at'.heap.size = g at *
  clear x1
  have c0 : W.cell? ⟨w.heap.size, 0, none⟩ = some (.int .i64 a) := hPc.at' 0 rfl
  have c1 : W.cell? ⟨w.heap.size, 1, none⟩ = some (.int .i64 s) := hPc.at' 1 rfl
  have c2 : W.cell? ⟨w.heap.size, 2, none⟩ = some (.int .i64 t) := hPc.at' 2 rfl
  have hltc := hPc.lt
  refine wp_region_later (by kernel_rfl) (by kernel_rfl) ?_
  repeat (go_big_quiet_step (first | (go_at_call 28; exact later_of _ (cW _)) | (go_at_call 27; exact later_same _ (cN _))))
  refine wpQuiet_nil ?_
  rintro _ ⟨x2, rfl⟩
  have hB1 := x2.cat hB0 hB0.size
  have hPl2 := hPl.later x2
  have hPr2 := hPr.later x2
  generalize x2.at' = W2 at *
  clear c0 c1 c2 hltc hPc hPr hPl hB0 x2
  have d0 : W2.cell? ⟨g, 0, none⟩ = some (.int .i64 0) := hPl2.at' 0 rfl
  have d1 : W2.cell? ⟨g, 1, none⟩ = some (.int .i64 0) := hPl2.at' 1 rfl
  have e0 : W2.cell? ⟨w.heap.size + 1, 0, none⟩ = some (.int .i64 0) := hPr2.at' 0 rfl
  have e1 : W2.cell? ⟨w.heap.size + 1, 1, none⟩ = some (.int .i64 0) := hPr2.at' 1 rfl
  have f0 := hPr2.fz 0
  have f1 := hPr2.fz 1
  go_wp2_with fail
  go_region
  all_goals go_wp2
  have hP3 := ((hPr2.set 0 (by simp) (.int .i64 0)).set 1 (by simp) (.int .i64 0)).drew
  have hB3 : Below w.heap.size w ((W2.setCell ⟨w.heap.size + 1, 0, none⟩ (.int .i64 0)).setCell ⟨w.heap.size + 1, 1, none⟩ (.int .i64 0)).drew := ((hB1.setCell (by simp) _).setCell (by simp) _).drew
  generalize ((W2.setCell ⟨w.heap.size + 1, 0, none⟩ (.int .i64 0)).setCell ⟨w.heap.size + 1, 1, none⟩ (.int .i64 0)).drew = W3 at *
  have h0 : W3.cell? ⟨w.heap.size + 1, 0, none⟩ = some (.int .i64 0) := hP3.at' 0 rfl
  have h1 : W3.cell? ⟨w.heap.size + 1, 1, none⟩ = some (.int .i64 0) := hP3.at' 1 rfl
  clear d0 d1 e0 e1 f0 f1 hPl2 hPr2
  refine bodyPost_ret (v := .tuple #[.pointer none, .agg #[.int .i64 0, .int .i64 0]]) (by simp [results, Tryd.results9, go_sem, h0, h1]) rfl ?_
  exact Ret.mk rfl hB3

/-- What a start answers where there may be cells. -/
def StartRet (w : World) (t s : Int) (e : Ending) (w' : World) : Prop :=
  ∃ A : PAt, e = .returned (.tuple #[.pointer (some ⟨A.p, 0, none⟩), .agg #[.int .i64 t, .int .i64 s]]) ∧ w.heap.size ≤ A.lo ∧ Below w.heap.size w w' ∧ ∃ ws bs n, Mem w' A ws bs n ∧ (ws.length : Int) = wordsN t s ∧ ∀ y, atI ws y = stV t s (fun _ => 0) y

set_option maxHeartbeats 8000000 in
theorem start_yes (a s t : Int) (h : mayC a s t = true) (w : World) (hF : HasHead w) : Calls Tryd.prog 9 #[.agg #[.int .i64 a, .int .i64 s, .int .i64 t]] w (StartRet w t s) := by
  have cO := fun W => Of_ok a s t h W
  have cW := fun W => rWords_yes h W
  obtain ⟨-, m1, m2, m3, m4, m5, m6⟩ := mayC_iff.1 h
  have hN : wordsN t s = ((wordsN t s).toNat : Int) := by unfold wordsN; omega
  have hN0 : 1 ≤ (wordsN t s).toNat := by unfold wordsN; omega
  have hN1 : (wordsN t s).toNat ≤ 4096 := by unfold wordsN; omega
  have ha : a = (a.toNat : Int) := by omega
  have cN : ∀ W, Calls Tryd.prog 27 #[.int .i64 (wordsN t s), .int .i64 a] W (Made W (List.replicate (wordsN t s).toNat 0) (List.replicate a.toNat 0) 0) := fun W => by
    have := New_ok (wordsN t s).toNat a.toNat hN0 hN1 (by omega) W
    rwa [← hN, ← ha] at this
  have cS := fun (A : PAt) (W : World) (hF : HasHead W) g0 g1 (hM : Mem W A (List.replicate (wordsN t s).toNat 0) (List.replicate a.toNat 0) 0) => Start_ok a s t A _ _ 0 W hF g0 g1 hM h (by rw [List.length_replicate]; omega) (by rw [List.length_replicate]; omega)
  have HL := Lib.hid (show ((List.replicate (wordsN t s).toNat (0 : Int)).length : Int) = wordsN t s from by rw [List.length_replicate]; omega)
  have HZ := Lib.hid (show atI (List.replicate (wordsN t s).toNat (0 : Int)) = fun _ => 0 from funext fun y => atI_zeros _ y)
  generalize List.replicate (wordsN t s).toNat (0 : Int) = ws0 at cN cS HL HZ
  generalize List.replicate a.toNat (0 : Int) = bs0 at cN cS
  generalize hN9 : wordsN t s = N at cW cN HL
  have HN9 := Lib.hid hN9
  clear hN hN0 hN1 ha h hN9
  go_enter Tryd.func9, Tryd.ntmps9
  go_wp2_with (first
    | (go_at_call 26; (with_reducible refine (cO _).mono ?_); rintro _ _ ⟨rfl, x1, rfl⟩))
  have hB0 : Below w.heap.size w (x1.at'.alloc (.cells #[.int .i64 t, .int .i64 s] 31)) := ((((Below.refl _ _).alloc (Nat.le_refl _) _).alloc (by simp) _).trans (x1.below.mono (by simp; omega))).alloc (by have := x1.below.size; simp at this; omega) _
  have hPc : Fs (x1.at'.alloc (.cells #[.int .i64 t, .int .i64 s] 31)) w.heap.size [.int .i64 a, .int .i64 s, .int .i64 t] := ((((Fs.new' _ _ rfl rfl).alloc _).later x1).alloc _)
  have hPr : Fs (x1.at'.alloc (.cells #[.int .i64 t, .int .i64 s] 31)) (w.heap.size + 1) [.int .i64 0, .int .i64 0] := (((Fs.new' _ _ (by simp) rfl).later x1).alloc _)
  have hPl : Fs (x1.at'.alloc (.cells #[.int .i64 t, .int .i64 s] 31)) x1.at'.heap.size [.int .i64 t, .int .i64 s] := Fs.new' _ _ rfl rfl
  have hne : x1.at'.heap.size ≠ w.heap.size + 1 := by have := x1.below.size; simp at this; omega
  generalize x1.at'.alloc (.cells #[.int .i64 t, .int .i64 s] 31) = W at *
  generalize x1.at'.heap.size = g at *
  clear x1
  have c0 : W.cell? ⟨w.heap.size, 0, none⟩ = some (.int .i64 a) := hPc.at' 0 rfl
  have c1 : W.cell? ⟨w.heap.size, 1, none⟩ = some (.int .i64 s) := hPc.at' 1 rfl
  have c2 : W.cell? ⟨w.heap.size, 2, none⟩ = some (.int .i64 t) := hPc.at' 2 rfl
  have hF1 : HasHead W := hF.below hB0
  have k3 : ∀ {V : World}, Fs V w.heap.size [.int .i64 a, .int .i64 s, .int .i64 t] → V.cell? ⟨w.heap.size, 0, none⟩ = some (.int .i64 a) ∧ V.cell? ⟨w.heap.size, 1, none⟩ = some (.int .i64 s) ∧ V.cell? ⟨w.heap.size, 2, none⟩ = some (.int .i64 t) ∧ Fs V w.heap.size [.int .i64 a, .int .i64 s, .int .i64 t] := fun h => ⟨h.at' 0 rfl, h.at' 1 rfl, h.at' 2 rfl, h⟩
  have k3' : ∀ {V : World} {p q r : Prop}, (p ∧ q ∧ r ∧ Fs V w.heap.size [.int .i64 a, .int .i64 s, .int .i64 t]) → Fs V w.heap.size [.int .i64 a, .int .i64 s, .int .i64 t] := fun h => h.2.2.2
  go_region_held3 (fun w' => w'.cell? ⟨w.heap.size, 0, none⟩ = some (.int .i64 a) ∧ w'.cell? ⟨w.heap.size, 1, none⟩ = some (.int .i64 s) ∧ w'.cell? ⟨w.heap.size, 2, none⟩ = some (.int .i64 t) ∧ Fs w' w.heap.size [.int .i64 a, .int .i64 s, .int .i64 t]) (first
    | exact k3 hPc
    | exact k3 hPc.drew
    | assumption
    | exact k3 ((k3' ‹_ ∧ _›).later _)) (first
    | (go_at_call 28; (with_reducible refine (cW _).mono ?_); rintro _ _ ⟨rfl, y, rfl⟩)
    | (go_at_call 27; (with_reducible refine (cN _).mono ?_); rintro _ _ ⟨A, rfl, hA, y2, rfl, hM⟩))
  rename_i hHeld
  have hPc2 := k3' hHeld
  clear hHeld
  have hB2 : Below w.heap.size w y2.at' := y2.cat (y.cat hB0.drew hB0.size) (Nat.le_trans hB0.size y.below.size)
  have hPr2 := (hPr.drew.later y).later y2
  have hPl2 := (hPl.drew.later y).later y2
  have hr1 : w.heap.size + 1 < A.lo := Nat.lt_of_lt_of_le (hPr.drew.later y).lt hA
  have hr2 : g < A.lo := Nat.lt_of_lt_of_le (hPl.drew.later y).lt hA
  have hF2 := hF.below hB2
  have g0 : 0 < A.lo := by have := hF.lt0; omega
  have g1 : 1 < A.lo := by have := hF.lt1; omega
  have hS := cS A _ hF2 g0 g1 hM
  rw [HZ.out] at hS
  generalize hG9 : stV t s (fun _ => 0) = G at hS
  have HG9 := Lib.hid hG9
  clear hG9
  have c0' : y2.at'.cell? ⟨w.heap.size, 0, none⟩ = some (.int .i64 a) := hPc2.at' 0 rfl
  have c1' : y2.at'.cell? ⟨w.heap.size, 1, none⟩ = some (.int .i64 s) := hPc2.at' 1 rfl
  have c2' : y2.at'.cell? ⟨w.heap.size, 2, none⟩ = some (.int .i64 t) := hPc2.at' 2 rfl
  clear cO cW cN cS c0 c1 c2 k3 k3' hPc hPr hPl hF1 hA
  go_wp2_with (first
    | (go_at_call 29; (with_reducible refine hS.mono ?_); rintro _ _ ⟨rfl, z, rfl, ws', n', hM', hlen, hat⟩))
  have hB3 := z.turn.below hB2 (by omega) hB2.size
  have hPr3 := hPr2.touch z.turn (Or.inl hr1)
  have hPl3 := hPl2.touch z.turn (Or.inl hr2)
  generalize z.at' = W3 at *
  clear c0' c1' c2' hPc2 hPr2 hPl2 z hS hM hB2 hF2 y2 y
  have hLen := Lib.hid (show (ws'.length : Int) = N from by rw [hlen]; exact HL.out)
  have hAt := Lib.hid hat
  clear hat hlen HL
  have d0 : W3.cell? ⟨g, 0, none⟩ = some (.int .i64 t) := hPl3.at' 0 rfl
  have d1 : W3.cell? ⟨g, 1, none⟩ = some (.int .i64 s) := hPl3.at' 1 rfl
  have e0 : W3.cell? ⟨w.heap.size + 1, 0, none⟩ = some (.int .i64 0) := hPr3.at' 0 rfl
  have e1 : W3.cell? ⟨w.heap.size + 1, 1, none⟩ = some (.int .i64 0) := hPr3.at' 1 rfl
  have f0 := hPr3.fz 0
  have f1 := hPr3.fz 1
  go_wp2_with fail
  go_region
  all_goals go_wp2
  have hP4 := ((hPr3.set 0 (by simp) (.int .i64 t)).set 1 (by simp) (.int .i64 s)).drew
  have hB4 : Below w.heap.size w ((W3.setCell ⟨w.heap.size + 1, 0, none⟩ (.int .i64 t)).setCell ⟨w.heap.size + 1, 1, none⟩ (.int .i64 s)).drew := ((hB3.setCell (by simp) _).setCell (by simp) _).drew
  have hM4 := ((hM'.setOther ⟨w.heap.size + 1, 0, none⟩ (.int .i64 t) (Or.inl hr1)).setOther ⟨w.heap.size + 1, 1, none⟩ (.int .i64 s) (Or.inl hr1)).drew
  generalize ((W3.setCell ⟨w.heap.size + 1, 0, none⟩ (.int .i64 t)).setCell ⟨w.heap.size + 1, 1, none⟩ (.int .i64 s)).drew = W4 at *
  have h0 : W4.cell? ⟨w.heap.size + 1, 0, none⟩ = some (.int .i64 t) := hP4.at' 0 rfl
  have h1 : W4.cell? ⟨w.heap.size + 1, 1, none⟩ = some (.int .i64 s) := hP4.at' 1 rfl
  clear d0 d1 e0 e1 f0 f1 hPl3 hPr3
  refine bodyPost_ret (v := .tuple #[.pointer (some ⟨A.p, 0, none⟩), .agg #[.int .i64 t, .int .i64 s]]) (by simp [results, Tryd.results9, go_sem, h0, h1]) rfl ?_
  exact ⟨A, rfl, by omega, hB4, ws', bs0, n', hM4, hLen.out.trans HN9.out.symm, fun q => by rw [hAt.out, HG9.out]⟩
end Go.Proofs.YtlidoicpfomfcaaDoor
