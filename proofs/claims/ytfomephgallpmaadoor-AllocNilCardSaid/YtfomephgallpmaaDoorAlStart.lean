/-
  The statements' own start: plain cells as they are at first.
  Conditions: none but that the tables read as they are laid.
-/
import Derived.Test.YtfomephgallpmaaDoorSpan
import Derived.Test.YtfomephgallpmaaDoorLayFreeMore
import Derived.Deep.RegionHeld3
namespace Go.Proofs.YtfomephgallpmaaDoor
open Go.RowKit
attribute [local go_sem] Later.cell Later.frozen Later.lt Later.le Turned.cell_lo Turned.cell_hi Turned.frozen_lo Turned.frozen_hi Turned.lt Turned.le
set_option linter.unusedVariables false

set_option maxHeartbeats 4000000 in
theorem start_no (a s t : Int) (h : mayC a s t = false) (w : World) : Calls Tryd.prog 7 #[.agg #[.int .i64 a, .int .i64 s, .int .i64 t]] w (Ret w (.pointer none)) := by
  have cW := fun W => rWords_no h W
  have cN := fun W => New_bad 0 a (by simp [cmB]) W
  go_enter Tryd.func7, Tryd.ntmps7
  go_wp2_with fail
  have c0 : (w.alloc (.cells #[.int .i64 a, .int .i64 s, .int .i64 t] 23)).cell? ⟨w.heap.size, 0, none⟩ = some (.int .i64 a) := by simp
  refine wp_region_later (by kernel_rfl) (by kernel_rfl) ?_
  repeat (go_big_quiet_step (first | (go_at_call 22; exact later_of _ (cW _)) | (go_at_call 21; exact later_same _ (cN _))))
  refine wpQuiet_nil ?_
  rintro _ ⟨x2, rfl⟩
  go_wp2_with fail
  go_ret
  exact Ret.mk rfl (x2.cat ((Below.refl _ _).alloc (Nat.le_refl _) _) (by simp))

/-- What a start answers where there may be cells. -/
def StartRet (w : World) (a t s : Int) (e : Ending) (w' : World) : Prop :=
  ∃ A : PAt, e = .returned (.pointer (some ⟨A.p, 0, none⟩)) ∧ w.heap.size ≤ A.lo ∧ Below w.heap.size w w' ∧ ∃ ws n, Mem w' A ws (List.replicate a.toNat 0) n ∧ (ws.length : Int) = wordsN t s ∧ ∀ y, atI ws y = stV t s (fun _ => 0) y

set_option maxHeartbeats 8000000 in
theorem start_yes (a s t : Int) (h : mayC a s t = true) (w : World) (hF : HasHead w) : Calls Tryd.prog 7 #[.agg #[.int .i64 a, .int .i64 s, .int .i64 t]] w (StartRet w a t s) := by
  have cW := fun W => rWords_yes h W
  obtain ⟨-, m1, m2, m3, m4, m5, m6⟩ := mayC_iff.1 h
  have hN : wordsN t s = ((wordsN t s).toNat : Int) := by unfold wordsN; omega
  have hN0 : 1 ≤ (wordsN t s).toNat := by unfold wordsN; omega
  have hN1 : (wordsN t s).toNat ≤ 4096 := by unfold wordsN; omega
  have ha : a = (a.toNat : Int) := by omega
  have cN : ∀ W, Calls Tryd.prog 21 #[.int .i64 (wordsN t s), .int .i64 a] W (Made W (List.replicate (wordsN t s).toNat 0) (List.replicate a.toNat 0) 0) := fun W => by
    have := New_ok (wordsN t s).toNat a.toNat hN0 hN1 (by omega) W
    rwa [← hN, ← ha] at this
  have cS := fun (A : PAt) (W : World) (hF : HasHead W) g0 g1 (hM : Mem W A (List.replicate (wordsN t s).toNat 0) (List.replicate a.toNat 0) 0) => Start_ok a s t A _ _ 0 W hF g0 g1 hM h (by rw [List.length_replicate]; omega) (by rw [List.length_replicate]; omega)
  have HL := Lib.hid (show ((List.replicate (wordsN t s).toNat (0 : Int)).length : Int) = wordsN t s from by rw [List.length_replicate]; omega)
  have HZ := Lib.hid (show atI (List.replicate (wordsN t s).toNat (0 : Int)) = fun _ => 0 from funext fun y => atI_zeros _ y)
  have HB0 := Lib.hid (rfl : List.replicate a.toNat (0 : Int) = List.replicate a.toNat 0)
  generalize List.replicate (wordsN t s).toNat (0 : Int) = ws0 at cN cS HL HZ
  generalize hbs : List.replicate a.toNat (0 : Int) = bs0 at cN cS
  have HBS := Lib.hid hbs
  generalize hN9 : wordsN t s = N at cW cN HL
  have HN9 := Lib.hid hN9
  clear hN hN0 hN1 ha h hN9 hbs HB0
  go_enter Tryd.func7, Tryd.ntmps7
  go_wp2_with fail
  have hB0 : Below w.heap.size w (w.alloc (.cells #[.int .i64 a, .int .i64 s, .int .i64 t] 23)) := (Below.refl _ _).alloc (Nat.le_refl _) _
  have hPc : Fs (w.alloc (.cells #[.int .i64 a, .int .i64 s, .int .i64 t] 23)) w.heap.size [.int .i64 a, .int .i64 s, .int .i64 t] := Fs.new' _ _ rfl rfl
  generalize w.alloc (.cells #[.int .i64 a, .int .i64 s, .int .i64 t] 23) = W at *
  have k3 : ∀ {V : World}, Fs V w.heap.size [.int .i64 a, .int .i64 s, .int .i64 t] → V.cell? ⟨w.heap.size, 0, none⟩ = some (.int .i64 a) ∧ V.cell? ⟨w.heap.size, 1, none⟩ = some (.int .i64 s) ∧ V.cell? ⟨w.heap.size, 2, none⟩ = some (.int .i64 t) ∧ Fs V w.heap.size [.int .i64 a, .int .i64 s, .int .i64 t] := fun h => ⟨h.at' 0 rfl, h.at' 1 rfl, h.at' 2 rfl, h⟩
  have k3' : ∀ {V : World} {p q r : Prop}, (p ∧ q ∧ r ∧ Fs V w.heap.size [.int .i64 a, .int .i64 s, .int .i64 t]) → Fs V w.heap.size [.int .i64 a, .int .i64 s, .int .i64 t] := fun h => h.2.2.2
  go_region_held3 (fun w' => w'.cell? ⟨w.heap.size, 0, none⟩ = some (.int .i64 a) ∧ w'.cell? ⟨w.heap.size, 1, none⟩ = some (.int .i64 s) ∧ w'.cell? ⟨w.heap.size, 2, none⟩ = some (.int .i64 t) ∧ Fs w' w.heap.size [.int .i64 a, .int .i64 s, .int .i64 t]) (first
    | exact k3 hPc
    | exact k3 hPc.drew
    | assumption
    | exact k3 ((k3' ‹_ ∧ _›).later _)) (first
    | (go_at_call 22; (with_reducible refine (cW _).mono ?_); rintro _ _ ⟨rfl, y, rfl⟩)
    | (go_at_call 21; (with_reducible refine (cN _).mono ?_); rintro _ _ ⟨A, rfl, hA, y2, rfl, hM⟩))
  rename_i hHeld
  have hPc2 := k3' hHeld
  clear hHeld
  have hB2 : Below w.heap.size w y2.at' := y2.cat (y.cat hB0.drew hB0.size) (Nat.le_trans hB0.size y.below.size)
  have hr1 : w.heap.size < A.lo := Nat.lt_of_lt_of_le (hPc.drew.later y).lt hA
  have hF2 := hF.below hB2
  have g0 : 1 < A.lo := by have := hF.lt0; omega
  have g1 : 2 < A.lo := by have := hF.lt1; omega
  have hS := cS A _ hF2 g0 g1 hM
  rw [HZ.out] at hS
  generalize hG9 : stV t s (fun _ => 0) = G at hS
  have HG9 := Lib.hid hG9
  clear hG9
  have c0' : y2.at'.cell? ⟨w.heap.size, 0, none⟩ = some (.int .i64 a) := hPc2.at' 0 rfl
  have c1' : y2.at'.cell? ⟨w.heap.size, 1, none⟩ = some (.int .i64 s) := hPc2.at' 1 rfl
  have c2' : y2.at'.cell? ⟨w.heap.size, 2, none⟩ = some (.int .i64 t) := hPc2.at' 2 rfl
  clear cW cN cS k3 k3' hPc hA
  go_wp2_with (first
    | (go_at_call 23; (with_reducible refine hS.mono ?_); rintro _ _ ⟨rfl, z, rfl, ws', n', hM', hlen, hat⟩))
  have hB3 := z.turn.below hB2 (by omega) hB2.size
  go_ret
  rw [HBS.out.symm] at hM'
  exact ⟨A, rfl, by omega, hB3, ws', n', hM', by rw [hlen, HL.out, HN9.out], fun q => by rw [hat, HG9.out]⟩
end Go.Proofs.YtfomephgallpmaaDoor
