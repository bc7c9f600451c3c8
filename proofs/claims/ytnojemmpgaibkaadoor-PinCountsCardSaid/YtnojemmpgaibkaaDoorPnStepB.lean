/-
  The steps of a machine that pins, or unpins, an object: the Cas of its entry.
  Conditions: none but that the machine and plain cells lie there, and the table of fields reads as it is laid.
-/
import Derived.Test.YtnojemmpgaibkaaDoorPnStepA
import Derived.Test.YtnojemmpgaibkaaDoorRdBase
import Derived.Test.YtnojemmpgaibkaaDoorHandleWalks4
import Derived.Test.YtnojemmpgaibkaaDoorEntryTurns
import Derived.Deep.RegionHeld3
import Derived.Deep.CutRange
import Derived.BigQuiet
namespace Go.Proofs.YtnojemmpgaibkaaDoor
open Go.RowKit
attribute [local go_sem] Later.cell Later.frozen Later.lt Later.le Turned.cell_lo Turned.cell_hi Turned.frozen_lo Turned.frozen_hi Turned.lt Turned.le
set_option linter.unusedVariables false
set_option linter.unusedSimpArgs false

section
variable {A : PAt} {ws bs : List Int} {n : Int} {w W : World} {k : Nat} {t s : Int} {M : Pm}
theorem pC5 (h : Fs w k (pmL t s M)) : w.cell? ⟨k, 0, none⟩ = some (.int .i64 t) ∧ w.cell? ⟨k, 1, none⟩ = some (.int .i64 s) ∧ w.cell? ⟨k, 3, none⟩ = some (.int .i64 M.slot) ∧ w.cell? ⟨k, 8, none⟩ = some (.int .i64 M.word) ∧ w.cell? ⟨k, 9, none⟩ = some (.int .i64 M.nx) ∧ Fs w k (pmL t s M) := ⟨h.at' 0 rfl, h.at' 1 rfl, h.at' 3 rfl, h.at' 8 rfl, h.at' 9 rfl, h⟩
theorem pC5L {a b c d e : Prop} {L : List Value} (h : a ∧ b ∧ c ∧ d ∧ e ∧ Fs w k L) : Fs w k L := h.2.2.2.2.2
set_option maxHeartbeats 4000000 in
theorem pce_any (hS : ESeat w A k t s) (hM : Mem w A ws bs n) (hP : Fs w k (pmL t s M)) :
    Calls Tryd.prog 77 #[.pointer (some ⟨k, 0, none⟩), ifc A] w (SRet A k w (.tuple #[]) (pmL t s (pm2 (casB ws (partN t s M.slot 0) M.word) M)) (casW ws (partN t s M.slot 0) M.word M.nx) bs) := by
  have hen := fun W => LEntry_any (t := t) (s := s) (by have := hS.t0; omega) hS.t4 (by have := hS.s0; omega) hS.s64 M.slot W
  have hcs := fun (n : Int) (W : World) (h : Mem W A ws bs n) => Cas_any (partN t s M.slot 0) M.word M.nx h
  have hk := hS.hk
  have hns := nil_Cas
  have hms := met_Cas
  have hPd := hP.drew
  generalize casW ws (partN t s M.slot 0) M.word M.nx = ws' at hcs ⊢
  generalize casB ws (partN t s M.slot 0) M.word = b at hcs ⊢
  generalize partN t s M.slot 0 = pl at hen hcs
  clear hS
  unfold ifc
  go_enter Tryd.func77, Tryd.ntmps77
  go_wp2_with fail
  go_region_held3 (fun w' => w'.cell? ⟨k, 0, none⟩ = some (.int .i64 t) ∧ w'.cell? ⟨k, 1, none⟩ = some (.int .i64 s) ∧ w'.cell? ⟨k, 3, none⟩ = some (.int .i64 M.slot) ∧ w'.cell? ⟨k, 8, none⟩ = some (.int .i64 M.word) ∧ w'.cell? ⟨k, 9, none⟩ = some (.int .i64 M.nx) ∧ Fs w' k (pmL t s M)) (first
    | exact pC5 hP
    | exact pC5 hPd
    | assumption
    | exact pC5 ((pC5L ‹_ ∧ _›).later _)
    | exact pC5 ((pC5L ‹_ ∧ _›).touch (Turned.turn _) (Or.inr hk))) (first
    | (go_at_call 90; refine (hen _).mono ?_; rintro _ _ ⟨rfl, y, rfl⟩; have hPy := hPd.later y)
    | (go_at_call 136; refine (hcs _ _ (hM.drew.later y)).mono ?_; rintro _ _ ⟨rfl, z, rfl, hM2⟩; have hPz := hPy.touch z.turn (Or.inr hk)))
  all_goals
    have hV2 : Moved (spanS A k) w z.at' := (((Moved.refl _ _).drew).later y).touch z.turn spanS_in
    rename_i hHeld
    clear hHeld
    generalize z.at' = W at hM2 hPz hV2 ⊢
    generalize up n = m at hM2
    have b7 : W.cell? ⟨k, 7, none⟩ = some (.int .i64 M.step) := hPz.at' 7 rfl
    have f7 := hPz.fz 7
    have he := pend_any hPz 0
    have hfin := pEnd hV2 ⟨m, hM2⟩ hPz hk 0
    clear hns hms hcs hen hM hPd hPy hP z y
    cases b
    · go_wp2_with fail
      first | go_end0 | refine bodyPost_ret (results_none rfl _ _ _) rfl ?_
      exact ⟨rfl, hV2.setCell _ _ spanS_self, ⟨m, hM2.setOther _ _ (Or.inr hk)⟩, hPz.set 7 (by simp [pmL]) _⟩
    · clear b7 f7
      go_wp2_with (go_at_call 95; (with_reducible refine he.mono ?_); rintro _ _ ⟨rfl, rfl⟩)
      first | go_end0 | refine bodyPost_ret (results_none rfl _ _ _) rfl ?_
      exact hfin
end
end Go.Proofs.YtnojemmpgaibkaaDoor
