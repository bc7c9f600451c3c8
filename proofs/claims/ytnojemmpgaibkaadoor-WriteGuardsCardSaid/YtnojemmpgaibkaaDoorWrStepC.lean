/-
  The steps of a machine that writes a byte: the Cas of its entry.
  Conditions: none but that the machine and plain cells lie there.
-/
import Derived.Test.YtnojemmpgaibkaaDoorWrStepB
import Derived.Test.YtnojemmpgaibkaaDoorRdBase
import Derived.Test.YtnojemmpgaibkaaDoorHandleWalks4
import Derived.Deep.RegionHeld3
import Derived.Deep.CutRange
import Derived.BigQuiet
namespace Go.Proofs.YtnojemmpgaibkaaDoor
open Go.RowKit
attribute [local go_sem] Later.cell Later.frozen Later.lt Later.le Turned.cell_lo Turned.cell_hi Turned.frozen_lo Turned.frozen_hi Turned.lt Turned.le
set_option linter.unusedVariables false
set_option linter.unusedSimpArgs false

section
variable {A : PAt} {ws bs : List Int} {n : Int} {w W : World} {k : Nat} {t s : Int} {M : Wm}
theorem wC4 (h : Fs w k (wmL t s M)) : w.cell? ⟨k, 0, none⟩ = some (.int .i64 t) ∧ w.cell? ⟨k, 1, none⟩ = some (.int .i64 s) ∧ w.cell? ⟨k, 3, none⟩ = some (.int .i64 M.slot) ∧ w.cell? ⟨k, 8, none⟩ = some (.int .i64 M.word) ∧ Fs w k (wmL t s M) := ⟨h.at' 0 rfl, h.at' 1 rfl, h.at' 3 rfl, h.at' 8 rfl, h⟩
theorem wC4L {a b c d : Prop} {L : List Value} (h : a ∧ b ∧ c ∧ d ∧ Fs w k L) : Fs w k L := h.2.2.2.2
set_option maxHeartbeats 4000000 in
theorem wtg_any (hS : ESeat w A k t s) (hM : Mem w A ws bs n) (hP : Fs w k (wmL t s M)) :
    Calls Tryd.prog 68 #[.pointer (some ⟨k, 0, none⟩), ifc A] w (SRet A k w (.tuple #[]) (wmL t s (wm2 (casB ws (partN t s M.slot 0) M.word) M)) (casW ws (partN t s M.slot 0) M.word (guardV 1 M.word)) bs) := by
  have hen := fun W => LEntry_any (t := t) (s := s) (by have := hS.t0; omega) hS.t4 (by have := hS.s0; omega) hS.s64 M.slot W
  have hgd := fun W => Guard_any M.word 1 W
  have hcs := fun (n : Int) (W : World) (h : Mem W A ws bs n) => Cas_any (partN t s M.slot 0) M.word (guardV 1 M.word) h
  have hk := hS.hk
  have hns := nil_Cas
  have hms := met_Cas
  have hE0 := hS.hE
  have c8 : w.cell? ⟨k, 8, none⟩ = some (.int .i64 M.word) := hP.at' 8 rfl
  generalize casW ws (partN t s M.slot 0) M.word (guardV 1 M.word) = ws' at hcs ⊢
  generalize casB ws (partN t s M.slot 0) M.word = b at hcs ⊢
  generalize guardV 1 M.word = gv at hgd hcs
  generalize guardC 1 M.word = gc at hgd
  generalize partN t s M.slot 0 = pl at hen hcs
  clear hS
  unfold ifc
  go_enter Tryd.func68, Tryd.ntmps68
  go_wp2_with (go_at_call 92; (with_reducible refine (hgd _ hE0).mono ?_); rintro _ _ ⟨rfl, u, rfl⟩)
  have hP1 := hP.later u
  have hM1 := hM.later u
  have hV1 : Moved (spanS A k) w u.at' := (Moved.refl _ _).later u
  clear hP hM hE0 hgd c8
  generalize u.at' = U at hP1 hM1 hV1 ⊢
  have hPd := hP1.drew
  go_region_held3 (fun w' => w'.cell? ⟨k, 0, none⟩ = some (.int .i64 t) ∧ w'.cell? ⟨k, 1, none⟩ = some (.int .i64 s) ∧ w'.cell? ⟨k, 3, none⟩ = some (.int .i64 M.slot) ∧ w'.cell? ⟨k, 8, none⟩ = some (.int .i64 M.word) ∧ Fs w' k (wmL t s M)) (first
    | exact wC4 hP1
    | exact wC4 hPd
    | assumption
    | exact wC4 ((wC4L ‹_ ∧ _›).later _)
    | exact wC4 ((wC4L ‹_ ∧ _›).touch (Turned.turn _) (Or.inr hk))) (first
    | (go_at_call 90; refine (hen _).mono ?_; rintro _ _ ⟨rfl, y, rfl⟩; have hPy := hPd.later y)
    | (go_at_call 136; refine (hcs _ _ (hM1.drew.later y)).mono ?_; rintro _ _ ⟨rfl, z, rfl, hM2⟩; have hPz := hPy.touch z.turn (Or.inr hk)))
  all_goals
    have hV2 : Moved (spanS A k) w z.at' := ((hV1.drew).later y).touch z.turn spanS_in
    rename_i hHeld
    clear hHeld
    generalize z.at' = W at hM2 hPz hV2 ⊢
    generalize up n = m at hM2
    have b7 : W.cell? ⟨k, 7, none⟩ = some (.int .i64 M.step) := hPz.at' 7 rfl
    have f7 := hPz.fz 7
    clear hns hms hcs hen hM1 hPd hPy hP1 hV1 z y
    cases b
    · go_wp2_with fail
      first | go_end0 | refine bodyPost_ret (results_none rfl _ _ _) rfl ?_
      exact ⟨rfl, hV2.setCell _ _ spanS_self, ⟨m, hM2.setOther _ _ (Or.inr hk)⟩, hPz.set 7 (by simp [wmL]) _⟩
    · go_wp2_with fail
      first | go_end0 | refine bodyPost_ret (results_none rfl _ _ _) rfl ?_
      exact ⟨rfl, hV2.setCell _ _ spanS_self, ⟨m, hM2.setOther _ _ (Or.inr hk)⟩, hPz.set 7 (by simp [wmL]) _⟩
set_option maxHeartbeats 4000000 in
theorem wdg_any (hS : ESeat w A k t s) (hM : Mem w A ws bs n) (hP : Fs w k (wmL t s M)) :
    Calls Tryd.prog 72 #[.pointer (some ⟨k, 0, none⟩), ifc A] w (SRet A k w (.tuple #[]) (wmL t s (wm6 (guardC (-1) M.word) (casB ws (partN t s M.slot 0) M.word) M)) (if guardC (-1) M.word = 0 then casW ws (partN t s M.slot 0) M.word (guardV (-1) M.word) else ws) bs) := by
  have hen := fun W => LEntry_any (t := t) (s := s) (by have := hS.t0; omega) hS.t4 (by have := hS.s0; omega) hS.s64 M.slot W
  have hgd := fun W => Guard_any M.word (-1) W
  have hcs := fun (n : Int) (W : World) (h : Mem W A ws bs n) => Cas_any (partN t s M.slot 0) M.word (guardV (-1) M.word) h
  have hk := hS.hk
  have hns := nil_Cas
  have hms := met_Cas
  have hE0 := hS.hE
  have c8 : w.cell? ⟨k, 8, none⟩ = some (.int .i64 M.word) := hP.at' 8 rfl
  generalize casW ws (partN t s M.slot 0) M.word (guardV (-1) M.word) = ws' at hcs ⊢
  generalize casB ws (partN t s M.slot 0) M.word = b at hcs ⊢
  generalize guardV (-1) M.word = gv at hgd hcs
  generalize guardC (-1) M.word = gc at hgd ⊢
  generalize partN t s M.slot 0 = pl at hen hcs
  clear hS
  unfold ifc
  by_cases h0 : gc = 0
  · subst h0
    rw [if_pos rfl]
    go_enter Tryd.func72, Tryd.ntmps72
    go_wp2_with (go_at_call 92; (with_reducible refine (hgd _ hE0).mono ?_); rintro _ _ ⟨rfl, u, rfl⟩)
    have hP1 := hP.later u
    have hM1 := hM.later u
    have hV1 : Moved (spanS A k) w u.at' := (Moved.refl _ _).later u
    clear hP hM hE0 hgd c8
    generalize u.at' = U at hP1 hM1 hV1 ⊢
    have hPd := hP1.drew
    go_region_held3 (fun w' => w'.cell? ⟨k, 0, none⟩ = some (.int .i64 t) ∧ w'.cell? ⟨k, 1, none⟩ = some (.int .i64 s) ∧ w'.cell? ⟨k, 3, none⟩ = some (.int .i64 M.slot) ∧ w'.cell? ⟨k, 8, none⟩ = some (.int .i64 M.word) ∧ Fs w' k (wmL t s M)) (first
      | exact wC4 hP1
      | exact wC4 hPd
      | assumption
      | exact wC4 ((wC4L ‹_ ∧ _›).later _)
      | exact wC4 ((wC4L ‹_ ∧ _›).touch (Turned.turn _) (Or.inr hk))) (first
      | (go_at_call 90; refine (hen _).mono ?_; rintro _ _ ⟨rfl, y, rfl⟩; have hPy := hPd.later y)
      | (go_at_call 136; refine (hcs _ _ (hM1.drew.later y)).mono ?_; rintro _ _ ⟨rfl, z, rfl, hM2⟩; have hPz := hPy.touch z.turn (Or.inr hk)))
    all_goals
      have hV2 : Moved (spanS A k) w z.at' := ((hV1.drew).later y).touch z.turn spanS_in
      rename_i hHeld
      clear hHeld
      generalize z.at' = W at hM2 hPz hV2 ⊢
      generalize up n = m at hM2
      have b7 : W.cell? ⟨k, 7, none⟩ = some (.int .i64 M.step) := hPz.at' 7 rfl
      have f7 := hPz.fz 7
      clear hns hms hcs hen hM1 hPd hPy hP1 hV1 z y
      cases b
      · go_wp2_with fail
        first | go_end0 | refine bodyPost_ret (results_none rfl _ _ _) rfl ?_
        exact ⟨rfl, hV2.setCell _ _ spanS_self, ⟨m, hM2.setOther _ _ (Or.inr hk)⟩, hPz.set 7 (by simp [wmL]) _⟩
      · go_wp2_with fail
        first | go_end0 | refine bodyPost_ret (results_none rfl _ _ _) rfl ?_
        exact ⟨rfl, hV2.setCell _ _ spanS_self, ⟨m, hM2.setOther _ _ (Or.inr hk)⟩, hPz.set 7 (by simp [wmL]) _⟩
  · rw [if_neg h0]
    have E := Lib.hid (show wm6 gc b M = { M with step := 0 } from if_neg h0)
    have h1 : decide (gc = 0) = false := decide_eq_false h0
    have h2 : (gc == 0) = false := by simpa using h0
    clear hcs hen hns hms
    go_enter Tryd.func72, Tryd.ntmps72
    go_wp2_with (go_at_call 92; (with_reducible refine (hgd _ hE0).mono ?_); rintro _ _ ⟨rfl, u, rfl⟩)
    have hP1 := hP.later u
    have hM1 := hM.later u
    have hV1 : Moved (spanS A k) w u.at' := (Moved.refl _ _).later u
    clear hP hM hE0 hgd c8
    generalize u.at' = U at hP1 hM1 hV1 ⊢
    refine wp_region_later (by kernel_rfl) (by kernel_rfl) ?_
    repeat (go_big_quiet_step (fail))
    refine wpQuiet_nil ?_
    rintro _ ⟨x9, rfl⟩
    have hP2 := hP1.later x9
    have hM2 := hM1.later x9
    have hV2 := hV1.later x9
    clear hP1 hM1 hV1
    generalize x9.at' = W at hP2 hM2 hV2 ⊢
    have b7 : W.cell? ⟨k, 7, none⟩ = some (.int .i64 M.step) := hP2.at' 7 rfl
    have f7 := hP2.fz 7
    go_wp2_with fail
    first | go_end0 | refine bodyPost_ret (results_none rfl _ _ _) rfl ?_
    rw [E.out]
    exact ⟨rfl, hV2.setCell _ _ spanS_self, ⟨_, hM2.setOther _ _ (Or.inr hk)⟩, hP2.set 7 (by simp [wmL]) _⟩
end
end Go.Proofs.YtnojemmpgaibkaaDoor
