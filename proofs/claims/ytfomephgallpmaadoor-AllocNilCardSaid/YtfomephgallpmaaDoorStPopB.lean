/-
  What a Pop's second and third steps do, and a step of it.
  Conditions: none but that the machine and such cells lie there, and the tables read as they are laid.
-/
import Derived.Test.YtfomephgallpmaaDoorStPop
namespace Go.Proofs.YtfomephgallpmaaDoor
open Go.RowKit
attribute [local go_sem] Later.cell Later.frozen Later.lt Later.le Turned.cell_lo Turned.cell_hi Turned.frozen_lo Turned.frozen_hi Turned.lt Turned.le
set_option linter.unusedVariables false

section
variable {A : PAt} {ws bs : List Int} {n : Int} {w : World} {k : Nat} {t s : Int} {M : Mc}

theorem popK3 (h : Fs w k (popL t s M)) : w.cell? ⟨k, 0, none⟩ = some (.int .i64 t) ∧ w.cell? ⟨k, 1, none⟩ = some (.int .i64 s) ∧ w.cell? ⟨k, 5, none⟩ = some (.int .i64 M.slot) ∧ Fs w k (popL t s M) := ⟨h.at' 0 rfl, h.at' 1 rfl, h.at' 5 rfl, h⟩
theorem popK4 (h : Fs w k (popL t s M)) : w.cell? ⟨k, 0, none⟩ = some (.int .i64 t) ∧ w.cell? ⟨k, 1, none⟩ = some (.int .i64 s) ∧ w.cell? ⟨k, 3, none⟩ = some (.int .i64 M.word) ∧ w.cell? ⟨k, 4, none⟩ = some (.int .i64 M.next) ∧ Fs w k (popL t s M) := ⟨h.at' 0 rfl, h.at' 1 rfl, h.at' 3 rfl, h.at' 4 rfl, h⟩
theorem last3 {a b c : Prop} {L : List Value} (h : a ∧ b ∧ c ∧ Fs w k L) : Fs w k L := h.2.2.2
theorem last4 {a b c d : Prop} {L : List Value} (h : a ∧ b ∧ c ∧ d ∧ Fs w k L) : Fs w k L := h.2.2.2.2

set_option maxHeartbeats 4000000 in
theorem popLink_any (l : Int) (hle : atI ws (partN t s M.slot 2) = l) (hS : Seat w A k t s) (hM : Mem w A ws bs n) (hP : Fs w k (popL t s M)) (hx : M.word ≤ 9223372036854775807) :
    Calls Tryd.prog 71 #[.pointer (some ⟨k, 0, none⟩), ifc A] w (SRet A k w (.tuple #[.int .i64 (pop2 l M ws).slot, .int .i64 (pop2 l M ws).err, .bool (pop2 l M ws).done]) (popL t s (pop2 l M ws).m) (pop2 l M ws).ws bs) := by
  have hlk := fun W => LLink_any (t := t) (s := s) (by have := hS.t0; omega) hS.t4 (by have := hS.s0; omega) hS.s64 M.slot W
  have hld := fun (W : World) (h : Mem W A ws bs n) => Load_any (partN t s M.slot 2) h
  rw [hle] at hld
  clear hle
  generalize partN t s M.slot 2 = pl at hlk hld
  have hk := hS.hk
  have hns := nil_Load
  have hms := met_Load
  have hPd := hP.drew
  have c3 : w.cell? ⟨k, 3, none⟩ = some (.int .i64 M.word) := hP.at' 3 rfl
  unfold ifc
  go_enter Tryd.func71, Tryd.ntmps71
  go_wp2_with fail
  go_region_held3 (fun w' => w'.cell? ⟨k, 0, none⟩ = some (.int .i64 t) ∧ w'.cell? ⟨k, 1, none⟩ = some (.int .i64 s) ∧ w'.cell? ⟨k, 5, none⟩ = some (.int .i64 M.slot) ∧ Fs w' k (popL t s M)) (first
    | exact popK3 hP
    | exact popK3 hPd
    | assumption
    | exact popK3 ((last3 ‹_ ∧ _›).later _)
    | exact popK3 ((last3 ‹_ ∧ _›).touch (Turned.turn _) (Or.inr hk))) (first
    | (go_at_call 49; refine (hlk _).mono ?_; rintro _ _ ⟨rfl, y, rfl⟩; have hPy := hPd.later y)
    | (go_at_call 16; refine (hld _ (hM.drew.later y)).mono ?_; rintro _ _ ⟨rfl, z, rfl, hM1⟩; have hPz := hPy.touch z.turn (Or.inr hk)))
  all_goals
    have hV1 : Moved (spanS A k) w z.at' := (((Moved.refl _ _).drew).later y).touch z.turn spanS_in
    rename_i hHeld
    clear hHeld
    generalize z.at' = W at hM1 hPz hV1 ⊢
    generalize up n = m at hM1
    have hF1 := (hS.moved hV1).hF
    have b3 : W.cell? ⟨k, 3, none⟩ = some (.int .i64 M.word) := hPz.at' 3 rfl
    have hpo := HdPop_any M.word l hx W hF1
    clear hns hms hld hlk c3 hM hPd hPy z y
    by_cases h0 : popE M.word l = 0
    · have E := Lib.hid (show pop2 l M ws = ⟨0, 0, false, { M with next := popV M.word l, step := 2 }, ws⟩ from if_pos h0)
      rw [h0] at hpo
      go_wp2_with (first
        | (go_at_call 85; (with_reducible refine hpo.mono ?_); rintro _ _ ⟨rfl, x1, rfl⟩; have hP2 := hPz.later x1; have d2 : x1.at'.cell? ⟨k, 2, none⟩ = some (.int .i64 M.step) := hP2.at' 2 rfl; have d4 : x1.at'.cell? ⟨k, 4, none⟩ = some (.int .i64 M.next) := hP2.at' 4 rfl; have g2 := hP2.fz 2; have g4 := hP2.fz 4))
      go_ret3
      rw [E.out]
      exact ⟨rfl, ((hV1.later x1).setCell _ _ spanS_self).setCell _ _ spanS_self, ⟨m, ((hM1.later x1).setOther _ _ (Or.inr hk)).setOther _ _ (Or.inr hk)⟩, (hP2.set 4 (by simp [popL]) _).set 2 (by simp [popL]) _⟩
    · have E := Lib.hid (show pop2 l M ws = ⟨0, 2, true, { M with step := 3 }, ws⟩ from if_neg h0)
      have hdd : decide (popE M.word l = 0) = false := decide_eq_false h0
      generalize popE M.word l = pe at hpo h0 hdd
      go_wp2_with (first
        | (go_at_call 85; (with_reducible refine hpo.mono ?_); rintro _ _ ⟨rfl, x1, rfl⟩; have hP2 := hPz.later x1)
        | (go_at_call 83; (with_reducible refine (popFail_any 2 hP2 _ rfl).mono ?_); rintro _ _ ⟨rfl, rfl⟩))
      go_ret3
      rw [E.out]
      exact ⟨rfl, (hV1.later x1).setCell _ _ spanS_self, ⟨m, (hM1.later x1).setOther _ _ (Or.inr hk)⟩, hP2.set 2 (by simp [popL]) _⟩

set_option maxHeartbeats 4000000 in
theorem popCas_any (hS : Seat w A k t s) (hM : Mem w A ws bs n) (hP : Fs w k (popL t s M)) :
    Calls Tryd.prog 72 #[.pointer (some ⟨k, 0, none⟩), ifc A] w (SRet A k w (.tuple #[.int .i64 (pop3 M ws).slot, .int .i64 (pop3 M ws).err, .bool (pop3 M ws).done]) (popL t s (pop3 M ws).m) (pop3 M ws).ws bs) := by
  have hst := fun W => LStack_ok (t := t) (s := s) hS.t0 W
  have hcs := fun (W : World) (h : Mem W A ws bs n) => Cas_any 1 M.word M.next h
  have hk := hS.hk
  have hns := nil_Cas
  have hms := met_Cas
  have hPd := hP.drew
  have E := Lib.hid (show pop3 M ws = if casB ws 1 M.word then ⟨M.slot, 0, true, { M with step := 3 }, casW ws 1 M.word M.next⟩ else ⟨0, 0, false, { M with step := 0 }, casW ws 1 M.word M.next⟩ from by
    unfold pop3
    by_cases h : casB ws 1 M.word = true
    · rw [if_pos h, if_pos h]
    · rw [if_neg h, if_neg h, casW_no (by simpa using h)])
  generalize casW ws 1 M.word M.next = ws' at hcs E
  generalize casB ws 1 M.word = b at hcs E
  unfold ifc
  go_enter Tryd.func72, Tryd.ntmps72
  go_wp2_with fail
  go_region_held3 (fun w' => w'.cell? ⟨k, 0, none⟩ = some (.int .i64 t) ∧ w'.cell? ⟨k, 1, none⟩ = some (.int .i64 s) ∧ w'.cell? ⟨k, 3, none⟩ = some (.int .i64 M.word) ∧ w'.cell? ⟨k, 4, none⟩ = some (.int .i64 M.next) ∧ Fs w' k (popL t s M)) (first
    | exact popK4 hP
    | exact popK4 hPd
    | assumption
    | exact popK4 ((last4 ‹_ ∧ _›).later _)
    | exact popK4 ((last4 ‹_ ∧ _›).touch (Turned.turn _) (Or.inr hk))) (first
    | (go_at_call 51; refine (hst _).mono ?_; rintro _ _ ⟨rfl, y, rfl⟩; have hPy := hPd.later y)
    | (go_at_call 116; refine (hcs _ (hM.drew.later y)).mono ?_; rintro _ _ ⟨rfl, z, rfl, hM1⟩; have hPz := hPy.touch z.turn (Or.inr hk)))
  all_goals
    have hV1 : Moved (spanS A k) w z.at' := (((Moved.refl _ _).drew).later y).touch z.turn spanS_in
    rename_i hHeld
    clear hHeld
    generalize z.at' = W at hM1 hPz hV1 ⊢
    generalize up n = m at hM1
    have b2 : W.cell? ⟨k, 2, none⟩ = some (.int .i64 M.step) := hPz.at' 2 rfl
    have b5 : W.cell? ⟨k, 5, none⟩ = some (.int .i64 M.slot) := hPz.at' 5 rfl
    have f2 := hPz.fz 2
    clear hns hms hcs hst hM hPd hPy z y
    cases b
    · go_wp2_with fail
      go_ret3
      rw [E.out]
      exact ⟨rfl, hV1.setCell _ _ spanS_self, ⟨m, hM1.setOther _ _ (Or.inr hk)⟩, hPz.set 2 (by simp [popL]) _⟩
    · go_wp2_with fail
      go_ret3
      rw [E.out]
      exact ⟨rfl, hV1.setCell _ _ spanS_self, ⟨m, hM1.setOther _ _ (Or.inr hk)⟩, hPz.set 2 (by simp [popL]) _⟩
end
end Go.Proofs.YtfomephgallpmaaDoor
