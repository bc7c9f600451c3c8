/-
  What a Push's second and third steps do, and a step of it, whatever it has come to; of one that is none, or has no cells.
  Conditions: none but that the machine and such cells lie there, and the tables read as they are laid.
-/
import Derived.Test.YtfomephgallpmaaDoorStPush
namespace Go.Proofs.YtfomephgallpmaaDoor
open Go.RowKit
attribute [local go_sem] Later.cell Later.frozen Later.lt Later.le Turned.cell_lo Turned.cell_hi Turned.frozen_lo Turned.frozen_hi Turned.lt Turned.le
set_option linter.unusedVariables false

theorem pushStep_nil (m : Value) (w : World) : Calls Tryd.prog 59 #[.pointer none, m] w fun e w' => e = .returned (.tuple #[.int .i64 1, .bool true]) ∧ w = w' := by
  go_enter Tryd.func59, Tryd.ntmps59
  go_wp2
  go_ret2
  exact ⟨rfl, rfl⟩
theorem pushStep_none (a : Addr) (w : World) : Calls Tryd.prog 59 #[.pointer (some a), .nilIface] w fun e w' => e = .returned (.tuple #[.int .i64 1, .bool true]) ∧ w = w' := by
  go_enter Tryd.func59, Tryd.ntmps59
  go_wp2
  go_ret2
  exact ⟨rfl, rfl⟩

section
variable {A : PAt} {ws bs : List Int} {n : Int} {w : World} {k : Nat} {t s : Int} {M : Mc}

theorem pushK4 (h : Fs w k (pushC t s M)) : w.cell? ⟨k, 0, none⟩ = some (.int .i64 t) ∧ w.cell? ⟨k, 1, none⟩ = some (.int .i64 s) ∧ w.cell? ⟨k, 2, none⟩ = some (.int .i64 M.slot) ∧ w.cell? ⟨k, 6, none⟩ = some (.int .i64 M.link) ∧ Fs w k (pushC t s M) := ⟨h.at' 0 rfl, h.at' 1 rfl, h.at' 2 rfl, h.at' 6 rfl, h⟩
theorem pushK5 (h : Fs w k (pushC t s M)) : w.cell? ⟨k, 0, none⟩ = some (.int .i64 t) ∧ w.cell? ⟨k, 1, none⟩ = some (.int .i64 s) ∧ w.cell? ⟨k, 4, none⟩ = some (.int .i64 M.word) ∧ w.cell? ⟨k, 5, none⟩ = some (.int .i64 M.next) ∧ Fs w k (pushC t s M) := ⟨h.at' 0 rfl, h.at' 1 rfl, h.at' 4 rfl, h.at' 5 rfl, h⟩
theorem lastP {a b c d : Prop} {L : List Value} (h : a ∧ b ∧ c ∧ d ∧ Fs w k L) : Fs w k L := h.2.2.2.2

set_option maxHeartbeats 8000000 in
theorem pushLink_any (p : Int) (hpe : partN t s M.slot 2 = p) (hS : Seat w A k t s) (hM : Mem w A ws bs n) (hP : Fs w k (pushC t s M)) :
    Calls Tryd.prog 74 #[.pointer (some ⟨k, 0, none⟩), ifc A] w (SRet A k w (.tuple #[.int .i64 (push2 p M ws).err, .bool (push2 p M ws).done]) (pushC t s (push2 p M ws).m) (push2 p M ws).ws bs) := by
  have hlk := fun W => LLink_any (t := t) (s := s) (by have := hS.t0; omega) hS.t4 (by have := hS.s0; omega) hS.s64 M.slot W
  have hsr := fun (W : World) (h : Mem W A ws bs n) => Store_any p M.link h
  rw [hpe] at hlk
  clear hpe
  have E := Lib.hid (show push2 p M ws = ⟨0, 0, false, { M with step := 2 }, setI ws p M.link⟩ from rfl)
  generalize setI ws p M.link = ws' at hsr E
  have hk := hS.hk
  have hns := nil_Store
  have hms := met_Store
  have hPd := hP.drew
  unfold ifc
  go_enter Tryd.func74, Tryd.ntmps74
  go_wp2_with fail
  go_region_held3 (fun w' => w'.cell? ⟨k, 0, none⟩ = some (.int .i64 t) ∧ w'.cell? ⟨k, 1, none⟩ = some (.int .i64 s) ∧ w'.cell? ⟨k, 2, none⟩ = some (.int .i64 M.slot) ∧ w'.cell? ⟨k, 6, none⟩ = some (.int .i64 M.link) ∧ Fs w' k (pushC t s M)) (first
    | exact pushK4 hP
    | exact pushK4 hPd
    | assumption
    | exact pushK4 ((lastP ‹_ ∧ _›).later _)
    | exact pushK4 ((lastP ‹_ ∧ _›).touch (Turned.turn _) (Or.inr hk))) (first
    | (go_at_call 49; refine (hlk _).mono ?_; rintro _ _ ⟨rfl, y, rfl⟩; have hPy := hPd.later y)
    | (go_at_call 117; refine (hsr _ (hM.drew.later y)).mono ?_; rintro _ _ ⟨rfl, z, rfl, hM1⟩; have hPz := hPy.touch z.turn (Or.inr hk)))
  all_goals
    have hV1 : Moved (spanS A k) w z.at' := (((Moved.refl _ _).drew).later y).touch z.turn spanS_in
    rename_i hHeld
    clear hHeld
    generalize z.at' = W at hM1 hPz hV1 ⊢
    generalize up n = m at hM1
    have b3 : W.cell? ⟨k, 3, none⟩ = some (.int .i64 M.step) := hPz.at' 3 rfl
    have f3 := hPz.fz 3
    clear hns hms hsr hlk hM hPd hPy z y
    go_wp2_with fail
    go_ret2
    rw [E.out]
    exact ⟨rfl, hV1.setCell _ _ spanS_self, ⟨m, hM1.setOther _ _ (Or.inr hk)⟩, hPz.set 3 (by simp [pushC]) _⟩

set_option maxHeartbeats 8000000 in
theorem pushCas_any (hS : Seat w A k t s) (hM : Mem w A ws bs n) (hP : Fs w k (pushC t s M)) :
    Calls Tryd.prog 75 #[.pointer (some ⟨k, 0, none⟩), ifc A] w (SRet A k w (.tuple #[.int .i64 (push3 M ws).err, .bool (push3 M ws).done]) (pushC t s (push3 M ws).m) (push3 M ws).ws bs) := by
  have hst := fun W => LStack_ok (t := t) (s := s) hS.t0 W
  have hcs := fun (W : World) (h : Mem W A ws bs n) => Cas_any 1 M.word M.next h
  have hk := hS.hk
  have hns := nil_Cas
  have hms := met_Cas
  have hPd := hP.drew
  have E := Lib.hid (show push3 M ws = if casB ws 1 M.word then ⟨0, 0, true, { M with step := 3 }, casW ws 1 M.word M.next⟩ else ⟨0, 0, false, { M with step := 0 }, casW ws 1 M.word M.next⟩ from by
    unfold push3
    by_cases h : casB ws 1 M.word = true
    · rw [if_pos h, if_pos h]
    · rw [if_neg h, if_neg h, casW_no (by simpa using h)])
  generalize casW ws 1 M.word M.next = ws' at hcs E
  generalize casB ws 1 M.word = b at hcs E
  unfold ifc
  go_enter Tryd.func75, Tryd.ntmps75
  go_wp2_with fail
  go_region_held3 (fun w' => w'.cell? ⟨k, 0, none⟩ = some (.int .i64 t) ∧ w'.cell? ⟨k, 1, none⟩ = some (.int .i64 s) ∧ w'.cell? ⟨k, 4, none⟩ = some (.int .i64 M.word) ∧ w'.cell? ⟨k, 5, none⟩ = some (.int .i64 M.next) ∧ Fs w' k (pushC t s M)) (first
    | exact pushK5 hP
    | exact pushK5 hPd
    | assumption
    | exact pushK5 ((lastP ‹_ ∧ _›).later _)
    | exact pushK5 ((lastP ‹_ ∧ _›).touch (Turned.turn _) (Or.inr hk))) (first
    | (go_at_call 51; refine (hst _).mono ?_; rintro _ _ ⟨rfl, y, rfl⟩; have hPy := hPd.later y)
    | (go_at_call 116; refine (hcs _ (hM.drew.later y)).mono ?_; rintro _ _ ⟨rfl, z, rfl, hM1⟩; have hPz := hPy.touch z.turn (Or.inr hk)))
  all_goals
    have hV1 : Moved (spanS A k) w z.at' := (((Moved.refl _ _).drew).later y).touch z.turn spanS_in
    rename_i hHeld
    clear hHeld
    generalize z.at' = W at hM1 hPz hV1 ⊢
    generalize up n = m at hM1
    have b3 : W.cell? ⟨k, 3, none⟩ = some (.int .i64 M.step) := hPz.at' 3 rfl
    have f3 := hPz.fz 3
    clear hns hms hcs hst hM hPd hPy z y
    cases b
    · go_wp2_with fail
      go_ret2
      rw [E.out]
      exact ⟨rfl, hV1.setCell _ _ spanS_self, ⟨m, hM1.setOther _ _ (Or.inr hk)⟩, hPz.set 3 (by simp [pushC]) _⟩
    · go_wp2_with (go_at_call 87; (with_reducible refine (pushEnd_any 0 hPz _ rfl).mono ?_); rintro _ _ ⟨rfl, rfl⟩)
      go_ret2
      rw [E.out]
      exact ⟨rfl, hV1.setCell _ _ spanS_self, ⟨m, hM1.setOther _ _ (Or.inr hk)⟩, hPz.set 3 (by simp [pushC]) _⟩

theorem pushO_0 (h : M.step = 0) : pushO t s M ws = push1 (atI ws 1) (partN t s M.slot 2) M ws := if_pos h
theorem pushO_1 (h : M.step = 1) : pushO t s M ws = push2 (partN t s M.slot 2) M ws := by unfold pushO; rw [if_neg (by omega), if_pos h]
theorem pushO_2 (h : M.step = 2) : pushO t s M ws = push3 M ws := by unfold pushO; rw [if_neg (by omega), if_neg (by omega), if_pos h]
theorem pushO_3 (h0 : M.step ≠ 0) (h1 : M.step ≠ 1) (h2 : M.step ≠ 2) : pushO t s M ws = ⟨0, 1, true, M, ws⟩ := by unfold pushO; rw [if_neg h0, if_neg h1, if_neg h2]

theorem pushStep_any (hS : Seat w A k t s) (hM : Mem w A ws bs n) (hP : Fs w k (pushC t s M)) (hx : atI ws 1 ≤ 9223372036854775807) :
    Calls Tryd.prog 59 #[.pointer (some ⟨k, 0, none⟩), ifc A] w (SRet A k w (.tuple #[.int .i64 (pushO t s M ws).err, .bool (pushO t s M ws).done]) (pushC t s (pushO t s M ws).m) (pushO t s M ws).ws bs) := by
  have c3 : w.cell? ⟨k, 3, none⟩ = some (.int .i64 M.step) := hP.at' 3 rfl
  by_cases h0 : M.step = 0
  · rw [pushO_0 h0]
    have hc := pushLoad_any _ _ rfl rfl hS hM hP hx
    rw [h0] at c3
    generalize push1 (atI ws 1) (partN t s M.slot 2) M ws = o at hc ⊢
    clear hP hM hS h0
    unfold ifc at *
    go_enter Tryd.func59, Tryd.ntmps59
    go_wp2_with (go_at_call 73; (with_reducible refine hc.mono ?_); rintro _ w1 ⟨rfl, hV, hM1, hP1⟩)
    go_ret2
    exact ⟨rfl, hV, hM1, hP1⟩
  · by_cases h1 : M.step = 1
    · rw [pushO_1 h1]
      have hc := pushLink_any _ rfl hS hM hP
      rw [h1] at c3
      generalize push2 (partN t s M.slot 2) M ws = o at hc ⊢
      clear hP hM hS h0 h1
      unfold ifc at *
      go_enter Tryd.func59, Tryd.ntmps59
      go_wp2_with (go_at_call 74; (with_reducible refine hc.mono ?_); rintro _ w1 ⟨rfl, hV, hM1, hP1⟩)
      go_ret2
      exact ⟨rfl, hV, hM1, hP1⟩
    · by_cases h2 : M.step = 2
      · rw [pushO_2 h2]
        have hc := pushCas_any hS hM hP
        rw [h2] at c3
        generalize push3 M ws = o at hc ⊢
        clear hP hM hS h0 h1 h2
        unfold ifc at *
        go_enter Tryd.func59, Tryd.ntmps59
        go_wp2_with (go_at_call 75; (with_reducible refine hc.mono ?_); rintro _ w1 ⟨rfl, hV, hM1, hP1⟩)
        go_ret2
        exact ⟨rfl, hV, hM1, hP1⟩
      · rw [pushO_3 h0 h1 h2]
        have hd0 : decide (M.step = 0) = false := decide_eq_false h0
        have hd1 : decide (M.step = 1) = false := decide_eq_false h1
        have hd2 : decide (M.step = 2) = false := decide_eq_false h2
        have hM1 : ∃ n, Mem w A ws bs n := ⟨n, hM⟩
        unfold ifc
        clear hM hS
        go_enter Tryd.func59, Tryd.ntmps59
        go_wp2
        go_ret2
        exact ⟨rfl, Moved.refl _ _, hM1, hP⟩
end
end Go.Proofs.YtfomephgallpmaaDoor
