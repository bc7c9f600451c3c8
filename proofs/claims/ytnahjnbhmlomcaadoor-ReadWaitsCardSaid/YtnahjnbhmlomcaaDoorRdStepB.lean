/-
  The steps of a machine that reads a byte, on plain cells: the size, the byte, the entry again; a step of it.
  Conditions: none but that the machine and plain cells lie there, and the table of fields reads as it is laid.
-/
import Derived.Test.YtnahjnbhmlomcaaDoorRdStep
import Derived.BigQuiet
namespace Go.Proofs.YtnahjnbhmlomcaaDoor
open Go.RowKit
attribute [local go_sem] Later.cell Later.frozen Later.lt Later.le Turned.cell_lo Turned.cell_hi Turned.frozen_lo Turned.frozen_hi Turned.lt Turned.le
set_option linter.unusedVariables false
set_option linter.unusedSimpArgs false

section
variable {A : PAt} {ws bs : List Int} {n : Int} {w W : World} {k : Nat} {t s : Int} {M : Rm}
theorem sK3 (h : Fs w k (rmL t s M)) : w.cell? ⟨k, 0, none⟩ = some (.int .i64 t) ∧ w.cell? ⟨k, 1, none⟩ = some (.int .i64 s) ∧ w.cell? ⟨k, 3, none⟩ = some (.int .i64 M.slot) ∧ Fs w k (rmL t s M) := ⟨h.at' 0 rfl, h.at' 1 rfl, h.at' 3 rfl, h⟩
theorem sL3 {L : List Value} {a b c : Prop} (h : a ∧ b ∧ c ∧ Fs w k L) : Fs w k L := h.2.2.2

set_option maxHeartbeats 4000000 in
theorem rls_any (z : Int) (hze : atI ws (partN t s M.slot 1) = z) (hS : ESeat w A k t s) (hM : Mem w A ws bs n) (hP : Fs w k (rmL t s M)) :
    Calls Tryd.prog 35 #[.pointer (some ⟨k, 0, none⟩), ifc A] w (SRet A k w (.tuple #[]) (rmL t s (rm2 z M)) ws bs) := by
  have hlk := fun W => LSize_any (t := t) (s := s) (by have := hS.t0; omega) hS.t4 (by have := hS.s0; omega) hS.s64 M.slot W
  have hld := fun (W : World) (h : Mem W A ws bs n) => Load_any (partN t s M.slot 1) h
  rw [hze] at hld
  clear hze
  generalize partN t s M.slot 1 = pl at hlk hld
  have hk := hS.hk
  have hns := nil_Load
  have hms := met_Load
  have hPd := hP.drew
  clear hS
  unfold ifc
  go_enter Tryd.func35, Tryd.ntmps35
  go_wp2_with fail
  go_region_held3 (fun w' => w'.cell? ⟨k, 0, none⟩ = some (.int .i64 t) ∧ w'.cell? ⟨k, 1, none⟩ = some (.int .i64 s) ∧ w'.cell? ⟨k, 3, none⟩ = some (.int .i64 M.slot) ∧ Fs w' k (rmL t s M)) (first
    | exact sK3 hP
    | exact sK3 hPd
    | assumption
    | exact sK3 ((sL3 ‹_ ∧ _›).later _)
    | exact sK3 ((sL3 ‹_ ∧ _›).touch (Turned.turn _) (Or.inr hk))) (first
    | (go_at_call 46; refine (hlk _).mono ?_; rintro _ _ ⟨rfl, y, rfl⟩; have hPy := hPd.later y)
    | (go_at_call 88; refine (hld _ (hM.drew.later y)).mono ?_; rintro _ _ ⟨rfl, zz, rfl, hM1⟩; have hPz := hPy.touch zz.turn (Or.inr hk)))
  all_goals
    have hV1 : Moved (spanS A k) w zz.at' := (((Moved.refl _ _).drew).later y).touch zz.turn spanS_in
    rename_i hHeld
    clear hHeld
    generalize zz.at' = W at hM1 hPz hV1 ⊢
    generalize up n = m at hM1
    have b5 : W.cell? ⟨k, 5, none⟩ = some (.int .i64 M.off) := hPz.at' 5 rfl
    have b6 : W.cell? ⟨k, 6, none⟩ = some (.int .i64 M.step) := hPz.at' 6 rfl
    have b8 : W.cell? ⟨k, 8, none⟩ = some (.bool M.out) := hPz.at' 8 rfl
    have f6 := hPz.fz 6
    have f8 := hPz.fz 8
    clear hns hms hld hlk hM hPd hPy hP zz y
    by_cases h0 : M.off < 0
    · have E := Lib.hid (show rm2 z M = { M with out := true, step := 4 } from if_pos (Or.inl h0))
      go_wp2_with fail
      first | go_end0 | refine bodyPost_ret (results_none rfl _ _ _) rfl ?_
      rw [E.out]
      exact ⟨rfl, (hV1.setCell _ _ spanS_self).setCell _ _ spanS_self, ⟨m, (hM1.setOther _ _ (Or.inr hk)).setOther _ _ (Or.inr hk)⟩, (hPz.set 8 (by simp [rmL]) _).set 6 (by simp [rmL]) _⟩
    · by_cases h1 : wrap64 (z - 1) < M.off
      · have E := Lib.hid (show rm2 z M = { M with out := true, step := 4 } from if_pos (Or.inr h1))
        go_wp2_with fail
        first | go_end0 | refine bodyPost_ret (results_none rfl _ _ _) rfl ?_
        rw [E.out]
        exact ⟨rfl, (hV1.setCell _ _ spanS_self).setCell _ _ spanS_self, ⟨m, (hM1.setOther _ _ (Or.inr hk)).setOther _ _ (Or.inr hk)⟩, (hPz.set 8 (by simp [rmL]) _).set 6 (by simp [rmL]) _⟩
      · have E := Lib.hid (show rm2 z M = { M with out := false, step := 3 } from if_neg (not_or.2 ⟨h0, h1⟩))
        go_wp2_with fail
        first | go_end0 | refine bodyPost_ret (results_none rfl _ _ _) rfl ?_
        rw [E.out]
        exact ⟨rfl, (hV1.setCell _ _ spanS_self).setCell _ _ spanS_self, ⟨m, (hM1.setOther _ _ (Or.inr hk)).setOther _ _ (Or.inr hk)⟩, (hPz.set 8 (by simp [rmL]) _).set 6 (by simp [rmL]) _⟩

theorem kB {u5 u7 : Value} (h : w.cell? ⟨k, 5, none⟩ = some u5 ∧ w.cell? ⟨k, 7, none⟩ = some u7) (hlt : k < w.heap.size) {lo hi : Nat} (hk : k < lo ∨ hi ≤ k) (z : Turned lo hi w) : z.at'.cell? ⟨k, 5, none⟩ = some u5 ∧ z.at'.cell? ⟨k, 7, none⟩ = some u7 :=
  ⟨(z.turn.cell _ _ _ hlt hk).trans h.1, (z.turn.cell _ _ _ hlt hk).trans h.2⟩
theorem kB9 {u5 u7 v : Value} (h : w.cell? ⟨k, 5, none⟩ = some u5 ∧ w.cell? ⟨k, 7, none⟩ = some u7) : (w.setCell ⟨k, 9, none⟩ v).cell? ⟨k, 5, none⟩ = some u5 ∧ (w.setCell ⟨k, 9, none⟩ v).cell? ⟨k, 7, none⟩ = some u7 :=
  ⟨by rw [World.cell?_setCell_other _ _ _ _ (by simp)]; exact h.1, by rw [World.cell?_setCell_other _ _ _ _ (by simp)]; exact h.2⟩
set_option maxHeartbeats 4000000 in
theorem rlb_any (y : Int) (hye : atI bs (wrap64 (M.base + M.off)) = y) (hS : ESeat w A k t s) (hM : Mem w A ws bs n) (hP : Fs w k (rmL t s M)) :
    Calls Tryd.prog 36 #[.pointer (some ⟨k, 0, none⟩), ifc A] w (SRet A k w (.tuple #[]) (rmL t s (rm3 y M)) ws bs) := by
  have hld := fun (W : World) (h : Mem W A ws bs n) => Byte_any (wrap64 (M.base + M.off)) h
  rw [hye] at hld
  rw [show wrap64 (M.base + M.off) = IntKind.i64.wrap (M.base + M.off) from by unfold wrap64; exact (IntKind.wrap_i64 _).symm] at hld
  have hk := hS.hk
  have hlt := hP.lt
  have hns := nil_Byte
  have hms := met_Byte
  have c5 : w.cell? ⟨k, 5, none⟩ = some (.int .i64 M.off) := hP.at' 5 rfl
  have c7 : w.cell? ⟨k, 7, none⟩ = some (.int .i64 M.base) := hP.at' 7 rfl
  have d5 : w.drew.cell? ⟨k, 5, none⟩ = some (.int .i64 M.off) := c5
  have d7 : w.drew.cell? ⟨k, 7, none⟩ = some (.int .i64 M.base) := c7
  have hlt' : k < w.drew.heap.size := hlt
  clear hS hye
  unfold ifc
  go_enter Tryd.func36, Tryd.ntmps36
  go_wp2_with fail
  go_region_held3 (fun w' => w'.cell? ⟨k, 5, none⟩ = some (.int .i64 M.off) ∧ w'.cell? ⟨k, 7, none⟩ = some (.int .i64 M.base)) (first
    | with_reducible exact ⟨c5, c7⟩
    | with_reducible exact ⟨d5, d7⟩
    | exact kB ⟨d5, d7⟩ hlt' (Or.inr hk) _
    | exact kB9 (kB ⟨d5, d7⟩ hlt' (Or.inr hk) _)) (first
    | (go_at_call 86; (with_reducible refine (hld _ hM.drew).mono ?_); rintro _ _ ⟨rfl, zz, rfl, hM1⟩; have hPz := hP.drew.touch zz.turn (Or.inr hk); have c9 : zz.at'.cell? ⟨k, 9, none⟩ = some (.int .i64 M.b) := hPz.at' 9 rfl; have f9 := hPz.fz 9))
  all_goals
    have hM2 := hM1.setOther ⟨k, 9, none⟩ (.int .i64 y) (Or.inr hk)
    have hP2 := hPz.set 9 (by simp [rmL]) (.int .i64 y)
    have hV2 : Moved (spanS A k) w (zz.at'.setCell ⟨k, 9, none⟩ (.int .i64 y)) := (((Moved.refl _ _).drew).touch zz.turn spanS_in).setCell _ _ spanS_self
    rename_i hHeld
    clear hHeld c9 f9
    generalize zz.at'.setCell ⟨k, 9, none⟩ (.int .i64 y) = W at hM2 hP2 hV2 ⊢
    have b6 : W.cell? ⟨k, 6, none⟩ = some (.int .i64 M.step) := hP2.at' 6 rfl
    have f6 := hP2.fz 6
    clear hM hP hM1 hPz
    go_wp2_with fail
    first | go_end0 | refine bodyPost_ret (results_none rfl _ _ _) rfl ?_
    exact ⟨rfl, hV2.setCell _ _ spanS_self, ⟨_, hM2.setOther _ _ (Or.inr hk)⟩, hP2.set 6 (by simp [rmL]) _⟩
end
end Go.Proofs.YtnahjnbhmlomcaaDoor
