/-
  The steps of a machine that writes a byte: its end, the size, the byte, the entry again.
  Conditions: none but that the machine and plain cells lie there.
-/
import Derived.Test.YtnojemmpgaibkaaDoorWrMath
import Derived.Test.YtnojemmpgaibkaaDoorRdBase
import Derived.Test.YtnojemmpgaibkaaDoorHandleWalks4
import Derived.Deep.RegionHeld3
import Derived.Deep.CutRange
import Derived.BigQuiet
namespace Go.Proofs.YtnojemmpgaibkaaDoor
open Go.RowKit
attribute [local go_sem] Later.cell Later.frozen Later.lt Later.le Turned.cell_lo Turned.cell_hi Turned.frozen_lo Turned.frozen_hi Turned.lt Turned.le
set_option linter.unusedVariables false
set_option linter.unusedSimpArgs false

/-- Three cells of a machine: its layout, its slot. -/
theorem c3T {w : World} {k : Nat} {u0 u1 u3 : Value} (h : w.cell? ⟨k, 0, none⟩ = some u0 ∧ w.cell? ⟨k, 1, none⟩ = some u1 ∧ w.cell? ⟨k, 3, none⟩ = some u3) (hlt : k < w.heap.size) {lo hi : Nat} (hk : k < lo ∨ hi ≤ k) (z : Turned lo hi w) :
    z.at'.cell? ⟨k, 0, none⟩ = some u0 ∧ z.at'.cell? ⟨k, 1, none⟩ = some u1 ∧ z.at'.cell? ⟨k, 3, none⟩ = some u3 :=
  ⟨(z.turn.cell _ _ _ hlt hk).trans h.1, (z.turn.cell _ _ _ hlt hk).trans h.2.1, (z.turn.cell _ _ _ hlt hk).trans h.2.2⟩
theorem c3L {w : World} {k : Nat} {u0 u1 u3 : Value} (h : w.cell? ⟨k, 0, none⟩ = some u0 ∧ w.cell? ⟨k, 1, none⟩ = some u1 ∧ w.cell? ⟨k, 3, none⟩ = some u3) (hlt : k < w.heap.size) (y : Later w) :
    y.at'.cell? ⟨k, 0, none⟩ = some u0 ∧ y.at'.cell? ⟨k, 1, none⟩ = some u1 ∧ y.at'.cell? ⟨k, 3, none⟩ = some u3 :=
  ⟨(y.cell _ _ _ hlt).trans h.1, (y.cell _ _ _ hlt).trans h.2.1, (y.cell _ _ _ hlt).trans h.2.2⟩
theorem c3S {w : World} {k : Nat} {u0 u1 u3 v : Value} (h : w.cell? ⟨k, 0, none⟩ = some u0 ∧ w.cell? ⟨k, 1, none⟩ = some u1 ∧ w.cell? ⟨k, 3, none⟩ = some u3) :
    (w.setCell ⟨k, 8, none⟩ v).cell? ⟨k, 0, none⟩ = some u0 ∧ (w.setCell ⟨k, 8, none⟩ v).cell? ⟨k, 1, none⟩ = some u1 ∧ (w.setCell ⟨k, 8, none⟩ v).cell? ⟨k, 3, none⟩ = some u3 :=
  ⟨by rw [World.cell?_setCell_other _ _ _ _ (by simp)]; exact h.1, by rw [World.cell?_setCell_other _ _ _ _ (by simp)]; exact h.2.1, by rw [World.cell?_setCell_other _ _ _ _ (by simp)]; exact h.2.2⟩
section
variable {A : PAt} {ws bs : List Int} {n : Int} {w W : World} {k : Nat} {t s : Int} {M : Wm}
theorem wK3 (h : Fs w k (wmL t s M)) : w.cell? ⟨k, 0, none⟩ = some (.int .i64 t) ∧ w.cell? ⟨k, 1, none⟩ = some (.int .i64 s) ∧ w.cell? ⟨k, 3, none⟩ = some (.int .i64 M.slot) ∧ Fs w k (wmL t s M) := ⟨h.at' 0 rfl, h.at' 1 rfl, h.at' 3 rfl, h⟩
theorem wL3 {L : List Value} {a b c : Prop} (h : a ∧ b ∧ c ∧ Fs w k L) : Fs w k L := h.2.2.2
theorem wstale_any (hP : Fs w k (wmL t s M)) : Calls Tryd.prog 89 #[.pointer (some ⟨k, 0, none⟩)] w fun e w' => e = .returned (.tuple #[]) ∧ (w.setCell ⟨k, 10, none⟩ (.int .i64 4)).setCell ⟨k, 7, none⟩ (.int .i64 0) = w' := by
  have c7 : w.cell? ⟨k, 7, none⟩ = some (.int .i64 M.step) := hP.at' 7 rfl
  have c10 : w.cell? ⟨k, 10, none⟩ = some (.int .i64 M.kept) := hP.at' 10 rfl
  have f7 := hP.fz 7
  have f10 := hP.fz 10
  clear hP
  go_enter Tryd.func89, Tryd.ntmps89
  go_wp2
  first | go_end0 | refine bodyPost_ret (results_none rfl _ _ _) rfl ?_
  exact ⟨rfl, rfl⟩
theorem wEnd (hV : Moved (spanS A k) w W) (hM : ∃ n, Mem W A ws bs n) (hP : Fs W k (wmL t s M)) (hk : A.hi ≤ k) :
    SRet A k w (.tuple #[]) (wmL t s (wmEnd 4 M)) ws bs (.returned (.tuple #[])) ((W.setCell ⟨k, 10, none⟩ (.int .i64 4)).setCell ⟨k, 7, none⟩ (.int .i64 0)) := by
  obtain ⟨m, hm⟩ := hM
  exact ⟨rfl, (hV.setCell _ _ spanS_self).setCell _ _ spanS_self, ⟨m, (hm.setOther _ _ (Or.inr hk)).setOther _ _ (Or.inr hk)⟩, (hP.set 10 (by simp [wmL]) _).set 7 (by simp [wmL]) _⟩
set_option maxHeartbeats 4000000 in
theorem wls_any (z : Int) (hze : atI ws (partN t s M.slot 1) = z) (hS : ESeat w A k t s) (hM : Mem w A ws bs n) (hP : Fs w k (wmL t s M)) :
    Calls Tryd.prog 69 #[.pointer (some ⟨k, 0, none⟩), ifc A] w (SRet A k w (.tuple #[]) (wmL t s (wm3 z M)) ws bs) := by
  have hlk := fun W => LSize_any (t := t) (s := s) (by have := hS.t0; omega) hS.t4 (by have := hS.s0; omega) hS.s64 M.slot W
  have hld := fun (W : World) (h : Mem W A ws bs n) => Load_any (partN t s M.slot 1) h
  rw [hze] at hld
  clear hze
  generalize partN t s M.slot 1 = pl at hlk hld
  have hk := hS.hk
  have hns := nil_Load
  have hms := met_Load
  have hPd := hP.drew
  clear hS
  unfold ifc
  go_enter Tryd.func69, Tryd.ntmps69
  go_wp2_with fail
  go_region_held3 (fun w' => w'.cell? ⟨k, 0, none⟩ = some (.int .i64 t) ∧ w'.cell? ⟨k, 1, none⟩ = some (.int .i64 s) ∧ w'.cell? ⟨k, 3, none⟩ = some (.int .i64 M.slot) ∧ Fs w' k (wmL t s M)) (first
    | exact wK3 hP
    | exact wK3 hPd
    | assumption
    | exact wK3 ((wL3 ‹_ ∧ _›).later _)
    | exact wK3 ((wL3 ‹_ ∧ _›).touch (Turned.turn _) (Or.inr hk))) (first
    | (go_at_call 93; refine (hlk _).mono ?_; rintro _ _ ⟨rfl, y, rfl⟩; have hPy := hPd.later y)
    | (go_at_call 22; refine (hld _ (hM.drew.later y)).mono ?_; rintro _ _ ⟨rfl, zz, rfl, hM1⟩; have hPz := hPy.touch zz.turn (Or.inr hk)))
  all_goals
    have hV1 : Moved (spanS A k) w zz.at' := (((Moved.refl _ _).drew).later y).touch zz.turn spanS_in
    rename_i hHeld
    clear hHeld
    generalize zz.at' = W at hM1 hPz hV1 ⊢
    generalize up n = m at hM1
    have b5 : W.cell? ⟨k, 5, none⟩ = some (.int .i64 M.off) := hPz.at' 5 rfl
    have b7 : W.cell? ⟨k, 7, none⟩ = some (.int .i64 M.step) := hPz.at' 7 rfl
    have b10 : W.cell? ⟨k, 10, none⟩ = some (.int .i64 M.kept) := hPz.at' 10 rfl
    have f7 := hPz.fz 7
    have f10 := hPz.fz 10
    clear hns hms hld hlk hM hPd hPy hP zz y
    by_cases h0 : M.off < 0
    · have E := Lib.hid (show wm3 z M = { M with kept := 5, step := 5 } from if_pos (Or.inl h0))
      go_wp2_with fail
      first | go_end0 | refine bodyPost_ret (results_none rfl _ _ _) rfl ?_
      rw [E.out]
      exact ⟨rfl, (hV1.setCell _ _ spanS_self).setCell _ _ spanS_self, ⟨m, (hM1.setOther _ _ (Or.inr hk)).setOther _ _ (Or.inr hk)⟩, (hPz.set 10 (by simp [wmL]) _).set 7 (by simp [wmL]) _⟩
    · by_cases h1 : wrap64 (z - 1) < M.off
      · have E := Lib.hid (show wm3 z M = { M with kept := 5, step := 5 } from if_pos (Or.inr h1))
        go_wp2_with fail
        first | go_end0 | refine bodyPost_ret (results_none rfl _ _ _) rfl ?_
        rw [E.out]
        exact ⟨rfl, (hV1.setCell _ _ spanS_self).setCell _ _ spanS_self, ⟨m, (hM1.setOther _ _ (Or.inr hk)).setOther _ _ (Or.inr hk)⟩, (hPz.set 10 (by simp [wmL]) _).set 7 (by simp [wmL]) _⟩
      · have E := Lib.hid (show wm3 z M = { M with step := 4 } from if_neg (not_or.2 ⟨h0, h1⟩))
        go_wp2_with fail
        first | go_end0 | refine bodyPost_ret (results_none rfl _ _ _) rfl ?_
        rw [E.out]
        exact ⟨rfl, hV1.setCell _ _ spanS_self, ⟨m, hM1.setOther _ _ (Or.inr hk)⟩, hPz.set 7 (by simp [wmL]) _⟩
theorem wK4 (h : Fs w k (wmL t s M)) : w.cell? ⟨k, 5, none⟩ = some (.int .i64 M.off) ∧ w.cell? ⟨k, 6, none⟩ = some (.int .i64 M.b) ∧ w.cell? ⟨k, 9, none⟩ = some (.int .i64 M.base) ∧ Fs w k (wmL t s M) := ⟨h.at' 5 rfl, h.at' 6 rfl, h.at' 9 rfl, h⟩
set_option maxHeartbeats 4000000 in
theorem wsb_any (hS : ESeat w A k t s) (hM : Mem w A ws bs n) (hP : Fs w k (wmL t s M)) :
    Calls Tryd.prog 70 #[.pointer (some ⟨k, 0, none⟩), ifc A] w (SRet A k w (.tuple #[]) (wmL t s (wm4 M)) ws (setI bs (wrap64 (M.base + M.off)) (M.b % 256))) := by
  rw [show wrap64 (M.base + M.off) = IntKind.i64.wrap (M.base + M.off) from by unfold wrap64; exact (IntKind.wrap_i64 _).symm]
  have hcs := fun (W : World) (h : Mem W A ws bs n) => SetByte_any (IntKind.i64.wrap (M.base + M.off)) M.b h
  have hk := hS.hk
  have hns := nil_SetByte
  have hms := met_SetByte
  have hPd := hP.drew
  generalize setI bs (IntKind.i64.wrap (M.base + M.off)) (M.b % 256) = bs' at hcs ⊢
  clear hS
  unfold ifc
  go_enter Tryd.func70, Tryd.ntmps70
  go_wp2_with fail
  go_region_held3 (fun w' => w'.cell? ⟨k, 5, none⟩ = some (.int .i64 M.off) ∧ w'.cell? ⟨k, 6, none⟩ = some (.int .i64 M.b) ∧ w'.cell? ⟨k, 9, none⟩ = some (.int .i64 M.base) ∧ Fs w' k (wmL t s M)) (first
    | exact wK4 hP
    | exact wK4 hPd
    | assumption
    | exact wK4 ((wL3 ‹_ ∧ _›).later _)
    | exact wK4 ((wL3 ‹_ ∧ _›).touch (Turned.turn _) (Or.inr hk))) (first
    | (go_at_call 137; refine (hcs _ hM.drew).mono ?_; rintro _ _ ⟨rfl, z, rfl, hM1⟩; have hPz := hPd.touch z.turn (Or.inr hk)))
  all_goals
    have hV1 : Moved (spanS A k) w z.at' := ((Moved.refl _ _).drew).touch z.turn spanS_in
    rename_i hHeld
    clear hHeld
    generalize z.at' = W at hM1 hPz hV1 ⊢
    generalize up n = m at hM1
    have b7 : W.cell? ⟨k, 7, none⟩ = some (.int .i64 M.step) := hPz.at' 7 rfl
    have f7 := hPz.fz 7
    clear hns hms hcs hM hPd z
    go_wp2_with fail
    first | go_end0 | refine bodyPost_ret (results_none rfl _ _ _) rfl ?_
    exact ⟨rfl, hV1.setCell _ _ spanS_self, ⟨m, hM1.setOther _ _ (Or.inr hk)⟩, hPz.set 7 (by simp [wmL]) _⟩
set_option maxHeartbeats 4000000 in
theorem wla_any (x : Int) (hxe : atI ws (partN t s M.slot 0) = x) (hS : ESeat w A k t s) (hM : Mem w A ws bs n) (hP : Fs w k (wmL t s M)) :
    Calls Tryd.prog 71 #[.pointer (some ⟨k, 0, none⟩), ifc A] w (SRet A k w (.tuple #[]) (wmL t s (wm5 x M)) ws bs) := by
  have hen := fun W => LEntry_any (t := t) (s := s) (by have := hS.t0; omega) hS.t4 (by have := hS.s0; omega) hS.s64 M.slot W
  have hld := fun (W : World) (h : Mem W A ws bs n) => Load_any (partN t s M.slot 0) h
  rw [hxe] at hld
  clear hxe
  generalize partN t s M.slot 0 = pl at hen hld
  have hk := hS.hk
  have c3 : w.cell? ⟨k, 0, none⟩ = some (.int .i64 t) ∧ w.cell? ⟨k, 1, none⟩ = some (.int .i64 s) ∧ w.cell? ⟨k, 3, none⟩ = some (.int .i64 M.slot) := ⟨hP.at' 0 rfl, hP.at' 1 rfl, hP.at' 3 rfl⟩
  have d3 : w.drew.cell? ⟨k, 0, none⟩ = some (.int .i64 t) ∧ w.drew.cell? ⟨k, 1, none⟩ = some (.int .i64 s) ∧ w.drew.cell? ⟨k, 3, none⟩ = some (.int .i64 M.slot) := c3
  have hld' : k < w.drew.heap.size := hP.lt
  have hns := nil_Load
  have hms := met_Load
  clear hS
  unfold ifc
  go_enter Tryd.func71, Tryd.ntmps71
  go_wp2_with fail
  go_region_held3 (fun w' => w'.cell? ⟨k, 0, none⟩ = some (.int .i64 t) ∧ w'.cell? ⟨k, 1, none⟩ = some (.int .i64 s) ∧ w'.cell? ⟨k, 3, none⟩ = some (.int .i64 M.slot)) (first
    | with_reducible exact c3
    | with_reducible exact d3
    | with_reducible exact c3L d3 hld' _
    | with_reducible exact c3T (c3L d3 hld' _) (Later.lt _ _ hld') (Or.inr hk) _
    | exact c3S (c3T (c3L d3 hld' _) (Later.lt _ _ hld') (Or.inr hk) _)) (first
    | (go_at_call 90; (with_reducible refine (hen _).mono ?_); rintro _ _ ⟨rfl, y, rfl⟩; have hPy := hP.drew.later y)
    | (go_at_call 22; (with_reducible refine (hld _ (hM.drew.later y)).mono ?_); rintro _ _ ⟨rfl, z, rfl, hM2⟩; have hPz := hPy.touch z.turn (Or.inr hk); have c8z := hPz.at' 8 rfl; have f8z := hPz.fz 8))
  all_goals
    have hM1 := hM2.setOther ⟨k, 8, none⟩ (.int .i64 x) (Or.inr hk)
    have hP1 : Fs (z.at'.setCell ⟨k, 8, none⟩ (.int .i64 x)) k (wmL t s { M with word := x }) := hPz.set 8 (by simp [wmL]) (.int .i64 x)
    have hV1 : Moved (spanS A k) w (z.at'.setCell ⟨k, 8, none⟩ (.int .i64 x)) := ((((Moved.refl _ _).drew).later y).touch z.turn spanS_in).setCell _ _ spanS_self
    rename_i hHeld
    clear hHeld c8z f8z
    generalize z.at'.setCell ⟨k, 8, none⟩ (.int .i64 x) = W at hM1 hP1 hV1 ⊢
    have b7 : W.cell? ⟨k, 7, none⟩ = some (.int .i64 M.step) := hP1.at' 7 rfl
    have f7 := hP1.fz 7
    clear hns hms hld hen c3 d3 hld' hM hPy hPz hM2 hP
    go_wp2_with fail
    first | go_end0 | refine bodyPost_ret (results_none rfl _ _ _) rfl ?_
    exact ⟨rfl, hV1.setCell _ _ spanS_self, ⟨_, hM1.setOther _ _ (Or.inr hk)⟩, hP1.set 7 (by simp [wmL]) _⟩
end
end Go.Proofs.YtnojemmpgaibkaaDoor
