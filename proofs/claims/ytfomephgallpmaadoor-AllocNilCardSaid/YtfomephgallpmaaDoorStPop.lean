/-
  What a Pop does, step by step, on plain cells.
  Conditions: none but that the machine and such cells lie there, and the tables read as they are laid.
-/
import Derived.Test.YtfomephgallpmaaDoorStBase
import Derived.Deep.RegionHeld3
namespace Go.Proofs.YtfomephgallpmaaDoor
open Go.RowKit
attribute [local go_sem] Later.cell Later.frozen Later.lt Later.le Turned.cell_lo Turned.cell_hi Turned.frozen_lo Turned.frozen_hi Turned.lt Turned.le
set_option linter.unusedVariables false

theorem NewPop_any (t s : Int) (w : World) : Calls Tryd.prog 54 #[.agg #[.int .i64 t, .int .i64 s]] w fun e w' => ∃ k, e = .returned (.pointer (some ⟨k, 0, none⟩)) ∧ w.heap.size ≤ k ∧ Below w.heap.size w w' ∧ Fs w' k (popL t s ⟨0, 0, 0, 0, 0⟩) := by
  go_enter Tryd.func54, Tryd.ntmps54
  go_wp2
  go_ret
  exact ⟨_, rfl, by simp, ((Below.refl _ _).alloc (Nat.le_refl _) _).alloc (by simp) _, Fs.new' _ _ (by simp) rfl⟩

section
variable {A : PAt} {ws bs : List Int} {n : Int} {w : World} {k : Nat} {t s : Int} {M : Mc}

theorem popFail_any (er : Int) {L : List Value} (hP : Fs w k L) (v : Value) (hL : L[2]? = some v) : Calls Tryd.prog 83 #[.pointer (some ⟨k, 0, none⟩), .int .i64 er] w fun e w' => e = .returned (.tuple #[.int .i64 0, .int .i64 er, .bool true]) ∧ w.setCell ⟨k, 2, none⟩ (.int .i64 3) = w' := by
  have c2 := hP.at' 2 hL
  have f2 := hP.fz 2
  clear hP hL
  go_enter Tryd.func83, Tryd.ntmps83
  go_wp2
  go_ret3
  exact ⟨rfl, rfl⟩

theorem keepT {u0 u1 : Value} (h : w.cell? ⟨k, 0, none⟩ = some u0 ∧ w.cell? ⟨k, 1, none⟩ = some u1) (hlt : k < w.heap.size) {lo hi : Nat} (hk : k < lo ∨ hi ≤ k) (z : Turned lo hi w) : z.at'.cell? ⟨k, 0, none⟩ = some u0 ∧ z.at'.cell? ⟨k, 1, none⟩ = some u1 :=
  ⟨(z.turn.cell _ _ _ hlt hk).trans h.1, (z.turn.cell _ _ _ hlt hk).trans h.2⟩
theorem keepS {u0 u1 v : Value} {j : Nat} (h : w.cell? ⟨k, 0, none⟩ = some u0 ∧ w.cell? ⟨k, 1, none⟩ = some u1) : (w.setCell ⟨k, j + 2, none⟩ v).cell? ⟨k, 0, none⟩ = some u0 ∧ (w.setCell ⟨k, j + 2, none⟩ v).cell? ⟨k, 1, none⟩ = some u1 :=
  ⟨by rw [World.cell?_setCell_other _ _ _ _ (by simp)]; exact h.1, by rw [World.cell?_setCell_other _ _ _ _ (by simp)]; exact h.2⟩

theorem slotOf_any (x : Int) (h0 : -9223372036854775808 < x) (h1 : x ≤ 9223372036854775807) (w : World) : Calls Tryd.prog 84 #[.int .i64 x] w fun e w' => e = .returned (.int .i64 (x - 1)) ∧ w = w' := by
  go_enter Tryd.func84, Tryd.ntmps84
  go_wp2
  go_ret
  exact ⟨rfl, rfl⟩

set_option maxHeartbeats 4000000 in
theorem popLoad_any (x : Int) (hxe : atI ws 1 = x) (hS : Seat w A k t s) (hM : Mem w A ws bs n) (hP : Fs w k (popL t s M)) (hx : x ≤ 9223372036854775807) :
    Calls Tryd.prog 70 #[.pointer (some ⟨k, 0, none⟩), ifc A] w (SRet A k w (.tuple #[.int .i64 (pop1 x M ws).slot, .int .i64 (pop1 x M ws).err, .bool (pop1 x M ws).done]) (popL t s (pop1 x M ws).m) (pop1 x M ws).ws bs) := by
  have hst := fun W => LStack_ok (t := t) (s := s) hS.t0 W
  have hld := fun (W : World) (h : Mem W A ws bs n) => Load_any 1 h
  rw [hxe] at hld
  clear hxe
  have c0 : w.cell? ⟨k, 0, none⟩ = some (.int .i64 t) := hP.at' 0 rfl
  have c1 : w.cell? ⟨k, 1, none⟩ = some (.int .i64 s) := hP.at' 1 rfl
  have hk := hS.hk
  have hlt := hP.lt
  have hns := nil_Load
  have hms := met_Load
  have hd0 : w.drew.cell? ⟨k, 0, none⟩ = some (.int .i64 t) := c0
  have hd1 : w.drew.cell? ⟨k, 1, none⟩ = some (.int .i64 s) := c1
  have hld' : k < w.drew.heap.size := hlt
  unfold ifc
  go_enter Tryd.func70, Tryd.ntmps70
  go_wp2_with fail
  go_region_held3 (fun w' => w'.cell? ⟨k, 0, none⟩ = some (.int .i64 t) ∧ w'.cell? ⟨k, 1, none⟩ = some (.int .i64 s)) (first
    | exact ⟨c0, c1⟩
    | exact ⟨(Later.cell _ _ _ _ hld').trans hd0, (Later.cell _ _ _ _ hld').trans hd1⟩
    | exact keepT ⟨(Later.cell _ _ _ _ hld').trans hd0, (Later.cell _ _ _ _ hld').trans hd1⟩ (Later.lt _ _ hld') (Or.inr hk) _
    | exact keepS (keepT ⟨(Later.cell _ _ _ _ hld').trans hd0, (Later.cell _ _ _ _ hld').trans hd1⟩ (Later.lt _ _ hld') (Or.inr hk) _)) (first
    | (go_at_call 51; refine (hst _).mono ?_; rintro _ _ ⟨rfl, y, rfl⟩; have hPy := hP.drew.later y)
    | (go_at_call 16; refine (hld _ (hM.drew.later y)).mono ?_; rintro _ _ ⟨rfl, z, rfl, hM2⟩; have hPz := hPy.touch z.turn (Or.inr hk); have c3z : z.at'.cell? ⟨k, 3, none⟩ = some (.int .i64 M.word) := hPz.at' 3 rfl; have f3z := hPz.fz 3))
  all_goals
    have hM1 := hM2.setOther ⟨k, 3, none⟩ (.int .i64 x) (Or.inr hk)
    have hP1 := hPz.set 3 (by simp [popL]) (.int .i64 x)
    have hV1 : Moved (spanS A k) w (z.at'.setCell ⟨k, 3, none⟩ (.int .i64 x)) := ((((Moved.refl _ _).drew).later y).touch z.turn spanS_in).setCell _ _ spanS_self
    rename_i hHeld
    clear hHeld c3z f3z
    generalize z.at'.setCell ⟨k, 3, none⟩ (.int .i64 x) = W at hM1 hP1 hV1 ⊢
    generalize up n = m at hM1
    have hF1 := (hS.moved hV1).hF
    have b2 : W.cell? ⟨k, 2, none⟩ = some (.int .i64 M.step) := hP1.at' 2 rfl
    have b3 : W.cell? ⟨k, 3, none⟩ = some (.int .i64 x) := hP1.at' 3 rfl
    have b5 : W.cell? ⟨k, 5, none⟩ = some (.int .i64 M.slot) := hP1.at' 5 rfl
    have f2 := hP1.fz 2
    have f5 := hP1.fz 5
    have hun := HdUnpack_any x hx W hF1
    clear hns hms hld hst c0 c1 hd0 hd1 hld' hM
    clear hPy hPz hM2 hP z y
    cases hb : heB x
    · have e : pop1 x M ws = ⟨0, 2, true, { M with word := x, step := 3 }, ws⟩ := by unfold pop1; rw [if_neg (by rw [hb]; decide)]
      have E := Lib.hid e
      rw [heT_bad hb, heG_bad hb, heE_bad hb] at hun
      clear e
      go_wp2_with (first
        | (go_at_call 82; (with_reducible refine hun.mono ?_); rintro _ _ ⟨rfl, x1, rfl⟩; have hP2 := hP1.later x1)
        | (go_at_call 83; (with_reducible refine (popFail_any 2 hP2 _ rfl).mono ?_); rintro _ _ ⟨rfl, rfl⟩))
      go_ret3
      rw [E.out]
      exact ⟨rfl, (hV1.later x1).setCell _ _ spanS_self, ⟨m, (hM1.later x1).setOther _ _ (Or.inr hk)⟩, hP2.set 2 (by simp [popL]) _⟩
    · by_cases h0 : x % 1048576 = 0
      · have e : pop1 x M ws = ⟨0, 11, true, { M with word := x, step := 3 }, ws⟩ := by unfold pop1; rw [if_pos hb, if_pos h0]
        have E := Lib.hid e
        rw [heT_ok hb, heG_ok hb, heE_ok hb, h0] at hun
        clear e
        go_wp2_with (first
          | (go_at_call 82; (with_reducible refine hun.mono ?_); rintro _ _ ⟨rfl, x1, rfl⟩; have hP2 := hP1.later x1)
          | (go_at_call 83; (with_reducible refine (popFail_any 11 hP2 _ rfl).mono ?_); rintro _ _ ⟨rfl, rfl⟩))
        go_ret3
        rw [E.out]
        exact ⟨rfl, (hV1.later x1).setCell _ _ spanS_self, ⟨m, (hM1.later x1).setOther _ _ (Or.inr hk)⟩, hP2.set 2 (by simp [popL]) _⟩
      · have e : pop1 x M ws = ⟨0, 0, false, { M with word := x, slot := x % 1048576 - 1, step := 1 }, ws⟩ := by unfold pop1; rw [if_pos hb, if_neg h0]
        have E := Lib.hid e
        rw [heT_ok hb, heG_ok hb, heE_ok hb] at hun
        have hq0 : 0 ≤ x % 1048576 := by omega
        have hq1 : x % 1048576 ≤ 1048575 := by omega
        generalize hq : x % 1048576 = q at hun h0 hq0 hq1
        have HQ := Lib.hid hq
        clear hq
        have hso := fun W => slotOf_any q (by omega) (by omega) W
        clear e
        go_wp2_with (first
          | (go_at_call 82; (with_reducible refine hun.mono ?_); rintro _ _ ⟨rfl, x1, rfl⟩; have hP2 := hP1.later x1; have d2 : x1.at'.cell? ⟨k, 2, none⟩ = some (.int .i64 M.step) := hP2.at' 2 rfl; have d5 : x1.at'.cell? ⟨k, 5, none⟩ = some (.int .i64 M.slot) := hP2.at' 5 rfl; have g2 := hP2.fz 2; have g5 := hP2.fz 5)
          | (go_at_call 84; (with_reducible refine (hso _).mono ?_); rintro _ _ ⟨rfl, rfl⟩))
        go_ret3
        rw [E.out, HQ.out]
        exact ⟨rfl, ((hV1.later x1).setCell _ _ spanS_self).setCell _ _ spanS_self, ⟨m, ((hM1.later x1).setOther _ _ (Or.inr hk)).setOther _ _ (Or.inr hk)⟩, (hP2.set 5 (by simp [popL]) _).set 2 (by simp [popL]) _⟩
end
end Go.Proofs.YtfomephgallpmaaDoor
