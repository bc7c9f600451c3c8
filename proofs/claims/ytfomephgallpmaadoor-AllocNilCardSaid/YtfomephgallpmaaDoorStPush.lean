/-
  What a Push's first step does on plain cells.
  Conditions: none but that the machine and such cells lie there, and the tables read as they are laid.
-/
import Derived.Test.YtfomephgallpmaaDoorStPop
namespace Go.Proofs.YtfomephgallpmaaDoor
open Go.RowKit
attribute [local go_sem] Later.cell Later.frozen Later.lt Later.le Turned.cell_lo Turned.cell_hi Turned.frozen_lo Turned.frozen_hi Turned.lt Turned.le
set_option linter.unusedVariables false

theorem NewPush_any (t s i : Int) (w : World) : Calls Tryd.prog 58 #[.agg #[.int .i64 t, .int .i64 s], .int .i64 i] w fun e w' => ∃ k, e = .returned (.pointer (some ⟨k, 0, none⟩)) ∧ w.heap.size ≤ k ∧ Below w.heap.size w w' ∧ Fs w' k (pushC t s ⟨i, 0, 0, 0, 0⟩) := by
  go_enter Tryd.func58, Tryd.ntmps58
  go_wp2
  go_ret
  exact ⟨_, rfl, by simp, ((Below.refl _ _).alloc (Nat.le_refl _) _).alloc (by simp) _, Fs.new' _ _ (by simp) rfl⟩

section
variable {A : PAt} {ws bs : List Int} {n : Int} {w : World} {k : Nat} {t s : Int} {M : Mc}

theorem hasSlot_any (h0 : 0 ≤ t) (h1 : t ≤ 4) (h2 : 0 ≤ s) (h3 : s ≤ 64) (i : Int) (w : World) : Calls Tryd.prog 86 #[.agg #[.int .i64 t, .int .i64 s], .int .i64 i] w (Ret w (.bool (decide (0 ≤ partN t s i 2)))) := by
  have hlk := fun W => LLink_any (t := t) (s := s) h0 h1 h2 h3 i W
  generalize partN t s i 2 = p at hlk ⊢
  go_enter Tryd.func86, Tryd.ntmps86
  go_wp2_with (go_at_call 49; (with_reducible refine (hlk _).mono ?_); rintro _ _ ⟨rfl, x, rfl⟩)
  go_ret
  exact Ret.mk rfl x.boxed

theorem pushEnd_any (er : Int) {L : List Value} (hP : Fs w k L) (v : Value) (hL : L[3]? = some v) : Calls Tryd.prog 87 #[.pointer (some ⟨k, 0, none⟩), .int .i64 er] w fun e w' => e = .returned (.tuple #[.int .i64 er, .bool true]) ∧ w.setCell ⟨k, 3, none⟩ (.int .i64 3) = w' := by
  have c3 := hP.at' 3 hL
  have f3 := hP.fz 3
  clear hP hL
  go_enter Tryd.func87, Tryd.ntmps87
  go_wp2
  go_ret2
  exact ⟨rfl, rfl⟩

theorem pushK3 (h : Fs w k (pushC t s M)) : w.cell? ⟨k, 0, none⟩ = some (.int .i64 t) ∧ w.cell? ⟨k, 1, none⟩ = some (.int .i64 s) ∧ w.cell? ⟨k, 2, none⟩ = some (.int .i64 M.slot) := ⟨h.at' 0 rfl, h.at' 1 rfl, h.at' 2 rfl⟩

set_option maxHeartbeats 8000000 in
theorem pushLoad_any (x p : Int) (hxe : atI ws 1 = x) (hpe : partN t s M.slot 2 = p) (hS : Seat w A k t s) (hM : Mem w A ws bs n) (hP : Fs w k (pushC t s M)) (hx : x ≤ 9223372036854775807) :
    Calls Tryd.prog 73 #[.pointer (some ⟨k, 0, none⟩), ifc A] w (SRet A k w (.tuple #[.int .i64 (push1 x p M ws).err, .bool (push1 x p M ws).done]) (pushC t s (push1 x p M ws).m) (push1 x p M ws).ws bs) := by
  have hst := fun W => LStack_ok (t := t) (s := s) hS.t0 W
  have hhs := fun W => hasSlot_any (t := t) (s := s) (by have := hS.t0; omega) hS.t4 (by have := hS.s0; omega) hS.s64 M.slot W
  have hld := fun (W : World) (h : Mem W A ws bs n) => Load_any 1 h
  rw [hxe] at hld
  rw [hpe] at hhs
  clear hxe hpe
  have c0 : w.cell? ⟨k, 0, none⟩ = some (.int .i64 t) := hP.at' 0 rfl
  have c1 : w.cell? ⟨k, 1, none⟩ = some (.int .i64 s) := hP.at' 1 rfl
  have c2 : w.cell? ⟨k, 2, none⟩ = some (.int .i64 M.slot) := hP.at' 2 rfl
  have hk := hS.hk
  have hlt := hP.lt
  have hns := nil_Load
  have hms := met_Load
  unfold ifc
  by_cases h0 : 0 ≤ p
  · have hdd : decide (0 ≤ p) = true := decide_eq_true h0
    rw [hdd] at hhs
    clear hdd
    go_enter Tryd.func73, Tryd.ntmps73
    go_wp2_with fail
    refine wp_region_later (by kernel_rfl) (by kernel_rfl) ?_
    repeat (go_big_quiet_step (first | (go_at_call 86; exact later_of _ (hhs _))))
    refine wpQuiet_nil ?_
    rintro _ ⟨x0, rfl⟩
    have hP0 := hP.later x0
    have hM0 := hM.later x0
    have hV0 : Moved (spanS A k) w x0.at' := (Moved.refl _ _).later x0
    generalize x0.at' = W0 at hP0 hM0 hV0 ⊢
    clear c0 c1 c2 hP hM hlt hhs
    have c0 : W0.cell? ⟨k, 0, none⟩ = some (.int .i64 t) := hP0.at' 0 rfl
    have c1 : W0.cell? ⟨k, 1, none⟩ = some (.int .i64 s) := hP0.at' 1 rfl
    have hlt := hP0.lt
    have hd0 : W0.drew.cell? ⟨k, 0, none⟩ = some (.int .i64 t) := c0
    have hd1 : W0.drew.cell? ⟨k, 1, none⟩ = some (.int .i64 s) := c1
    have hld' : k < W0.drew.heap.size := hlt
    go_wp2_with fail
    go_region_held3 (fun w' => w'.cell? ⟨k, 0, none⟩ = some (.int .i64 t) ∧ w'.cell? ⟨k, 1, none⟩ = some (.int .i64 s)) (first
      | exact ⟨c0, c1⟩
      | exact ⟨(Later.cell _ _ _ _ hld').trans hd0, (Later.cell _ _ _ _ hld').trans hd1⟩
      | exact keepT ⟨(Later.cell _ _ _ _ hld').trans hd0, (Later.cell _ _ _ _ hld').trans hd1⟩ (Later.lt _ _ hld') (Or.inr hk) _
      | exact keepS (keepT ⟨(Later.cell _ _ _ _ hld').trans hd0, (Later.cell _ _ _ _ hld').trans hd1⟩ (Later.lt _ _ hld') (Or.inr hk) _)) (first
      | (go_at_call 51; refine (hst _).mono ?_; rintro _ _ ⟨rfl, y, rfl⟩; have hPy := hP0.drew.later y)
      | (go_at_call 16; refine (hld _ (hM0.drew.later y)).mono ?_; rintro _ _ ⟨rfl, z, rfl, hM2⟩; have hPz := hPy.touch z.turn (Or.inr hk); have c4z : z.at'.cell? ⟨k, 4, none⟩ = some (.int .i64 M.word) := hPz.at' 4 rfl; have f4z := hPz.fz 4))
    all_goals
      have hM1 := hM2.setOther ⟨k, 4, none⟩ (.int .i64 x) (Or.inr hk)
      have hP1 := hPz.set 4 (by simp [pushC]) (.int .i64 x)
      have hV1 : Moved (spanS A k) w (z.at'.setCell ⟨k, 4, none⟩ (.int .i64 x)) := (((hV0.drew).later y).touch z.turn spanS_in).setCell _ _ spanS_self
      rename_i hHeld
      clear hHeld c4z f4z
      generalize z.at'.setCell ⟨k, 4, none⟩ (.int .i64 x) = W at hM1 hP1 hV1 ⊢
      generalize up n = m at hM1
      have hF1 := (hS.moved hV1).hF
      have hltW := hP1.lt
      have b2 : W.cell? ⟨k, 2, none⟩ = some (.int .i64 M.slot) := hP1.at' 2 rfl
      have b4 : W.cell? ⟨k, 4, none⟩ = some (.int .i64 x) := hP1.at' 4 rfl
      have hpu := fun W' hF' => HdPush_any x M.slot hx W' hF'
      clear hns hms hld hst c0 c1 hd0 hd1 hld' hM0 hlt hPy hPz hM2 hP0 z y
      go_wp2_with fail
      refine wp_region_later (by kernel_rfl) (by kernel_rfl) ?_
      repeat (go_big_quiet_step (first | (go_at_call 88; exact later_of _ (hpu _ (Later.heads _ hF1)))))
      refine wpQuiet_nil ?_
      rintro _ ⟨x2, rfl⟩
      have hP2 := hP1.later x2
      have hM3 := hM1.later x2
      have hV2 := hV1.later x2
      generalize x2.at' = W2 at hP2 hM3 hV2 ⊢
      clear b2 b4 hP1 hM1 hV1 hpu hF1 hltW
      by_cases h1 : pushE x M.slot = 0
      · have E := Lib.hid (show push1 x p M ws = ⟨0, 0, false, { M with word := x, next := pushV x M.slot, link := pushL x M.slot, step := 1 }, ws⟩ from by unfold push1; rw [if_pos h0, if_pos h1])
        have d3 : W2.cell? ⟨k, 3, none⟩ = some (.int .i64 M.step) := hP2.at' 3 rfl
        have d5 : W2.cell? ⟨k, 5, none⟩ = some (.int .i64 M.next) := hP2.at' 5 rfl
        have d6 : W2.cell? ⟨k, 6, none⟩ = some (.int .i64 M.link) := hP2.at' 6 rfl
        have g3 := hP2.fz 3
        have g5 := hP2.fz 5
        have g6 := hP2.fz 6
        rw [h1]
        go_wp2_with fail
        go_ret2
        rw [E.out]
        exact ⟨rfl, ((hV2.setCell _ _ spanS_self).setCell _ _ spanS_self).setCell _ _ spanS_self, ⟨m, ((hM3.setOther _ _ (Or.inr hk)).setOther _ _ (Or.inr hk)).setOther _ _ (Or.inr hk)⟩, ((hP2.set 5 (by simp [pushC]) _).set 6 (by simp [pushC]) _).set 3 (by simp [pushC]) _⟩
      · have E := Lib.hid (show push1 x p M ws = ⟨0, 2, true, { M with word := x, step := 3 }, ws⟩ from by unfold push1; rw [if_pos h0, if_neg h1])
        have hdd : decide (pushE x M.slot = 0) = false := decide_eq_false h1
        generalize pushE x M.slot = pe at h1 hdd ⊢
        go_wp2_with (go_at_call 87; (with_reducible refine (pushEnd_any 2 hP2 _ rfl).mono ?_); rintro _ _ ⟨rfl, rfl⟩)
        go_ret2
        rw [E.out]
        exact ⟨rfl, hV2.setCell _ _ spanS_self, ⟨m, hM3.setOther _ _ (Or.inr hk)⟩, hP2.set 3 (by simp [pushC]) _⟩
  · have hdd : decide (0 ≤ p) = false := decide_eq_false h0
    rw [hdd] at hhs
    have E := Lib.hid (show push1 x p M ws = ⟨0, 1, true, { M with step := 3 }, ws⟩ from if_neg h0)
    clear hdd
    go_enter Tryd.func73, Tryd.ntmps73
    go_wp2_with fail
    refine wp_region_later (by kernel_rfl) (by kernel_rfl) ?_
    repeat (go_big_quiet_step (first | (go_at_call 86; exact later_of _ (hhs _))))
    refine wpQuiet_nil ?_
    rintro _ ⟨x0, rfl⟩
    have hP0 := hP.later x0
    go_wp2_with (go_at_call 87; (with_reducible refine (pushEnd_any 1 hP0 _ rfl).mono ?_); rintro _ _ ⟨rfl, rfl⟩)
    go_ret2
    rw [E.out]
    exact ⟨rfl, ((Moved.refl _ _).later x0).setCell _ _ spanS_self, ⟨n, (hM.later x0).setOther _ _ (Or.inr hk)⟩, hP0.set 3 (by simp [pushC]) _⟩
end
end Go.Proofs.YtfomephgallpmaaDoor
