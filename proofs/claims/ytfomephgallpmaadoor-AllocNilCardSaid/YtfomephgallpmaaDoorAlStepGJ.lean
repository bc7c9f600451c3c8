/-
  The steps of a machine that makes an object: three, five, four and nine, then any step, what it answers, Step (five texts in one).
  Conditions: none but that the machine and plain cells lie there, and the tables read as they are laid.
-/
import Derived.Test.YtfomephgallpmaaDoorAlPP
import Derived.Test.YtfomephgallpmaaDoorHandleWalks4
import Derived.Test.YtfomephgallpmaaDoorStPop
import Derived.Deep.RegionHeld3
import Derived.Test.YtfomephgallpmaaDoorAlStepAF
import Derived.Test.YtfomephgallpmaaDoorHeldLast
import Derived.Test.YtfomephgallpmaaDoorPlainCas
import Derived.Test.YtfomephgallpmaaDoorRdBase
import Derived.Deep.CutRange
import Derived.Test.YtfomephgallpmaaDoorRv
namespace Go.Proofs.YtfomephgallpmaaDoor
open Go.RowKit
attribute [local go_sem] Later.cell Later.frozen Later.lt Later.le Turned.cell_lo Turned.cell_hi Turned.frozen_lo Turned.frozen_hi Turned.lt Turned.le
set_option linter.unusedVariables false
set_option linter.unusedSimpArgs false

section
variable {A : PAt} {ws bs : List Int} {n : Int} {w : World} {k : Nat} {t s : Int} {X : Am}
variable {M : Mc}
theorem afail_any (er : Int) {X : Am} (hP : Fs w k (alL t s X)) : Calls Tryd.prog 56 #[.pointer (some ⟨k, 0, none⟩), .int .i64 er] w fun e w' => e = .returned (.tuple #[]) ∧ (w.setCell ⟨k, 24, none⟩ (.int .i64 er)).setCell ⟨k, 5, none⟩ (.int .i64 11) = w' := by
  have c24 : w.cell? ⟨k, 24, none⟩ = some (.int .i64 X.kept) := hP.at' 24 rfl
  have c5 : w.cell? ⟨k, 5, none⟩ = some (.int .i64 X.step) := hP.at' 5 rfl
  have f24 := hP.fz 24
  have f5 := hP.fz 5
  clear hP
  go_enter Tryd.func56, Tryd.ntmps56
  go_wp2
  first | go_end0 | refine bodyPost_ret (results_none rfl _ _ _) rfl ?_
  exact ⟨rfl, rfl⟩
/-- What a step of the Pop comes to. -/
def al3 (t s : Int) (X : Am) (o : Out) : Am := if o.done then (if o.err = 0 then { X with pt := t, ps := s, pop := o.m, slot := o.slot, step := 4 } else { X with pt := t, ps := s, pop := o.m, kept := o.err, step := 11 }) else { X with pt := t, ps := s, pop := o.m }
set_option maxHeartbeats 4000000 in
theorem al3_any (hS : Seat w A k t s) (hM : Mem w A ws bs n) (hP : Fs w k (alP t s X M)) (hx : atI ws 1 ≤ 9223372036854775807) (hw : M.word ≤ 9223372036854775807) :
    Calls Tryd.prog 37 #[.pointer (some ⟨k, 0, none⟩), ifc A] w (SRet A k w (.tuple #[]) (alL t s (al3 t s X (popO t s M ws))) (popO t s M ws).ws bs) := by
  have hc := apopStep_any hS hM hP hx hw
  have hk := hS.hk
  generalize popO t s M ws = o at hc ⊢
  obtain ⟨sl, er, dn, M', ws'⟩ := o
  simp only at hc ⊢
  clear hM hP hx hw hS
  unfold ifc at *
  cases dn
  · go_enter Tryd.func37, Tryd.ntmps37
    go_wp2_with (go_at_call 55; (with_reducible refine hc.mono ?_); rintro _ w1 ⟨rfl, hV, hM1, hP1⟩)
    first | go_end0 | refine bodyPost_ret (results_none rfl _ _ _) rfl ?_
    exact ⟨rfl, hV, hM1, hP1⟩
  · by_cases h0 : er = 0
    · subst h0
      go_enter Tryd.func37, Tryd.ntmps37
      go_wp2_with (go_at_call 55; (with_reducible refine hc.mono ?_); rintro _ w1 ⟨rfl, hV, ⟨m, hM1⟩, hP1⟩; have b20 := hP1.at' 20 rfl; have b5 := hP1.at' 5 rfl; have f20 := hP1.fz 20; have f5 := hP1.fz 5)
      first | go_end0 | refine bodyPost_ret (results_none rfl _ _ _) rfl ?_
      exact ⟨rfl, (hV.setCell _ _ spanS_self).setCell _ _ spanS_self, ⟨m, (hM1.setOther _ _ (Or.inr hk)).setOther _ _ (Or.inr hk)⟩, (hP1.set 20 (by simp [alP, alL]) _).set 5 (by simp [alP, alL]) _⟩
    · have E := Lib.hid (show al3 t s X ⟨sl, er, true, M', ws'⟩ = { X with pt := t, ps := s, pop := M', kept := er, step := 11 } from by unfold al3; rw [if_pos rfl, if_neg h0])
      have hdd : decide (er = 0) = false := decide_eq_false h0
      go_enter Tryd.func37, Tryd.ntmps37
      go_wp2_with (first
        | (go_at_call 55; (with_reducible refine hc.mono ?_); rintro _ w1 ⟨rfl, hV, ⟨m, hM1⟩, hP1⟩; have hfl := afail_any er hP1)
        | (go_at_call 56; (with_reducible refine hfl.mono ?_); rintro _ _ ⟨rfl, rfl⟩))
      first | go_end0 | refine bodyPost_ret (results_none rfl _ _ _) rfl ?_
      rw [E.out]
      exact ⟨rfl, (hV.setCell _ _ spanS_self).setCell _ _ spanS_self, ⟨m, (hM1.setOther _ _ (Or.inr hk)).setOther _ _ (Or.inr hk)⟩, (hP1.set 24 (by simp [alP, alL]) _).set 5 (by simp [alP, alL]) _⟩
/-- What a step of the Push comes to. -/
def al5 (t s : Int) (X : Am) (o : Out) : Am := if o.done then { X with qt := t, qs := s, push := o.m, kept := 10, step := 11 } else { X with qt := t, qs := s, push := o.m }
set_option maxHeartbeats 4000000 in
theorem al5_any (hS : Seat w A k t s) (hM : Mem w A ws bs n) (hP : Fs w k (alQ t s X M)) (hx : atI ws 1 ≤ 9223372036854775807) :
    Calls Tryd.prog 39 #[.pointer (some ⟨k, 0, none⟩), ifc A] w (SRet A k w (.tuple #[]) (alL t s (al5 t s X (pushO t s M ws))) (pushO t s M ws).ws bs) := by
  have hc := apushStep_any hS hM hP hx
  have hk := hS.hk
  generalize pushO t s M ws = o at hc ⊢
  obtain ⟨sl, er, dn, M', ws'⟩ := o
  simp only at hc ⊢
  clear hM hP hx hS
  unfold ifc at *
  cases dn
  · go_enter Tryd.func39, Tryd.ntmps39
    go_wp2_with (go_at_call 59; (with_reducible refine hc.mono ?_); rintro _ w1 ⟨rfl, hV, hM1, hP1⟩)
    first | go_end0 | refine bodyPost_ret (results_none rfl _ _ _) rfl ?_
    exact ⟨rfl, hV, hM1, hP1⟩
  · go_enter Tryd.func39, Tryd.ntmps39
    go_wp2_with (first
      | (go_at_call 59; (with_reducible refine hc.mono ?_); rintro _ w1 ⟨rfl, hV, ⟨m, hM1⟩, hP1⟩; have hfl := fun er => afail_any er hP1)
      | (go_at_call 56; (with_reducible refine (hfl _).mono ?_); rintro _ _ ⟨rfl, rfl⟩))
    first | go_end0 | refine bodyPost_ret (results_none rfl _ _ _) rfl ?_
    exact ⟨rfl, (hV.setCell _ _ spanS_self).setCell _ _ spanS_self, ⟨m, (hM1.setOther _ _ (Or.inr hk)).setOther _ _ (Or.inr hk)⟩, (hP1.set 24 (by simp [alQ, alL]) _).set 5 (by simp [alQ, alL]) _⟩
end
end Go.Proofs.YtfomephgallpmaaDoor

namespace Go.Proofs.YtfomephgallpmaaDoor
open Go.RowKit
attribute [local go_sem] Later.cell Later.frozen Later.lt Later.le Turned.cell_lo Turned.cell_hi Turned.frozen_lo Turned.frozen_hi Turned.lt Turned.le
set_option linter.unusedVariables false
set_option linter.unusedSimpArgs false

section
variable {A : PAt} {ws bs : List Int} {n : Int} {w : World} {k : Nat} {t s : Int} {X : Am}
/-- What the region reads of the machine. -/
def AlS (k : Nat) (t s sl : Int) (V : World) : Prop := V.cell? ⟨k, 0, none⟩ = some (.int .i64 t) ∧ V.cell? ⟨k, 1, none⟩ = some (.int .i64 s) ∧ V.cell? ⟨k, 20, none⟩ = some (.int .i64 sl)
theorem keepF {u0 u1 v : Value} (h : w.cell? ⟨k, 0, none⟩ = some u0 ∧ w.cell? ⟨k, 1, none⟩ = some u1) : (w.setCell ⟨k, 21, none⟩ v).cell? ⟨k, 0, none⟩ = some u0 ∧ (w.setCell ⟨k, 21, none⟩ v).cell? ⟨k, 1, none⟩ = some u1 :=
  ⟨by rw [World.cell?_setCell_other _ _ _ _ (by simp)]; exact h.1, by rw [World.cell?_setCell_other _ _ _ _ (by simp)]; exact h.2⟩
/-- What the step comes to, where f is the Frontier. -/
def al4 (t s f : Int) (X : Am) : Am := if f < 0 ∨ wrap64 (X.arena - X.size) < f then { X with frontier := f, qt := t, qs := s, push := ⟨X.slot, 0, 0, 0, 0⟩, step := 5 } else { X with frontier := f, step := 6 }
set_option maxHeartbeats 8000000 in
theorem al4_any (hS : Seat w A k t s) (hM : Mem w A ws bs n) (hP : Fs w k (alL t s X)) :
    Calls Tryd.prog 38 #[.pointer (some ⟨k, 0, none⟩), ifc A] w (SRet A k w (.tuple #[]) (alL t s (al4 t s (atI ws 0) X)) ws bs) := by
  have hst := fun W => LFrontier_ok (t := t) (s := s) hS.t0 W
  have hld := fun (W : World) (h : Mem W A ws bs n) => Load_any 0 h
  generalize atI ws 0 = x at hld ⊢
  have c0 : w.cell? ⟨k, 0, none⟩ = some (.int .i64 t) := hP.at' 0 rfl
  have c1 : w.cell? ⟨k, 1, none⟩ = some (.int .i64 s) := hP.at' 1 rfl
  have hk := hS.hk
  have hlt := hP.lt
  have hns := nil_Load
  have hms := met_Load
  have hd0 : w.drew.cell? ⟨k, 0, none⟩ = some (.int .i64 t) := c0
  have hd1 : w.drew.cell? ⟨k, 1, none⟩ = some (.int .i64 s) := c1
  have hld' : k < w.drew.heap.size := hlt
  clear hS
  unfold ifc
  go_enter Tryd.func38, Tryd.ntmps38
  go_wp2_with fail
  go_region_held3 (fun w' => w'.cell? ⟨k, 0, none⟩ = some (.int .i64 t) ∧ w'.cell? ⟨k, 1, none⟩ = some (.int .i64 s)) (first
    | with_reducible exact ⟨c0, c1⟩
    | with_reducible exact ⟨hd0, hd1⟩
    | with_reducible exact ⟨(Later.cell _ _ _ _ hld').trans hd0, (Later.cell _ _ _ _ hld').trans hd1⟩
    | with_reducible exact keepT ⟨(Later.cell _ _ _ _ hld').trans hd0, (Later.cell _ _ _ _ hld').trans hd1⟩ (Later.lt _ _ hld') (Or.inr hk) _
    | exact keepF (keepT ⟨(Later.cell _ _ _ _ hld').trans hd0, (Later.cell _ _ _ _ hld').trans hd1⟩ (Later.lt _ _ hld') (Or.inr hk) _)) (first
    | (go_at_call 57; (with_reducible refine (hst _).mono ?_); rintro _ _ ⟨rfl, y, rfl⟩; have hPy := hP.drew.later y)
    | (go_at_call 16; (with_reducible refine (hld _ (hM.drew.later y)).mono ?_); rintro _ _ ⟨rfl, z, rfl, hM2⟩; have hPz := hPy.touch z.turn (Or.inr hk); have c6z : z.at'.cell? ⟨k, 21, none⟩ = some (.int .i64 X.frontier) := hPz.at' 21 rfl; have f6z := hPz.fz 21))
  all_goals
    have hM1 := hM2.setOther ⟨k, 21, none⟩ (.int .i64 x) (Or.inr hk)
    have hP1 := hPz.set 21 (by simp [alL]) (.int .i64 x)
    have hV1 : Moved (spanS A k) w (z.at'.setCell ⟨k, 21, none⟩ (.int .i64 x)) := ((((Moved.refl _ _).drew).later y).touch z.turn spanS_in).setCell _ _ spanS_self
    rename_i hHeld
    clear hHeld c6z f6z
    generalize z.at'.setCell ⟨k, 21, none⟩ (.int .i64 x) = W at hM1 hP1 hV1 ⊢
    clear hns hms hld hst c0 c1 hd0 hd1 hld' hlt hM hPy hPz hM2 hP
    have hlt := hP1.lt
    have b0 : W.cell? ⟨k, 0, none⟩ = some (.int .i64 t) := hP1.at' 0 rfl
    have b1 : W.cell? ⟨k, 1, none⟩ = some (.int .i64 s) := hP1.at' 1 rfl
    have b2 : W.cell? ⟨k, 2, none⟩ = some (.int .i64 X.arena) := hP1.at' 2 rfl
    have b4 : W.cell? ⟨k, 4, none⟩ = some (.int .i64 X.size) := hP1.at' 4 rfl
    have b20 : W.cell? ⟨k, 20, none⟩ = some (.int .i64 X.slot) := hP1.at' 20 rfl
    have b21 : W.cell? ⟨k, 21, none⟩ = some (.int .i64 x) := hP1.at' 21 rfl
    have b5 : W.cell? ⟨k, 5, none⟩ = some (.int .i64 X.step) := hP1.at' 5 rfl
    have f5 := hP1.fz 5
    by_cases h0 : x < 0
    · have E := Lib.hid (show al4 t s x X = { X with frontier := x, qt := t, qs := s, push := ⟨X.slot, 0, 0, 0, 0⟩, step := 5 } from if_pos (Or.inl h0))
      have h0d : decide (x < 0) = true := decide_eq_true h0
      go_wp2_with fail
      refine wp_region_later (by kernel_rfl) (by kernel_rfl) ?_
      repeat (go_big_quiet_step (fail))
      refine wpQuiet_nil ?_
      rintro _ ⟨x0, rfl⟩
      clear b0 b1 b2 b4 b20 b21 b5 f5 hlt
      replace hP1 := hP1.later x0
      replace hM1 := hM1.later x0
      replace hV1 := hV1.later x0
      generalize x0.at' = W at hP1 hM1 hV1 ⊢
      have hlt := hP1.lt
      have b0 : W.cell? ⟨k, 0, none⟩ = some (.int .i64 t) := hP1.at' 0 rfl
      have b1 : W.cell? ⟨k, 1, none⟩ = some (.int .i64 s) := hP1.at' 1 rfl
      have b20 : W.cell? ⟨k, 20, none⟩ = some (.int .i64 X.slot) := hP1.at' 20 rfl
      have b5 : W.cell? ⟨k, 5, none⟩ = some (.int .i64 X.step) := hP1.at' 5 rfl
      have f5 := hP1.fz 5
      have hnp := fun W => NewPush_any t s X.slot W
      go_wp2_with fail
      have hS0 : AlS k t s X.slot W.drew := ⟨b0, b1, b20⟩
      have hV1d := hV1.drew
      have hP1d := hP1.drew
      have hM1d := hM1.drew
      clear b0 b1 b20 b5 f5 hlt
      refine wp_region_T (n := 14) (S := AlS k t s X.slot) (by kernel_rfl) ⟨by kernel_rfl, by kernel_rfl, by kernel_rfl, rfl⟩ ?_
      intro hL inv
      refine wpAnyT_take 0 (v := .pointer (some ⟨k, 0, none⟩)) hL inv rfl (by decide) (by kernel_rfl) (by kernel_rfl) (fun _ _ _ h => h) (.inl ⟨by kernel_rfl, fun V hS => ?_⟩) hS0 ?_
      · obtain ⟨g0, g1, g2⟩ := hS
        go_simp
      clear inv
      intro inv
      refine wpAnyT_take 1 (v := .pointer (some ⟨k, 0, none⟩)) hL inv rfl (by decide) (by kernel_rfl) (by kernel_rfl) (fun _ _ _ h => h) (.inl ⟨by kernel_rfl, fun V hS => ?_⟩) hS0 ?_
      · obtain ⟨g0, g1, g2⟩ := hS
        go_simp
      clear inv
      intro inv
      refine wpAnyT_take 2 (v := .pointer (some ⟨k, 0, none⟩)) hL inv rfl (by decide) (by kernel_rfl) (by kernel_rfl) (fun _ _ _ h => h) (.inl ⟨by kernel_rfl, fun V hS => ?_⟩) hS0 ?_
      · obtain ⟨g0, g1, g2⟩ := hS
        go_simp
      clear inv
      intro inv
      refine wpAnyT_take 3 (v := .pointer (some ⟨k, 0, none⟩)) hL inv rfl (by decide) (by kernel_rfl) (by kernel_rfl) (fun _ _ _ h => h) (.inl ⟨by kernel_rfl, fun V hS => ?_⟩) hS0 ?_
      · obtain ⟨g0, g1, g2⟩ := hS
        go_simp
      clear inv
      intro inv
      refine wpAnyT_take 4 (v := .agg #[.int .i64 t, .int .i64 s]) hL inv rfl (by decide) (by kernel_rfl) (by kernel_rfl) (fun _ _ _ h => h) (.inl ⟨by kernel_rfl, fun V hS => ?_⟩) hS0 ?_
      · obtain ⟨g0, g1, g2⟩ := hS
        go_simp
      clear inv
      intro inv
      refine wpAnyT_take 5 (v := .pointer (some ⟨k, 0, none⟩)) hL inv rfl (by decide) (by kernel_rfl) (by kernel_rfl) (fun _ _ _ h => h) (.inl ⟨by kernel_rfl, fun V hS => ?_⟩) hS0 ?_
      · obtain ⟨g0, g1, g2⟩ := hS
        go_simp
      clear inv
      intro inv
      refine wpAnyT_take 6 (v := .pointer (some ⟨k, 0, none⟩)) hL inv rfl (by decide) (by kernel_rfl) (by kernel_rfl) (fun _ _ _ h => h) (.inl ⟨by kernel_rfl, fun V hS => ?_⟩) hS0 ?_
      · obtain ⟨g0, g1, g2⟩ := hS
        go_simp
      clear inv
      intro inv
      refine wpAnyT_take 7 (v := .pointer (some ⟨k, 20, none⟩)) hL inv rfl (by decide) (by kernel_rfl) (by kernel_rfl) (fun _ _ _ h => h) (.inl ⟨by kernel_rfl, fun V hS => ?_⟩) hS0 ?_
      · obtain ⟨g0, g1, g2⟩ := hS
        go_simp
      clear inv
      intro inv
      refine wpAnyT_take 8 (v := .int .i64 X.slot) hL inv rfl (by decide) (by kernel_rfl) (by kernel_rfl) (fun _ _ _ h => h) (.inl ⟨by kernel_rfl, fun V hS => ?_⟩) hS0 ?_
      · obtain ⟨g0, g1, g2⟩ := hS
        go_simp
      clear inv
      intro inv
      generalize W.drew = W1 at hS0 hV1d hP1d hM1d ⊢
      refine wpAnyT_one 9 rfl (by kernel_rfl) ?_
      go_wp2_with (go_at_call 58; (with_reducible refine (hnp _).mono ?_); rintro _ W2 ⟨kp, rfl, hk2, hb2, hf2⟩)
      have hP2 := hP1d.below hb2 hP1d.lt
      have hM2 := hM1d.moved (S := fun _ => False) (Moved.of_below hb2) (fun _ _ _ h => h)
      have hV2 := hV1d.trans (Moved.of_below hb2)
      have hS2 : AlS k t s X.slot W2 := ⟨hP2.at' 0 rfl, hP2.at' 1 rfl, hP2.at' 20 rfl⟩
      first | refine ⟨.inr hS2, ?_⟩ | refine ⟨hS2, ?_⟩
      refine wpAnyT_one 10 rfl (by kernel_rfl) ?_
      go_wp2_with fail
      first | refine ⟨.inr hS2, ?_⟩ | refine ⟨hS2, ?_⟩
      have q0 := hf2.at' 0 rfl
      have q1 := hf2.at' 1 rfl
      have q2 := hf2.at' 2 rfl
      have q3 := hf2.at' 3 rfl
      have q4 := hf2.at' 4 rfl
      have q5 := hf2.at' 5 rfl
      have q6 := hf2.at' 6 rfl
      have d13 := hP2.at' 13 rfl
      have d14 := hP2.at' 14 rfl
      have d15 := hP2.at' 15 rfl
      have d16 := hP2.at' 16 rfl
      have d17 := hP2.at' 17 rfl
      have d18 := hP2.at' 18 rfl
      have d19 := hP2.at' 19 rfl
      have d5 := hP2.at' 5 rfl
      have g13 := hP2.fz 13
      have g14 := hP2.fz 14
      have g15 := hP2.fz 15
      have g16 := hP2.fz 16
      have g17 := hP2.fz 17
      have g18 := hP2.fz 18
      have g19 := hP2.fz 19
      have g5 := hP2.fz 5
      refine wpAnyT_one 11 rfl (by kernel_rfl) ?_
      go_wp2_with fail
      first | refine ⟨.inr hS2, ?_⟩ | refine ⟨hS2, ?_⟩
      refine wpAnyT_one 12 rfl (by kernel_rfl) ?_
      go_wp2_with fail
      first | refine ⟨.inr hS2, ?_⟩ | refine ⟨hS2, ?_⟩
      refine wpAnyT_one 13 rfl (by kernel_rfl) ?_
      go_wp2_with fail
      first | refine ⟨.inr hS2, ?_⟩ | refine ⟨hS2, ?_⟩
      refine wpAnyT_one 14 rfl (by kernel_rfl) ?_
      go_wp2_with fail
      have hPE := (((((((hP2.set 13 (by simp [alL]) (.int .i64 t)).set 14 (by simp [alL]) (.int .i64 s)).set 15 (by simp [alL]) (.int .i64 X.slot)).set 16 (by simp [alL]) (.int .i64 0)).set 17 (by simp [alL]) (.int .i64 0)).set 18 (by simp [alL]) (.int .i64 0)).set 19 (by simp [alL]) (.int .i64 0))
      refine (show wpAnyT Tryd.prog Region.Mode.any _ _ (AlS k t s X.slot) 14 0 _ _ _ from wpAnyT_done (by kernel_rfl) ?_)
      clear q0 q1 q2 q3 q4 q5 q6 d13 g13 d14 g14 d15 g15 d16 g16 d17 g17 d18 g18 d19 g19 d5 g5 hS0 hS2 hL inv
      have b5 := hPE.at' 5 rfl
      have f5 := hPE.fz 5
      go_wp2_with fail
      first | go_end0 | refine bodyPost_ret (results_none rfl _ _ _) rfl ?_
      rw [E.out]
      exact ⟨rfl, ((((((((hV2).setCell _ _ spanS_self).setCell _ _ spanS_self).setCell _ _ spanS_self).setCell _ _ spanS_self).setCell _ _ spanS_self).setCell _ _ spanS_self).setCell _ _ spanS_self).setCell _ _ spanS_self, ⟨_, ((((((((hM2).setOther _ _ (Or.inr hk)).setOther _ _ (Or.inr hk)).setOther _ _ (Or.inr hk)).setOther _ _ (Or.inr hk)).setOther _ _ (Or.inr hk)).setOther _ _ (Or.inr hk)).setOther _ _ (Or.inr hk)).setOther _ _ (Or.inr hk)⟩, hPE.set 5 (by simp [alL]) _⟩
    · have h0d : decide (x < 0) = false := decide_eq_false h0
      by_cases h1 : wrap64 (X.arena - X.size) < x
      · have E := Lib.hid (show al4 t s x X = { X with frontier := x, qt := t, qs := s, push := ⟨X.slot, 0, 0, 0, 0⟩, step := 5 } from if_pos (Or.inr h1))
        have h1d : decide (wrap64 (X.arena - X.size) < x) = true := decide_eq_true h1
        go_wp2_with fail
        refine wp_region_later (by kernel_rfl) (by kernel_rfl) ?_
        repeat (go_big_quiet_step (fail))
        refine wpQuiet_nil ?_
        rintro _ ⟨x0, rfl⟩
        clear b0 b1 b2 b4 b20 b21 b5 f5 hlt
        replace hP1 := hP1.later x0
        replace hM1 := hM1.later x0
        replace hV1 := hV1.later x0
        generalize x0.at' = W at hP1 hM1 hV1 ⊢
        have hlt := hP1.lt
        have b0 : W.cell? ⟨k, 0, none⟩ = some (.int .i64 t) := hP1.at' 0 rfl
        have b1 : W.cell? ⟨k, 1, none⟩ = some (.int .i64 s) := hP1.at' 1 rfl
        have b20 : W.cell? ⟨k, 20, none⟩ = some (.int .i64 X.slot) := hP1.at' 20 rfl
        have b5 : W.cell? ⟨k, 5, none⟩ = some (.int .i64 X.step) := hP1.at' 5 rfl
        have f5 := hP1.fz 5
        have hnp := fun W => NewPush_any t s X.slot W
        go_wp2_with fail
        have hS0 : AlS k t s X.slot W.drew := ⟨b0, b1, b20⟩
        have hV1d := hV1.drew
        have hP1d := hP1.drew
        have hM1d := hM1.drew
        clear b0 b1 b20 b5 f5 hlt
        refine wp_region_T (n := 14) (S := AlS k t s X.slot) (by kernel_rfl) ⟨by kernel_rfl, by kernel_rfl, by kernel_rfl, rfl⟩ ?_
        intro hL inv
        refine wpAnyT_take 0 (v := .pointer (some ⟨k, 0, none⟩)) hL inv rfl (by decide) (by kernel_rfl) (by kernel_rfl) (fun _ _ _ h => h) (.inl ⟨by kernel_rfl, fun V hS => ?_⟩) hS0 ?_
        · obtain ⟨g0, g1, g2⟩ := hS
          go_simp
        clear inv
        intro inv
        refine wpAnyT_take 1 (v := .pointer (some ⟨k, 0, none⟩)) hL inv rfl (by decide) (by kernel_rfl) (by kernel_rfl) (fun _ _ _ h => h) (.inl ⟨by kernel_rfl, fun V hS => ?_⟩) hS0 ?_
        · obtain ⟨g0, g1, g2⟩ := hS
          go_simp
        clear inv
        intro inv
        refine wpAnyT_take 2 (v := .pointer (some ⟨k, 0, none⟩)) hL inv rfl (by decide) (by kernel_rfl) (by kernel_rfl) (fun _ _ _ h => h) (.inl ⟨by kernel_rfl, fun V hS => ?_⟩) hS0 ?_
        · obtain ⟨g0, g1, g2⟩ := hS
          go_simp
        clear inv
        intro inv
        refine wpAnyT_take 3 (v := .pointer (some ⟨k, 0, none⟩)) hL inv rfl (by decide) (by kernel_rfl) (by kernel_rfl) (fun _ _ _ h => h) (.inl ⟨by kernel_rfl, fun V hS => ?_⟩) hS0 ?_
        · obtain ⟨g0, g1, g2⟩ := hS
          go_simp
        clear inv
        intro inv
        refine wpAnyT_take 4 (v := .agg #[.int .i64 t, .int .i64 s]) hL inv rfl (by decide) (by kernel_rfl) (by kernel_rfl) (fun _ _ _ h => h) (.inl ⟨by kernel_rfl, fun V hS => ?_⟩) hS0 ?_
        · obtain ⟨g0, g1, g2⟩ := hS
          go_simp
        clear inv
        intro inv
        refine wpAnyT_take 5 (v := .pointer (some ⟨k, 0, none⟩)) hL inv rfl (by decide) (by kernel_rfl) (by kernel_rfl) (fun _ _ _ h => h) (.inl ⟨by kernel_rfl, fun V hS => ?_⟩) hS0 ?_
        · obtain ⟨g0, g1, g2⟩ := hS
          go_simp
        clear inv
        intro inv
        refine wpAnyT_take 6 (v := .pointer (some ⟨k, 0, none⟩)) hL inv rfl (by decide) (by kernel_rfl) (by kernel_rfl) (fun _ _ _ h => h) (.inl ⟨by kernel_rfl, fun V hS => ?_⟩) hS0 ?_
        · obtain ⟨g0, g1, g2⟩ := hS
          go_simp
        clear inv
        intro inv
        refine wpAnyT_take 7 (v := .pointer (some ⟨k, 20, none⟩)) hL inv rfl (by decide) (by kernel_rfl) (by kernel_rfl) (fun _ _ _ h => h) (.inl ⟨by kernel_rfl, fun V hS => ?_⟩) hS0 ?_
        · obtain ⟨g0, g1, g2⟩ := hS
          go_simp
        clear inv
        intro inv
        refine wpAnyT_take 8 (v := .int .i64 X.slot) hL inv rfl (by decide) (by kernel_rfl) (by kernel_rfl) (fun _ _ _ h => h) (.inl ⟨by kernel_rfl, fun V hS => ?_⟩) hS0 ?_
        · obtain ⟨g0, g1, g2⟩ := hS
          go_simp
        clear inv
        intro inv
        generalize W.drew = W1 at hS0 hV1d hP1d hM1d ⊢
        refine wpAnyT_one 9 rfl (by kernel_rfl) ?_
        go_wp2_with (go_at_call 58; (with_reducible refine (hnp _).mono ?_); rintro _ W2 ⟨kp, rfl, hk2, hb2, hf2⟩)
        have hP2 := hP1d.below hb2 hP1d.lt
        have hM2 := hM1d.moved (S := fun _ => False) (Moved.of_below hb2) (fun _ _ _ h => h)
        have hV2 := hV1d.trans (Moved.of_below hb2)
        have hS2 : AlS k t s X.slot W2 := ⟨hP2.at' 0 rfl, hP2.at' 1 rfl, hP2.at' 20 rfl⟩
        first | refine ⟨.inr hS2, ?_⟩ | refine ⟨hS2, ?_⟩
        refine wpAnyT_one 10 rfl (by kernel_rfl) ?_
        go_wp2_with fail
        first | refine ⟨.inr hS2, ?_⟩ | refine ⟨hS2, ?_⟩
        have q0 := hf2.at' 0 rfl
        have q1 := hf2.at' 1 rfl
        have q2 := hf2.at' 2 rfl
        have q3 := hf2.at' 3 rfl
        have q4 := hf2.at' 4 rfl
        have q5 := hf2.at' 5 rfl
        have q6 := hf2.at' 6 rfl
        have d13 := hP2.at' 13 rfl
        have d14 := hP2.at' 14 rfl
        have d15 := hP2.at' 15 rfl
        have d16 := hP2.at' 16 rfl
        have d17 := hP2.at' 17 rfl
        have d18 := hP2.at' 18 rfl
        have d19 := hP2.at' 19 rfl
        have d5 := hP2.at' 5 rfl
        have g13 := hP2.fz 13
        have g14 := hP2.fz 14
        have g15 := hP2.fz 15
        have g16 := hP2.fz 16
        have g17 := hP2.fz 17
        have g18 := hP2.fz 18
        have g19 := hP2.fz 19
        have g5 := hP2.fz 5
        refine wpAnyT_one 11 rfl (by kernel_rfl) ?_
        go_wp2_with fail
        first | refine ⟨.inr hS2, ?_⟩ | refine ⟨hS2, ?_⟩
        refine wpAnyT_one 12 rfl (by kernel_rfl) ?_
        go_wp2_with fail
        first | refine ⟨.inr hS2, ?_⟩ | refine ⟨hS2, ?_⟩
        refine wpAnyT_one 13 rfl (by kernel_rfl) ?_
        go_wp2_with fail
        first | refine ⟨.inr hS2, ?_⟩ | refine ⟨hS2, ?_⟩
        refine wpAnyT_one 14 rfl (by kernel_rfl) ?_
        go_wp2_with fail
        have hPE := (((((((hP2.set 13 (by simp [alL]) (.int .i64 t)).set 14 (by simp [alL]) (.int .i64 s)).set 15 (by simp [alL]) (.int .i64 X.slot)).set 16 (by simp [alL]) (.int .i64 0)).set 17 (by simp [alL]) (.int .i64 0)).set 18 (by simp [alL]) (.int .i64 0)).set 19 (by simp [alL]) (.int .i64 0))
        refine (show wpAnyT Tryd.prog Region.Mode.any _ _ (AlS k t s X.slot) 14 0 _ _ _ from wpAnyT_done (by kernel_rfl) ?_)
        clear q0 q1 q2 q3 q4 q5 q6 d13 g13 d14 g14 d15 g15 d16 g16 d17 g17 d18 g18 d19 g19 d5 g5 hS0 hS2 hL inv
        have b5 := hPE.at' 5 rfl
        have f5 := hPE.fz 5
        go_wp2_with fail
        first | go_end0 | refine bodyPost_ret (results_none rfl _ _ _) rfl ?_
        rw [E.out]
        exact ⟨rfl, ((((((((hV2).setCell _ _ spanS_self).setCell _ _ spanS_self).setCell _ _ spanS_self).setCell _ _ spanS_self).setCell _ _ spanS_self).setCell _ _ spanS_self).setCell _ _ spanS_self).setCell _ _ spanS_self, ⟨_, ((((((((hM2).setOther _ _ (Or.inr hk)).setOther _ _ (Or.inr hk)).setOther _ _ (Or.inr hk)).setOther _ _ (Or.inr hk)).setOther _ _ (Or.inr hk)).setOther _ _ (Or.inr hk)).setOther _ _ (Or.inr hk)).setOther _ _ (Or.inr hk)⟩, hPE.set 5 (by simp [alL]) _⟩
      · have E := Lib.hid (show al4 t s x X = { X with frontier := x, step := 6 } from if_neg (not_or.2 ⟨h0, h1⟩))
        have h1d : decide (wrap64 (X.arena - X.size) < x) = false := decide_eq_false h1
        go_wp2_with fail
        refine wp_region_later (by kernel_rfl) (by kernel_rfl) ?_
        repeat (go_big_quiet_step (fail))
        refine wpQuiet_nil ?_
        rintro _ ⟨x0, rfl⟩
        clear b0 b1 b2 b4 b20 b21 b5 f5 hlt
        replace hP1 := hP1.later x0
        replace hM1 := hM1.later x0
        replace hV1 := hV1.later x0
        generalize x0.at' = W at hP1 hM1 hV1 ⊢
        have hlt := hP1.lt
        have b0 : W.cell? ⟨k, 0, none⟩ = some (.int .i64 t) := hP1.at' 0 rfl
        have b1 : W.cell? ⟨k, 1, none⟩ = some (.int .i64 s) := hP1.at' 1 rfl
        have b20 : W.cell? ⟨k, 20, none⟩ = some (.int .i64 X.slot) := hP1.at' 20 rfl
        have b5 : W.cell? ⟨k, 5, none⟩ = some (.int .i64 X.step) := hP1.at' 5 rfl
        have f5 := hP1.fz 5
        go_wp2_with fail
        first | go_end0 | refine bodyPost_ret (results_none rfl _ _ _) rfl ?_
        rw [E.out]
        exact ⟨rfl, hV1.setCell _ _ spanS_self, ⟨_, hM1.setOther _ _ (Or.inr hk)⟩, hP1.set 5 (by simp [alL]) _⟩
end
end Go.Proofs.YtfomephgallpmaaDoor

namespace Go.Proofs.YtfomephgallpmaaDoor
open Go.RowKit
attribute [local go_sem] Later.cell Later.frozen Later.lt Later.le Turned.cell_lo Turned.cell_hi Turned.frozen_lo Turned.frozen_hi Turned.lt Turned.le
set_option linter.unusedVariables false
set_option linter.unusedSimpArgs false

section
variable {A : PAt} {ws bs : List Int} {n : Int} {w : World} {k : Nat} {t s : Int} {X : Am}
/-- What holds all along the load: the machine, the cells, the table. -/
structure RM (w : World) (A : PAt) (k : Nat) (L : List Value) (ws bs : List Int) (W : World) : Prop where
  fs : Fs W k L
  mem : ∃ n, Mem W A ws bs n
  hE : HasFields W
  mv : Moved (spanS A k) w W
  hk : A.hi ≤ k
  kw : k < w.heap.size
  e0 : 0 < A.lo
  ew : 0 < w.heap.size
  ah : A.hi ≤ w.heap.size
namespace RM
variable {W : World} {L : List Value}
theorem sz (h : RM w A k L ws bs W) : w.heap.size ≤ W.heap.size := h.mv.size
theorem later (h : RM w A k L ws bs W) (y : Later W) : RM w A k L ws bs y.at' :=
  { h with fs := h.fs.later y, mem := h.mem.imp fun _ m => m.later y, hE := h.hE.below y.below h.hE.lt, mv := h.mv.later y }
theorem alloc (h : RM w A k L ws bs W) (o : Obj) : RM w A k L ws bs (W.alloc o) :=
  { h with fs := h.fs.alloc o, mem := h.mem.imp fun _ m => m.alloc o, hE := h.hE.alloc o, mv := h.mv.alloc o }
theorem drew (h : RM w A k L ws bs W) : RM w A k L ws bs W.drew :=
  { h with fs := h.fs.drew, mem := h.mem.imp fun _ m => m.drew, hE := h.hE.drew, mv := h.mv.drew }
theorem touch {n' : Int} {W' : World} (h : RM w A k L ws bs W) (z : Touch A.lo A.hi W W') (hm : Mem W' A ws bs n') : RM w A k L ws bs W' :=
  { h with fs := h.fs.touch z (Or.inr h.hk), mem := ⟨_, hm⟩, hE := h.hE.touch z (Or.inl h.e0), mv := h.mv.touch z spanS_in }
theorem setNew (h : RM w A k L ws bs W) (a : Addr) (u : Value) (ha : w.heap.size ≤ a.block) : RM w A k L ws bs (W.setCell a u) :=
  { h with fs := h.fs.other a u (by have := h.kw; omega), mem := h.mem.imp fun _ m => m.setOther a u (Or.inr (by have := h.ah; omega)), hE := h.hE.setCell (by have := h.ew; omega) u, mv := h.mv.setNew a u ha }
theorem begin {n : Int} {t s : Int} (hS : ESeat w A k t s) (hM : Mem w A ws bs n) (hP : Fs w k L) : RM w A k L ws bs w :=
  { fs := hP, mem := ⟨_, hM⟩, hE := hS.hE, mv := Moved.refl _ _, hk := hS.hk, kw := hP.lt, e0 := hS.e0, ew := hS.hE.lt, ah := hM.hs }
end RM
theorem rdS6 {W : World} {L : List Value} {b : Nat} {v0 v1 v2 v3 v4 v5 : Value} (h : RM w A k L ws bs W) (hb : w.heap.size ≤ b) : RM w A k L ws bs ((((((W.setCell ⟨b, 0, none⟩ v0).setCell ⟨b, 1, none⟩ v1).setCell ⟨b, 2, none⟩ v2).setCell ⟨b, 3, none⟩ v3).setCell ⟨b, 4, none⟩ v4).setCell ⟨b, 5, none⟩ v5) :=
  (((((h.setNew _ _ hb).setNew _ _ hb).setNew _ _ hb).setNew _ _ hb).setNew _ _ hb).setNew _ _ hb
theorem rdK3 {W : World} (h : RM w A k (alL t s X) ws bs W) : W.cell? ⟨k, 0, none⟩ = some (.int .i64 t) ∧ W.cell? ⟨k, 1, none⟩ = some (.int .i64 s) ∧ W.cell? ⟨k, 20, none⟩ = some (.int .i64 X.slot) ∧ RM w A k (alL t s X) ws bs W := ⟨h.fs.at' 0 rfl, h.fs.at' 1 rfl, h.fs.at' 20 rfl, h⟩
theorem rdL3 {W : World} {L : List Value} {a b c : Prop} (h : a ∧ b ∧ c ∧ RM w A k L ws bs W) : RM w A k L ws bs W := h.2.2.2
/-- Behind the entry's unpacking: where it lies, and the error. -/
def LdCut (w : World) (A : PAt) (k : Nat) (L : List Value) (ws bs : List Int) (er : Int) (V : List Value) (v6 v7 : Value) (wx : World) : Prop :=
  ∃ b6, v6 = .pointer (some ⟨b6, 0, none⟩) ∧ v7 = .int .i64 er ∧ w.heap.size ≤ b6 ∧ RM w A k L ws bs wx ∧ Fs wx b6 V
/-- What the step comes to, of the entry's word x. -/
def al9 (x : Int) (X : Am) : Am := if upE x = 0 ∧ (upV x).lv = false then { X with gen := (upV x).g, step := 10 } else { X with kept := 2, gen := (upV x).g, step := 10 }
set_option maxHeartbeats 8000000 in
set_option maxRecDepth 8000 in
theorem al9_any (x : Int) (hxe : atI ws (partN t s X.slot 0) = x) (hS : ESeat w A k t s) (hM : Mem w A ws bs n) (hP : Fs w k (alL t s X)) :
    Calls Tryd.prog 43 #[.pointer (some ⟨k, 0, none⟩), ifc A] w (SRet A k w (.tuple #[]) (alL t s (al9 x X)) ws bs) := by
  have hen := fun W => LEntry_any (t := t) (s := s) (by have := hS.t0; omega) hS.t4 (by have := hS.s0; omega) hS.s64 X.slot W
  have hld := fun (n : Int) (W : World) (h : Mem W A ws bs n) => Load_any (partN t s X.slot 0) h
  rw [hxe] at hld
  clear hxe
  generalize partN t s X.slot 0 = pl at hen hld
  have hun := fun W => Unpack_any x W
  have HE := Lib.hid (show al9 x X = (if upE x = 0 ∧ (upV x).lv = false then { X with gen := (upV x).g, step := 10 } else { X with kept := 2, gen := (upV x).g, step := 10 }) from rfl)
  generalize upE x = er at hun HE
  generalize upV x = E at hun HE
  obtain ⟨o, g, p, q, lk, lv⟩ := E
  unfold En.val at hun
  simp only at hun
  have hk := hS.hk
  have hns := nil_Load
  have hms := met_Load
  have hR := RM.begin hS hM hP
  have hRd := hR.drew
  have hNd : ∀ T, Fs (w.drew.alloc (.cells #[.int .i64 0, .int .i64 0, .int .i64 0, .int .i64 0, .bool false, .bool false] T)) w.heap.size [.int .i64 0, .int .i64 0, .int .i64 0, .int .i64 0, .bool false, .bool false] := fun T => Fs.new' _ _ (by simp) rfl
  have hNe : ∀ T, Fs (w.alloc (.cells #[.int .i64 0, .int .i64 0, .int .i64 0, .int .i64 0, .bool false, .bool false] T)) w.heap.size [.int .i64 0, .int .i64 0, .int .i64 0, .int .i64 0, .bool false, .bool false] := fun T => Fs.new' _ _ (by simp) rfl
  clear hM hP hS
  unfold ifc
  go_enter Tryd.func43, Tryd.ntmps43
  go_wp2_with fail
  go_cut [4, 5] from 4 to 41 (fun v6 v7 wx => LdCut w A k (alL t s X) ws bs er [.int .i64 o, .int .i64 g, .int .i64 p, .int .i64 q, .bool lk, .bool lv] v6 v7 wx)
  case first =>
    go_region_held3 (fun w' => w'.cell? ⟨k, 0, none⟩ = some (.int .i64 t) ∧ w'.cell? ⟨k, 1, none⟩ = some (.int .i64 s) ∧ w'.cell? ⟨k, 20, none⟩ = some (.int .i64 X.slot) ∧ RM w A k (alL t s X) ws bs w') (first
      | with_reducible exact rdK3 hR
      | with_reducible exact rdK3 hRd
      | with_reducible exact rdK3 (hR3.alloc _)
      | with_reducible exact rdK3 (rdS6 hR3 hb6)
      | with_reducible assumption
      | with_reducible exact rdK3 ((rdL3 ‹_ ∧ _›).alloc _)
      | with_reducible exact rdK3 hR3
      | with_reducible exact rdK3 hR2
      | with_reducible exact rdK3 hR1) (first
      | (go_at_call 62; refine (hen _).mono ?_; rintro _ _ ⟨rfl, y, rfl⟩; (first | (with_reducible have hR1 := hRd.later y) | (with_reducible have hR1 := (hRd.alloc _).later y) | (with_reducible have hR1 := (hR.alloc _).drew.later y)); (first | (with_reducible have hQ1 := (hNd _).later y; have hb6 : w.heap.size ≤ w.heap.size := Nat.le_refl _) | (with_reducible have hQ1 := (hNe _).drew.later y; have hb6 : w.heap.size ≤ w.heap.size := Nat.le_refl _) | skip))
      | (go_at_call 16; (first | obtain ⟨m1, hm1⟩ := hR1.mem | skip); (first | (with_reducible refine (hld _ _ hm1).mono ?_) | (with_reducible refine (hld _ _ (hm1.alloc _)).mono ?_)); rintro _ _ ⟨rfl, z, rfl, hM1⟩; (first | (with_reducible have hR2 := hR1.touch z.turn hM1) | (with_reducible have hR2 := (hR1.alloc _).touch z.turn hM1)); (first | (with_reducible have hQ2 := hQ1.touch z.turn (Or.inr (Nat.le_trans hR.ah hb6))) | (with_reducible have hQ2 := (Fs.new _ _ _).touch z.turn (Or.inr (Nat.le_trans hR.ah hR1.sz)); have hb6 := hR1.sz) | skip))
      | (go_at_call 61; (first | (with_reducible refine (hun _ hR2.hE).mono ?_) | (with_reducible refine (hun _ (hR2.alloc _).hE).mono ?_)); rintro _ _ ⟨rfl, u, rfl⟩; (first | (with_reducible have hR3 := hR2.later u) | (with_reducible have hR3 := (hR2.alloc _).later u)); (first | (with_reducible have hQ3 := hQ2.later u) | (with_reducible have hQ3 := (Fs.new _ _ _).later u; have hb6 := hR2.sz) | skip); (first | (have q0 := hQ3.fz 0; have q1 := hQ3.fz 1; have q2 := hQ3.fz 2; have q3 := hQ3.fz 3; have q4 := hQ3.fz 4; have q5 := hQ3.fz 5; have p0 := hQ3.at' 0 rfl; have p1 := hQ3.at' 1 rfl; have p2 := hQ3.at' 2 rfl; have p3 := hQ3.at' 3 rfl; have p4 := hQ3.at' 4 rfl; have p5 := hQ3.at' 5 rfl) | skip)))
    all_goals (first
      | have hQ4 := (((((hQ3.set 0 (by simp) (.int .i64 o)).set 1 (by simp) (.int .i64 g)).set 2 (by simp) (.int .i64 p)).set 3 (by simp) (.int .i64 q)).set 4 (by simp) (.bool lk)).set 5 (by simp) (.bool lv)
      | (have hQ4 : Fs (u.at'.alloc (.cells #[.int .i64 o, .int .i64 g, .int .i64 p, .int .i64 q, .bool lk, .bool lv] 89)) u.at'.heap.size [.int .i64 o, .int .i64 g, .int .i64 p, .int .i64 q, .bool lk, .bool lv] := Fs.new' _ _ rfl rfl; have hb6 := hR3.sz))
    all_goals (rename_i hHeld; have hR4 := rdL3 hHeld; clear hHeld)
    all_goals go_wp2_with fail
    all_goals go_meet
    all_goals exact ⟨_, rfl, rfl, hb6, hR4, hQ4⟩
  case rest =>
    obtain ⟨b6, rfl, rfl, hb6, hR6, hF6⟩ := hcut
    clear hR hRd hNd hNe hen hld hun hms hns
    obtain ⟨nm, hmm⟩ := hR6.mem
    have hP6 := hR6.fs
    have hV6 := hR6.mv
    have q1 := hF6.at' 1 rfl
    have q5 := hF6.at' 5 rfl
    have d5 := hP6.at' 5 rfl
    have d23 := hP6.at' 23 rfl
    have d24 := hP6.at' 24 rfl
    have f5 := hP6.fz 5
    have f23 := hP6.fz 23
    have f24 := hP6.fz 24
    clear hR6
    by_cases e0 : er = 0
    · cases lv
      · have HE2 := Lib.hid (show al9 x X = { X with gen := g, step := 10 } from by rw [HE.out, if_pos ⟨e0, rfl⟩])
        subst e0
        clear HE
        go_wp2_with fail
        first | go_end0 | refine bodyPost_ret (results_none rfl _ _ _) rfl ?_
        rw [HE2.out]
        exact ⟨rfl, (hV6.setCell _ _ spanS_self).setCell _ _ spanS_self, ⟨_, (hmm.setOther _ _ (Or.inr hk)).setOther _ _ (Or.inr hk)⟩, (hP6.set 23 (by simp [alL]) _).set 5 (by simp [alL]) _⟩
      · have HE2 := Lib.hid (show al9 x X = { X with kept := 2, gen := g, step := 10 } from by rw [HE.out, if_neg (fun k => by cases k.2)])
        subst e0
        clear HE
        go_wp2_with fail
        first | go_end0 | refine bodyPost_ret (results_none rfl _ _ _) rfl ?_
        rw [HE2.out]
        exact ⟨rfl, ((hV6.setCell _ _ spanS_self).setCell _ _ spanS_self).setCell _ _ spanS_self, ⟨_, ((hmm.setOther _ _ (Or.inr hk)).setOther _ _ (Or.inr hk)).setOther _ _ (Or.inr hk)⟩, ((hP6.set 24 (by simp [alL]) _).set 23 (by simp [alL]) _).set 5 (by simp [alL]) _⟩
    · have HE2 := Lib.hid (show al9 x X = { X with kept := 2, gen := g, step := 10 } from by rw [HE.out, if_neg (fun k => e0 k.1)])
      have e1 : decide (er = 0) = false := decide_eq_false e0
      have e2 : (er == 0) = false := by simpa using e0
      have e3 : (er != 0) = true := by simp [e0]
      clear HE e0
      go_wp2_with fail
      first | go_end0 | refine bodyPost_ret (results_none rfl _ _ _) rfl ?_
      rw [HE2.out]
      exact ⟨rfl, ((hV6.setCell _ _ spanS_self).setCell _ _ spanS_self).setCell _ _ spanS_self, ⟨_, ((hmm.setOther _ _ (Or.inr hk)).setOther _ _ (Or.inr hk)).setOther _ _ (Or.inr hk)⟩, ((hP6.set 24 (by simp [alL]) _).set 23 (by simp [alL]) _).set 5 (by simp [alL]) _⟩
end
end Go.Proofs.YtfomephgallpmaaDoor

namespace Go.Proofs.YtfomephgallpmaaDoor
open Go.RowKit
attribute [local go_sem] Later.cell Later.frozen Later.lt Later.le Turned.cell_lo Turned.cell_hi Turned.frozen_lo Turned.frozen_hi Turned.lt Turned.le
set_option linter.unusedVariables false
set_option linter.unusedSimpArgs false

/-- The machine, the words and the bytes behind a step. -/
structure Ao where
  X : Am
  ws : List Int
  bs : List Int
/-- What a step does. -/
def alO (t s : Int) (X : Am) (ws bs : List Int) : Ao :=
  if X.step = 1 then ⟨al1 ws X, ws, bs⟩ else
  if X.step = 2 then ⟨al2o t s ws X, casW ws 2 X.pending (wrap64 (X.pending + 1)), bs⟩ else
  if X.step = 3 then ⟨al3 t s X (popO t s X.pop ws), (popO t s X.pop ws).ws, bs⟩ else
  if X.step = 4 then ⟨al4 t s (atI ws 0) X, ws, bs⟩ else
  if X.step = 5 then ⟨al5 t s X (pushO t s X.push ws), (pushO t s X.push ws).ws, bs⟩ else
  if X.step = 6 then ⟨al6o ws X, casW ws 0 X.frontier (wrap64 (X.frontier + X.size)), bs⟩ else
  if X.step = 7 then ⟨al7 X, ws, setI bs (wrap64 (X.frontier + X.cleared)) 0⟩ else
  if X.step = 8 then ⟨{ X with step := 9 }, setI ws (partN t s X.slot 1) X.n, bs⟩ else
  if X.step = 9 then ⟨al9 (atI ws (partN t s X.slot 0)) X, ws, bs⟩ else
  if X.step = 10 then ⟨{ X with step := 11 }, al10 t s X ws, bs⟩ else
  if X.step = 11 then ⟨{ X with pending := atI ws 2, step := 12 }, ws, bs⟩ else
  if X.step = 12 then ⟨al12o ws X, casW ws 2 X.pending (wrap64 (X.pending - 1)), bs⟩ else
  ⟨X, ws, bs⟩
section
variable {A : PAt} {ws bs : List Int} {n : Int} {w W : World} {k : Nat} {t s : Int} {X : Am}
theorem alO_0 (h : X.step = 0) : alO t s X ws bs = ⟨X, ws, bs⟩ := by unfold alO; simp [h]
theorem alO_1 (h : X.step = 1) : alO t s X ws bs = ⟨al1 ws X, ws, bs⟩ := by unfold alO; simp [h]
theorem alO_2 (h : X.step = 2) : alO t s X ws bs = ⟨al2o t s ws X, casW ws 2 X.pending (wrap64 (X.pending + 1)), bs⟩ := by unfold alO; simp [h]
theorem alO_3 (h : X.step = 3) : alO t s X ws bs = ⟨al3 t s X (popO t s X.pop ws), (popO t s X.pop ws).ws, bs⟩ := by unfold alO; simp [h]
theorem alO_4 (h : X.step = 4) : alO t s X ws bs = ⟨al4 t s (atI ws 0) X, ws, bs⟩ := by unfold alO; simp [h]
theorem alO_5 (h : X.step = 5) : alO t s X ws bs = ⟨al5 t s X (pushO t s X.push ws), (pushO t s X.push ws).ws, bs⟩ := by unfold alO; simp [h]
theorem alO_6 (h : X.step = 6) : alO t s X ws bs = ⟨al6o ws X, casW ws 0 X.frontier (wrap64 (X.frontier + X.size)), bs⟩ := by unfold alO; simp [h]
theorem alO_7 (h : X.step = 7) : alO t s X ws bs = ⟨al7 X, ws, setI bs (wrap64 (X.frontier + X.cleared)) 0⟩ := by unfold alO; simp [h]
theorem alO_8 (h : X.step = 8) : alO t s X ws bs = ⟨{ X with step := 9 }, setI ws (partN t s X.slot 1) X.n, bs⟩ := by unfold alO; simp [h]
theorem alO_9 (h : X.step = 9) : alO t s X ws bs = ⟨al9 (atI ws (partN t s X.slot 0)) X, ws, bs⟩ := by unfold alO; simp [h]
theorem alO_10 (h : X.step = 10) : alO t s X ws bs = ⟨{ X with step := 11 }, al10 t s X ws, bs⟩ := by unfold alO; simp [h]
theorem alO_11 (h : X.step = 11) : alO t s X ws bs = ⟨{ X with pending := atI ws 2, step := 12 }, ws, bs⟩ := by unfold alO; simp [h]
theorem alO_12 (h : X.step = 12) : alO t s X ws bs = ⟨al12o ws X, casW ws 2 X.pending (wrap64 (X.pending - 1)), bs⟩ := by unfold alO; simp [h]
theorem alP_eq (h : X.pt = t ∧ X.ps = s) (hP : Fs w k (alL t s X)) : Fs w k (alP t s X X.pop) := by
  obtain ⟨rfl, rfl⟩ := h
  exact hP
theorem alQ_eq (h : X.qt = t ∧ X.qs = s) (hP : Fs w k (alL t s X)) : Fs w k (alQ t s X X.push) := by
  obtain ⟨rfl, rfl⟩ := h
  exact hP
/-- What a step asks of the machine and of the words. -/
structure AlOk (t s : Int) (X : Am) (ws : List Int) : Prop where
  st : 0 ≤ X.step ∧ X.step ≤ 12
  p : X.step = 3 → X.pt = t ∧ X.ps = s
  pw : X.step = 3 → X.pop.word ≤ 9223372036854775807
  q : X.step = 5 → X.qt = t ∧ X.qs = s
  hx : atI ws 1 ≤ 9223372036854775807
set_option maxHeartbeats 4000000 in
theorem ado_any (h0 : X.step ≠ 0) (ok : AlOk t s X ws) (hS : Seat w A k t s) (hE : ESeat w A k t s) (hM : Mem w A ws bs n) (hP : Fs w k (alL t s X)) :
    Calls Tryd.prog 28 #[.pointer (some ⟨k, 0, none⟩), ifc A] w (SRet A k w (.tuple #[]) (alL t s (alO t s X ws bs).X) (alO t s X ws bs).ws (alO t s X ws bs).bs) := by
  have c5 : w.cell? ⟨k, 5, none⟩ = some (.int .i64 X.step) := hP.at' 5 rfl
  obtain ⟨hst, hpp, hpw, hqq, hx⟩ := ok
  have hcs : X.step = 1 ∨ X.step = 2 ∨ X.step = 3 ∨ X.step = 4 ∨ X.step = 5 ∨ X.step = 6 ∨ X.step = 7 ∨ X.step = 8 ∨ X.step = 9 ∨ X.step = 10 ∨ X.step = 11 ∨ X.step = 12 := by omega
  rcases hcs with h1 | h1 | h1 | h1 | h1 | h1 | h1 | h1 | h1 | h1 | h1 | h1
  · rw [alO_1 h1]
    have hc := al1_any hS hM hP
    rw [h1] at c5
    revert hc
    show Calls _ _ _ _ (SRet A k w (.tuple #[]) (alL t s (al1 ws X)) (ws) (bs)) → Calls _ _ _ _ (SRet A k w (.tuple #[]) (alL t s (al1 ws X)) (ws) (bs))
    generalize (al1 ws X : Am) = X'
    skip
    skip
    intro hc
    clear hP hM hS hE h1 h0 hst hpp hpw hqq hx
    unfold ifc at *
    go_enter Tryd.func28, Tryd.ntmps28
    go_wp2_with (go_at_call 35; (with_reducible refine hc.mono ?_); rintro _ w1 ⟨rfl, hV, hM1, hP1⟩)
    first | go_end0 | refine bodyPost_ret (results_none rfl _ _ _) rfl ?_
    exact ⟨rfl, hV, hM1, hP1⟩
  · rw [alO_2 h1]
    have hc := al2_any hS hM hP
    rw [h1] at c5
    revert hc
    show Calls _ _ _ _ (SRet A k w (.tuple #[]) (alL t s (al2o t s ws X)) (casW ws 2 X.pending (wrap64 (X.pending + 1))) (bs)) → Calls _ _ _ _ (SRet A k w (.tuple #[]) (alL t s (al2o t s ws X)) (casW ws 2 X.pending (wrap64 (X.pending + 1))) (bs))
    generalize (al2o t s ws X : Am) = X'
    generalize casW ws 2 X.pending (wrap64 (X.pending + 1)) = ws2
    skip
    intro hc
    clear hP hM hS hE h1 h0 hst hpp hpw hqq hx
    unfold ifc at *
    go_enter Tryd.func28, Tryd.ntmps28
    go_wp2_with (go_at_call 36; (with_reducible refine hc.mono ?_); rintro _ w1 ⟨rfl, hV, hM1, hP1⟩)
    first | go_end0 | refine bodyPost_ret (results_none rfl _ _ _) rfl ?_
    exact ⟨rfl, hV, hM1, hP1⟩
  · rw [alO_3 h1]
    have hc := al3_any hS hM (alP_eq (hpp h1) hP) hx (hpw h1)
    rw [h1] at c5
    revert hc
    show Calls _ _ _ _ (SRet A k w (.tuple #[]) (alL t s (al3 t s X (popO t s X.pop ws))) ((popO t s X.pop ws).ws) (bs)) → Calls _ _ _ _ (SRet A k w (.tuple #[]) (alL t s (al3 t s X (popO t s X.pop ws))) ((popO t s X.pop ws).ws) (bs))
    generalize (al3 t s X (popO t s X.pop ws) : Am) = X'
    generalize (popO t s X.pop ws).ws = ws2
    skip
    intro hc
    clear hP hM hS hE h1 h0 hst hpp hpw hqq hx
    unfold ifc at *
    go_enter Tryd.func28, Tryd.ntmps28
    go_wp2_with (go_at_call 37; (with_reducible refine hc.mono ?_); rintro _ w1 ⟨rfl, hV, hM1, hP1⟩)
    first | go_end0 | refine bodyPost_ret (results_none rfl _ _ _) rfl ?_
    exact ⟨rfl, hV, hM1, hP1⟩
  · rw [alO_4 h1]
    have hc := al4_any hS hM hP
    rw [h1] at c5
    revert hc
    show Calls _ _ _ _ (SRet A k w (.tuple #[]) (alL t s (al4 t s (atI ws 0) X)) (ws) (bs)) → Calls _ _ _ _ (SRet A k w (.tuple #[]) (alL t s (al4 t s (atI ws 0) X)) (ws) (bs))
    generalize (al4 t s (atI ws 0) X : Am) = X'
    skip
    skip
    intro hc
    clear hP hM hS hE h1 h0 hst hpp hpw hqq hx
    unfold ifc at *
    go_enter Tryd.func28, Tryd.ntmps28
    go_wp2_with (go_at_call 38; (with_reducible refine hc.mono ?_); rintro _ w1 ⟨rfl, hV, hM1, hP1⟩)
    first | go_end0 | refine bodyPost_ret (results_none rfl _ _ _) rfl ?_
    exact ⟨rfl, hV, hM1, hP1⟩
  · rw [alO_5 h1]
    have hc := al5_any hS hM (alQ_eq (hqq h1) hP) hx
    rw [h1] at c5
    revert hc
    show Calls _ _ _ _ (SRet A k w (.tuple #[]) (alL t s (al5 t s X (pushO t s X.push ws))) ((pushO t s X.push ws).ws) (bs)) → Calls _ _ _ _ (SRet A k w (.tuple #[]) (alL t s (al5 t s X (pushO t s X.push ws))) ((pushO t s X.push ws).ws) (bs))
    generalize (al5 t s X (pushO t s X.push ws) : Am) = X'
    generalize (pushO t s X.push ws).ws = ws2
    skip
    intro hc
    clear hP hM hS hE h1 h0 hst hpp hpw hqq hx
    unfold ifc at *
    go_enter Tryd.func28, Tryd.ntmps28
    go_wp2_with (go_at_call 39; (with_reducible refine hc.mono ?_); rintro _ w1 ⟨rfl, hV, hM1, hP1⟩)
    first | go_end0 | refine bodyPost_ret (results_none rfl _ _ _) rfl ?_
    exact ⟨rfl, hV, hM1, hP1⟩
  · rw [alO_6 h1]
    have hc := al6_any hS hM hP
    rw [h1] at c5
    revert hc
    show Calls _ _ _ _ (SRet A k w (.tuple #[]) (alL t s (al6o ws X)) (casW ws 0 X.frontier (wrap64 (X.frontier + X.size))) (bs)) → Calls _ _ _ _ (SRet A k w (.tuple #[]) (alL t s (al6o ws X)) (casW ws 0 X.frontier (wrap64 (X.frontier + X.size))) (bs))
    generalize (al6o ws X : Am) = X'
    generalize casW ws 0 X.frontier (wrap64 (X.frontier + X.size)) = ws2
    skip
    intro hc
    clear hP hM hS hE h1 h0 hst hpp hpw hqq hx
    unfold ifc at *
    go_enter Tryd.func28, Tryd.ntmps28
    go_wp2_with (go_at_call 40; (with_reducible refine hc.mono ?_); rintro _ w1 ⟨rfl, hV, hM1, hP1⟩)
    first | go_end0 | refine bodyPost_ret (results_none rfl _ _ _) rfl ?_
    exact ⟨rfl, hV, hM1, hP1⟩
  · rw [alO_7 h1]
    have hc := al7_any hS hM hP
    rw [h1] at c5
    revert hc
    show Calls _ _ _ _ (SRet A k w (.tuple #[]) (alL t s (al7 X)) (ws) (setI bs (wrap64 (X.frontier + X.cleared)) 0)) → Calls _ _ _ _ (SRet A k w (.tuple #[]) (alL t s (al7 X)) (ws) (setI bs (wrap64 (X.frontier + X.cleared)) 0))
    generalize (al7 X : Am) = X'
    skip
    generalize setI bs (wrap64 (X.frontier + X.cleared)) 0 = bs2
    intro hc
    clear hP hM hS hE h1 h0 hst hpp hpw hqq hx
    unfold ifc at *
    go_enter Tryd.func28, Tryd.ntmps28
    go_wp2_with (go_at_call 41; (with_reducible refine hc.mono ?_); rintro _ w1 ⟨rfl, hV, hM1, hP1⟩)
    first | go_end0 | refine bodyPost_ret (results_none rfl _ _ _) rfl ?_
    exact ⟨rfl, hV, hM1, hP1⟩
  · rw [alO_8 h1]
    have hc := al8_any hS hM hP
    rw [h1] at c5
    revert hc
    show Calls _ _ _ _ (SRet A k w (.tuple #[]) (alL t s ({ X with step := 9 })) (setI ws (partN t s X.slot 1) X.n) (bs)) → Calls _ _ _ _ (SRet A k w (.tuple #[]) (alL t s ({ X with step := 9 })) (setI ws (partN t s X.slot 1) X.n) (bs))
    generalize ({ X with step := 9 } : Am) = X'
    generalize setI ws (partN t s X.slot 1) X.n = ws2
    skip
    intro hc
    clear hP hM hS hE h1 h0 hst hpp hpw hqq hx
    unfold ifc at *
    go_enter Tryd.func28, Tryd.ntmps28
    go_wp2_with (go_at_call 42; (with_reducible refine hc.mono ?_); rintro _ w1 ⟨rfl, hV, hM1, hP1⟩)
    first | go_end0 | refine bodyPost_ret (results_none rfl _ _ _) rfl ?_
    exact ⟨rfl, hV, hM1, hP1⟩
  · rw [alO_9 h1]
    have hc := al9_any _ rfl hE hM hP
    rw [h1] at c5
    revert hc
    show Calls _ _ _ _ (SRet A k w (.tuple #[]) (alL t s (al9 (atI ws (partN t s X.slot 0)) X)) (ws) (bs)) → Calls _ _ _ _ (SRet A k w (.tuple #[]) (alL t s (al9 (atI ws (partN t s X.slot 0)) X)) (ws) (bs))
    generalize (al9 (atI ws (partN t s X.slot 0)) X : Am) = X'
    skip
    skip
    intro hc
    clear hP hM hS hE h1 h0 hst hpp hpw hqq hx
    unfold ifc at *
    go_enter Tryd.func28, Tryd.ntmps28
    go_wp2_with (go_at_call 43; (with_reducible refine hc.mono ?_); rintro _ w1 ⟨rfl, hV, hM1, hP1⟩)
    first | go_end0 | refine bodyPost_ret (results_none rfl _ _ _) rfl ?_
    exact ⟨rfl, hV, hM1, hP1⟩
  · rw [alO_10 h1]
    have hc := al10_any hE hM hP
    rw [h1] at c5
    revert hc
    show Calls _ _ _ _ (SRet A k w (.tuple #[]) (alL t s ({ X with step := 11 })) (al10 t s X ws) (bs)) → Calls _ _ _ _ (SRet A k w (.tuple #[]) (alL t s ({ X with step := 11 })) (al10 t s X ws) (bs))
    generalize ({ X with step := 11 } : Am) = X'
    generalize al10 t s X ws = ws2
    skip
    intro hc
    clear hP hM hS hE h1 h0 hst hpp hpw hqq hx
    unfold ifc at *
    go_enter Tryd.func28, Tryd.ntmps28
    go_wp2_with (go_at_call 44; (with_reducible refine hc.mono ?_); rintro _ w1 ⟨rfl, hV, hM1, hP1⟩)
    first | go_end0 | refine bodyPost_ret (results_none rfl _ _ _) rfl ?_
    exact ⟨rfl, hV, hM1, hP1⟩
  · rw [alO_11 h1]
    have hc := al11_any hS hM hP
    rw [h1] at c5
    revert hc
    show Calls _ _ _ _ (SRet A k w (.tuple #[]) (alL t s ({ X with pending := atI ws 2, step := 12 })) (ws) (bs)) → Calls _ _ _ _ (SRet A k w (.tuple #[]) (alL t s ({ X with pending := atI ws 2, step := 12 })) (ws) (bs))
    generalize ({ X with pending := atI ws 2, step := 12 } : Am) = X'
    skip
    skip
    intro hc
    clear hP hM hS hE h1 h0 hst hpp hpw hqq hx
    unfold ifc at *
    go_enter Tryd.func28, Tryd.ntmps28
    go_wp2_with (go_at_call 45; (with_reducible refine hc.mono ?_); rintro _ w1 ⟨rfl, hV, hM1, hP1⟩)
    first | go_end0 | refine bodyPost_ret (results_none rfl _ _ _) rfl ?_
    exact ⟨rfl, hV, hM1, hP1⟩
  · rw [alO_12 h1]
    have hc := al12_any hS hM hP
    rw [h1] at c5
    revert hc
    show Calls _ _ _ _ (SRet A k w (.tuple #[]) (alL t s (al12o ws X)) (casW ws 2 X.pending (wrap64 (X.pending - 1))) (bs)) → Calls _ _ _ _ (SRet A k w (.tuple #[]) (alL t s (al12o ws X)) (casW ws 2 X.pending (wrap64 (X.pending - 1))) (bs))
    generalize (al12o ws X : Am) = X'
    generalize casW ws 2 X.pending (wrap64 (X.pending - 1)) = ws2
    skip
    intro hc
    clear hP hM hS hE h1 h0 hst hpp hpw hqq hx
    unfold ifc at *
    go_enter Tryd.func28, Tryd.ntmps28
    go_wp2_with (go_at_call 46; (with_reducible refine hc.mono ?_); rintro _ w1 ⟨rfl, hV, hM1, hP1⟩)
    first | go_end0 | refine bodyPost_ret (results_none rfl _ _ _) rfl ?_
    exact ⟨rfl, hV, hM1, hP1⟩

/-- What the machine answers, of its own. -/
def resC (X : Am) : Int := X.kept
def resV (X : Am) : Int := if X.kept = 0 then mkV X.slot X.gen else 0
theorem resA_any (h0 : X.kept ≠ 0) (hP : Fs w k (alL t s X)) : Calls Tryd.prog 29 #[.pointer (some ⟨k, 0, none⟩)] w (Ret w (.agg #[.int .i64 (resC X), .int .i64 (resV X)])) := by
  have E1 : resC X = X.kept := rfl
  have E2 : resV X = 0 := by unfold resV; rw [if_neg h0]
  have hPa := hP.alloc (.cells #[.int .i64 0, .int .i64 0] 32)
  have c24 : w.cell? ⟨k, 24, none⟩ = some (.int .i64 X.kept) := hP.at' 24 rfl
  have hlt := hP.lt
  have e1 : decide (X.kept = 0) = false := decide_eq_false h0
  have e2 : (X.kept == 0) = false := by simpa using h0
  have e3 : (X.kept != 0) = true := by simp [h0]
  rw [E1, E2]
  clear hP hPa h0 E1 E2
  go_enter Tryd.func29, Tryd.ntmps29
  go_wp2_with fail
  refine bodyPost_ret (v := .agg #[.int .i64 X.kept, .int .i64 0]) (by simp [results, Tryd.results29, go_sem]) rfl ?_
  exact Ret.mk rfl ((Below.refl _ _).alloc (Nat.le_refl _) _)
set_option maxHeartbeats 4000000 in
theorem resB_any (h0 : X.kept = 0) (hP : Fs w k (alL t s X)) : Calls Tryd.prog 29 #[.pointer (some ⟨k, 0, none⟩)] w (Ret w (.agg #[.int .i64 (resC X), .int .i64 (resV X)])) := by
  have E1 : resC X = 0 := h0
  have E2 : resV X = mkV X.slot X.gen := by unfold resV; rw [if_pos h0]
  have hPa := hP.alloc (.cells #[.int .i64 0, .int .i64 0] 32)
  have hRa : Fs (w.alloc (.cells #[.int .i64 0, .int .i64 0] 32)) w.heap.size [.int .i64 0, .int .i64 0] := Fs.new' _ _ rfl rfl
  have hB : Below w.heap.size w (w.alloc (.cells #[.int .i64 0, .int .i64 0] 32)) := (Below.refl _ _).alloc (Nat.le_refl _) _
  have c24 : w.cell? ⟨k, 24, none⟩ = some (.int .i64 0) := h0 ▸ hP.at' 24 rfl
  have hmk := fun W => Make_any X.slot X.gen W
  have hlt := hP.lt
  rw [E1, E2]
  clear hP h0 E1 E2
  generalize mkV X.slot X.gen = v at hmk ⊢
  generalize mkE X.slot X.gen = e9 at hmk
  go_enter Tryd.func29, Tryd.ntmps29
  go_wp2_with fail
  have b20 : (w.alloc (.cells #[.int .i64 0, .int .i64 0] 32)).cell? ⟨k, 20, none⟩ = some (.int .i64 X.slot) := hPa.at' 20 rfl
  have b23 : (w.alloc (.cells #[.int .i64 0, .int .i64 0] 32)).cell? ⟨k, 23, none⟩ = some (.int .i64 X.gen) := hPa.at' 23 rfl
  refine wp_region_later (by kernel_rfl) (by kernel_rfl) ?_
  repeat (go_big_quiet_step (first | (go_at_call 14; exact later_of _ (hmk _))))
  refine wpQuiet_nil ?_
  rintro _ ⟨x0, rfl⟩
  have hR0 := hRa.later x0
  have r0 := hR0.at' 0 rfl
  have r1 := hR0.at' 1 rfl
  have q0 := hR0.fz 0
  have q1 := hR0.fz 1
  go_wp2_with fail
  have hR2 := (hR0.set 0 (by simp) (.int .i64 0)).set 1 (by simp) (.int .i64 v)
  have hB2 := (((x0.cat hB hB.size).setCell (p := ⟨w.heap.size, 0, none⟩) (Nat.le_refl _) (.int .i64 0)).setCell (p := ⟨w.heap.size, 1, none⟩) (Nat.le_refl _) (.int .i64 v))
  generalize (x0.at'.setCell ⟨w.heap.size, 0, none⟩ (.int .i64 0)).setCell ⟨w.heap.size, 1, none⟩ (.int .i64 v) = W2 at hR2 hB2 ⊢
  have e0 : W2.cell? ⟨w.heap.size, 0, none⟩ = some (.int .i64 0) := hR2.at' 0 rfl
  have e1 : W2.cell? ⟨w.heap.size, 1, none⟩ = some (.int .i64 v) := hR2.at' 1 rfl
  refine bodyPost_ret (v := .agg #[.int .i64 0, .int .i64 v]) (by simp [results, Tryd.results29, go_sem, e0, e1]) rfl ?_
  exact Ret.mk rfl hB2
theorem result_any (hP : Fs w k (alL t s X)) : Calls Tryd.prog 29 #[.pointer (some ⟨k, 0, none⟩)] w (Ret w (.agg #[.int .i64 (resC X), .int .i64 (resV X)])) := by
  by_cases h0 : X.kept = 0
  · exact resB_any h0 hP
  · exact resA_any h0 hP
end
end Go.Proofs.YtfomephgallpmaaDoor

namespace Go.Proofs.YtfomephgallpmaaDoor
open Go.RowKit
attribute [local go_sem] Later.cell Later.frozen Later.lt Later.le Turned.cell_lo Turned.cell_hi Turned.frozen_lo Turned.frozen_hi Turned.lt Turned.le
set_option linter.unusedVariables false
set_option linter.unusedSimpArgs false

theorem Seat.alloc {w : World} {A : PAt} {k : Nat} {t s : Int} (h : Seat w A k t s) (o : Obj) : Seat (w.alloc o) A k t s := h.moved ((Moved.refl _ _).alloc o)
theorem astep_nil (m : Value) (w : World) : Calls Tryd.prog 17 #[.pointer none, m] w (Ret w (.tuple #[.agg #[.int .i64 1, .int .i64 0], .bool true])) := by
  go_enter Tryd.func17, Tryd.ntmps17
  go_wp2
  refine bodyPost_ret (v := .tuple #[.agg #[.int .i64 1, .int .i64 0], .bool true]) (by simp [results, Tryd.results17, go_sem]) rfl ?_
  exact Ret.mk rfl ((Below.refl _ _).alloc (Nat.le_refl _) _)
theorem astep_none (a : Addr) (w : World) : Calls Tryd.prog 17 #[.pointer (some a), .nilIface] w (Ret w (.tuple #[.agg #[.int .i64 1, .int .i64 0], .bool true])) := by
  go_enter Tryd.func17, Tryd.ntmps17
  go_wp2
  refine bodyPost_ret (v := .tuple #[.agg #[.int .i64 1, .int .i64 0], .bool true]) (by simp [results, Tryd.results17, go_sem]) rfl ?_
  exact Ret.mk rfl ((Below.refl _ _).alloc (Nat.le_refl _) _)
/-- What a step answers: the error, the handle, whether it is done. -/
def alT (X X' : Am) : Int × Int × Bool := if X.step = 0 then (1, 0, true) else if X'.step = 0 then (resC X', resV X', true) else (0, 0, false)
section
variable {A : PAt} {ws bs : List Int} {n : Int} {w W : World} {k : Nat} {t s : Int} {X : Am}
set_option maxHeartbeats 4000000 in
theorem astep_any (ok : AlOk t s X ws) (hS : Seat w A k t s) (hE : ESeat w A k t s) (hM : Mem w A ws bs n) (hP : Fs w k (alL t s X)) :
    Calls Tryd.prog 17 #[.pointer (some ⟨k, 0, none⟩), ifc A] w (SRet A k w (.tuple #[.agg #[.int .i64 (alT X (alO t s X ws bs).X).1, .int .i64 (alT X (alO t s X ws bs).X).2.1], .bool (alT X (alO t s X ws bs).X).2.2]) (alL t s (alO t s X ws bs).X) (alO t s X ws bs).ws (alO t s X ws bs).bs) := by
  have c5 : w.cell? ⟨k, 5, none⟩ = some (.int .i64 X.step) := hP.at' 5 rfl
  have hk := hS.hk
  have hlt := hP.lt
  by_cases h0 : X.step = 0
  · rw [alO_0 h0]
    have eT : alT X X = (1, 0, true) := if_pos h0
    simp only
    rw [eT]
    rw [h0] at c5
    have hPa := hP.alloc (.cells #[.int .i64 1, .int .i64 0] 32)
    have hMa := hM.alloc (.cells #[.int .i64 1, .int .i64 0] 32)
    clear eT h0 hS hE ok hP hM
    unfold ifc
    go_enter Tryd.func17, Tryd.ntmps17
    go_wp2
    refine bodyPost_ret (v := .tuple #[.agg #[.int .i64 1, .int .i64 0], .bool true]) (by simp [results, Tryd.results17, go_sem]) rfl ?_
    exact ⟨rfl, (Moved.refl _ _).alloc _, ⟨n, hMa⟩, hPa⟩
  · have hSa := hS.alloc (.cells #[.int .i64 0, .int .i64 0] 32)
    have hEa := hE.alloc (.cells #[.int .i64 0, .int .i64 0] 32)
    have hMa := hM.alloc (.cells #[.int .i64 0, .int .i64 0] 32)
    have hPa := hP.alloc (.cells #[.int .i64 0, .int .i64 0] 32)
    have hRa : Fs (w.alloc (.cells #[.int .i64 0, .int .i64 0] 32)) w.heap.size [.int .i64 0, .int .i64 0] := Fs.new' _ _ rfl rfl
    have hd2 := ado_any h0 ok hSa hEa hMa hPa
    have HS := hM.hs
    have eT : alT X (alO t s X ws bs).X = if (alO t s X ws bs).X.step = 0 then (resC (alO t s X ws bs).X, resV (alO t s X ws bs).X, true) else (0, 0, false) := if_neg h0
    rw [eT]
    revert hd2
    generalize alO t s X ws bs = O
    obtain ⟨X', ws', bs'⟩ := O
    simp only
    intro hd2
    clear hSa hEa hMa hS hE hP hM eT ok
    unfold ifc at *
    have hne : (X.step == 0) = false := by simpa using h0
    by_cases h1 : X'.step = 0
    · rw [if_pos h1]
      have hres := fun W h => result_any (w := W) (k := k) (t := t) (s := s) (X := X') h
      generalize resC X' = rc at hres ⊢
      generalize resV X' = rv at hres ⊢
      go_enter Tryd.func17, Tryd.ntmps17
      go_wp2_with (first
        | (go_at_call 28; (with_reducible refine hd2.mono ?_); rintro _ w1 ⟨rfl, hV, hM1, hP1⟩; have d5 : w1.cell? ⟨k, 5, none⟩ = some (.int .i64 0) := h1 ▸ hP1.at' 5 rfl; have hR1 := hRa.moved hV (spanS_not (Or.inr HS) (by omega)))
        | (go_at_call 29; (with_reducible refine (hres _ hP1).mono ?_); rintro _ _ ⟨rfl, y, rfl⟩; have hR9 := hR1.later y; have hP9 := hP1.later y; have hM9 := hM1.imp fun _ m => m.later y; have hV9 := (((Moved.refl (spanS A k) w).alloc (.cells #[.int .i64 0, .int .i64 0] 32)).trans hV).later y; have r0 := hR9.at' 0 rfl; have r1 := hR9.at' 1 rfl; have q0 := hR9.fz 0; have q1 := hR9.fz 1))
      have hP2 := (hP9.other ⟨w.heap.size, 0, none⟩ (.int .i64 rc) (by show w.heap.size ≠ k; omega)).other ⟨w.heap.size, 1, none⟩ (.int .i64 rv) (by show w.heap.size ≠ k; omega)
      have hM2 := hM9.imp fun _ m => (m.setOther ⟨w.heap.size, 0, none⟩ (.int .i64 rc) (Or.inr HS)).setOther ⟨w.heap.size, 1, none⟩ (.int .i64 rv) (Or.inr HS)
      have hV2 := (hV9.setNew ⟨w.heap.size, 0, none⟩ (.int .i64 rc) (Nat.le_refl _)).setNew ⟨w.heap.size, 1, none⟩ (.int .i64 rv) (Nat.le_refl _)
      have hR2 := (hR9.set 0 (by simp) (.int .i64 rc)).set 1 (by simp) (.int .i64 rv)
      generalize (y.at'.setCell ⟨w.heap.size, 0, none⟩ (.int .i64 rc)).setCell ⟨w.heap.size, 1, none⟩ (.int .i64 rv) = W2 at hP2 hM2 hV2 hR2 ⊢
      have e0 : W2.cell? ⟨w.heap.size, 0, none⟩ = some (.int .i64 rc) := hR2.at' 0 rfl
      have e1 : W2.cell? ⟨w.heap.size, 1, none⟩ = some (.int .i64 rv) := hR2.at' 1 rfl
      refine bodyPost_ret (v := .tuple #[.agg #[.int .i64 rc, .int .i64 rv], .bool true]) (by simp [results, Tryd.results17, go_sem, e0, e1]) rfl ?_
      exact ⟨rfl, hV2, hM2, hP2⟩
    · rw [if_neg h1]
      have hne1 : (X'.step == 0) = false := by simpa using h1
      have hne2 : (X'.step != 0) = true := by simp [h1]
      go_enter Tryd.func17, Tryd.ntmps17
      go_wp2_with (go_at_call 28; (with_reducible refine hd2.mono ?_); rintro _ w1 ⟨rfl, hV, hM9, hP9⟩; have d5 : w1.cell? ⟨k, 5, none⟩ = some (.int .i64 X'.step) := hP9.at' 5 rfl; have hR9 := hRa.moved hV (spanS_not (Or.inr HS) (by omega)); have hV9 := ((Moved.refl (spanS A k) w).alloc (.cells #[.int .i64 0, .int .i64 0] 32)).trans hV; have r0 := hR9.at' 0 rfl; have r1 := hR9.at' 1 rfl; have q0 := hR9.fz 0; have q1 := hR9.fz 1)
      have hP2 := (hP9.other ⟨w.heap.size, 0, none⟩ (.int .i64 0) (by show w.heap.size ≠ k; omega)).other ⟨w.heap.size, 1, none⟩ (.int .i64 0) (by show w.heap.size ≠ k; omega)
      have hM2 := hM9.imp fun _ m => (m.setOther ⟨w.heap.size, 0, none⟩ (.int .i64 0) (Or.inr HS)).setOther ⟨w.heap.size, 1, none⟩ (.int .i64 0) (Or.inr HS)
      have hV2 := (hV9.setNew ⟨w.heap.size, 0, none⟩ (.int .i64 0) (Nat.le_refl _)).setNew ⟨w.heap.size, 1, none⟩ (.int .i64 0) (Nat.le_refl _)
      have hR2 := (hR9.set 0 (by simp) (.int .i64 0)).set 1 (by simp) (.int .i64 0)
      generalize (w1.setCell ⟨w.heap.size, 0, none⟩ (.int .i64 0)).setCell ⟨w.heap.size, 1, none⟩ (.int .i64 0) = W2 at hP2 hM2 hV2 hR2 ⊢
      have e0 : W2.cell? ⟨w.heap.size, 0, none⟩ = some (.int .i64 0) := hR2.at' 0 rfl
      have e1 : W2.cell? ⟨w.heap.size, 1, none⟩ = some (.int .i64 0) := hR2.at' 1 rfl
      refine bodyPost_ret (v := .tuple #[.agg #[.int .i64 0, .int .i64 0], .bool false]) (by simp [results, Tryd.results17, go_sem, e0, e1]) rfl ?_
      exact ⟨rfl, hV2, hM2, hP2⟩
end
end Go.Proofs.YtfomephgallpmaaDoor

