/-
  The steps of a machine that makes an object: one, two, six to eight, ten to twelve (five texts in one).
  Conditions: none but that the machine and plain cells lie there, and the tables read as they are laid.
-/
import Derived.Test.YtfomephgallpmaaDoorAlMath
import Derived.Test.YtfomephgallpmaaDoorHandleWalks4
import Derived.Test.YtfomephgallpmaaDoorStPop
import Derived.Deep.RegionHeld3
import Derived.Test.YtfomephgallpmaaDoorPlainCas
import Derived.Test.YtfomephgallpmaaDoorEntryPack
import Derived.Test.YtfomephgallpmaaDoorRdBase
import Derived.Test.YtfomephgallpmaaDoorStPush
namespace Go.Proofs.YtfomephgallpmaaDoor
open Go.RowKit
attribute [local go_sem] Later.cell Later.frozen Later.lt Later.le Turned.cell_lo Turned.cell_hi Turned.frozen_lo Turned.frozen_hi Turned.lt Turned.le
set_option linter.unusedVariables false
set_option linter.unusedSimpArgs false

section
variable {A : PAt} {ws bs : List Int} {n : Int} {w : World} {k : Nat} {t s : Int} {X : Am}
theorem alK01 (h : Fs w k (alL t s X)) : w.cell? ⟨k, 0, none⟩ = some (.int .i64 t) ∧ w.cell? ⟨k, 1, none⟩ = some (.int .i64 s) := ⟨h.at' 0 rfl, h.at' 1 rfl⟩
set_option maxHeartbeats 4000000 in
theorem al11_any (hS : Seat w A k t s) (hM : Mem w A ws bs n) (hP : Fs w k (alL t s X)) :
    Calls Tryd.prog 45 #[.pointer (some ⟨k, 0, none⟩), ifc A] w (SRet A k w (.tuple #[]) (alL t s { X with pending := atI ws 2, step := 12 }) ws bs) := by
  have hst := fun W => LPending_ok (t := t) (s := s) hS.t0 W
  have hld := fun (W : World) (h : Mem W A ws bs n) => Load_any 2 h
  generalize atI ws 2 = x at hld ⊢
  have c0 : w.cell? ⟨k, 0, none⟩ = some (.int .i64 t) := hP.at' 0 rfl
  have c1 : w.cell? ⟨k, 1, none⟩ = some (.int .i64 s) := hP.at' 1 rfl
  have hk := hS.hk
  have hlt := hP.lt
  have hns := nil_Load
  have hms := met_Load
  have hd0 : w.drew.cell? ⟨k, 0, none⟩ = some (.int .i64 t) := c0
  have hd1 : w.drew.cell? ⟨k, 1, none⟩ = some (.int .i64 s) := c1
  have hld' : k < w.drew.heap.size := hlt
  unfold ifc
  go_enter Tryd.func45, Tryd.ntmps45
  go_wp2_with fail
  go_region_held3 (fun w' => w'.cell? ⟨k, 0, none⟩ = some (.int .i64 t) ∧ w'.cell? ⟨k, 1, none⟩ = some (.int .i64 s)) (first
    | with_reducible exact ⟨c0, c1⟩
    | with_reducible exact ⟨hd0, hd1⟩
    | with_reducible exact ⟨(Later.cell _ _ _ _ hld').trans hd0, (Later.cell _ _ _ _ hld').trans hd1⟩
    | with_reducible exact keepT ⟨(Later.cell _ _ _ _ hld').trans hd0, (Later.cell _ _ _ _ hld').trans hd1⟩ (Later.lt _ _ hld') (Or.inr hk) _
    | exact keepS (keepT ⟨(Later.cell _ _ _ _ hld').trans hd0, (Later.cell _ _ _ _ hld').trans hd1⟩ (Later.lt _ _ hld') (Or.inr hk) _)) (first
    | (go_at_call 53; (with_reducible refine (hst _).mono ?_); rintro _ _ ⟨rfl, y, rfl⟩; have hPy := hP.drew.later y)
    | (go_at_call 16; (with_reducible refine (hld _ (hM.drew.later y)).mono ?_); rintro _ _ ⟨rfl, z, rfl, hM2⟩; have hPz := hPy.touch z.turn (Or.inr hk); have c6z : z.at'.cell? ⟨k, 6, none⟩ = some (.int .i64 X.pending) := hPz.at' 6 rfl; have f6z := hPz.fz 6))
  all_goals
    have hM1 := hM2.setOther ⟨k, 6, none⟩ (.int .i64 x) (Or.inr hk)
    have hP1 := hPz.set 6 (by simp [alL]) (.int .i64 x)
    have hV1 : Moved (spanS A k) w (z.at'.setCell ⟨k, 6, none⟩ (.int .i64 x)) := ((((Moved.refl _ _).drew).later y).touch z.turn spanS_in).setCell _ _ spanS_self
    rename_i hHeld
    clear hHeld c6z f6z
    generalize z.at'.setCell ⟨k, 6, none⟩ (.int .i64 x) = W at hM1 hP1 hV1 ⊢
    have b5 : W.cell? ⟨k, 5, none⟩ = some (.int .i64 X.step) := hP1.at' 5 rfl
    have f5 := hP1.fz 5
    clear hns hms hld hst c0 c1 hd0 hd1 hld' hM hPy hPz hM2 hP
    go_wp2_with fail
    first | go_end0 | refine bodyPost_ret (results_none rfl _ _ _) rfl ?_
    exact ⟨rfl, hV1.setCell _ _ spanS_self, ⟨_, hM1.setOther _ _ (Or.inr hk)⟩, hP1.set 5 (by simp [alL]) _⟩
/-- What the first step comes to. -/
def al1 (ws : List Int) (X : Am) : Am := if rdB X.n then { X with size := rdV X.n, pending := atI ws 2, step := 2 } else { X with kept := 9, step := 0 }
set_option maxHeartbeats 4000000 in
theorem al1_any (hS : Seat w A k t s) (hM : Mem w A ws bs n) (hP : Fs w k (alL t s X)) :
    Calls Tryd.prog 35 #[.pointer (some ⟨k, 0, none⟩), ifc A] w (SRet A k w (.tuple #[]) (alL t s (al1 ws X)) ws bs) := by
  have hrd := fun W => Round_any X.n W
  have hk := hS.hk
  have hlt := hP.lt
  cases hr : rdB X.n
  · have E := Lib.hid (show al1 ws X = { X with kept := 9, step := 0 } from if_neg (by rw [hr]; decide))
    rw [rdV_bad hr, rdE_bad hr] at hrd
    have c3 : w.cell? ⟨k, 3, none⟩ = some (.int .i64 X.n) := hP.at' 3 rfl
    clear hS
    unfold ifc
    go_enter Tryd.func35, Tryd.ntmps35
    go_wp2_with (go_at_call 13; (with_reducible refine (hrd _).mono ?_); rintro _ _ ⟨rfl, y, rfl⟩; have hP1 := hP.later y; have b5 := hP1.at' 5 rfl; have b24 := hP1.at' 24 rfl; have f5 := hP1.fz 5; have f24 := hP1.fz 24)
    first | go_end0 | refine bodyPost_ret (results_none rfl _ _ _) rfl ?_
    rw [E.out]
    have hVy : Moved (spanS A k) w y.at' := (Moved.refl _ _).later y
    exact ⟨rfl, (hVy.setCell _ _ spanS_self).setCell _ _ spanS_self, ⟨_, ((hM.later y).setOther _ _ (Or.inr hk)).setOther _ _ (Or.inr hk)⟩, (hP1.set 24 (by simp [alL]) _).set 5 (by simp [alL]) _⟩
  · have E := Lib.hid (show al1 ws X = { X with size := rdV X.n, pending := atI ws 2, step := 2 } from if_pos hr)
    rw [rdE_ok hr] at hrd
    have hst := fun W => LPending_ok (t := t) (s := s) hS.t0 W
    have hld := fun (W : World) (h : Mem W A ws bs n) => Load_any 2 h
    generalize atI ws 2 = x at hld E
    generalize rdV X.n = sz at hrd E
    have c3 : w.cell? ⟨k, 3, none⟩ = some (.int .i64 X.n) := hP.at' 3 rfl
    have hns := nil_Load
    have hms := met_Load
    clear hS hr
    unfold ifc
    go_enter Tryd.func35, Tryd.ntmps35
    go_wp2_with (go_at_call 13; (with_reducible refine (hrd _).mono ?_); rintro _ _ ⟨rfl, y0, rfl⟩; have hP0 := hP.later y0; have b4 := hP0.at' 4 rfl; have f4 := hP0.fz 4)
    have hPw := hP0.set 4 (by simp [alL]) (.int .i64 sz)
    have hMw := (hM.later y0).setOther ⟨k, 4, none⟩ (.int .i64 sz) (Or.inr hk)
    have hVw : Moved (spanS A k) w (y0.at'.setCell ⟨k, 4, none⟩ (.int .i64 sz)) := ((Moved.refl _ _).later y0).setCell _ _ spanS_self
    clear b4 f4 c3 hrd
    generalize y0.at'.setCell ⟨k, 4, none⟩ (.int .i64 sz) = V at hPw hMw hVw ⊢
    have c0 : V.cell? ⟨k, 0, none⟩ = some (.int .i64 t) := hPw.at' 0 rfl
    have c1 : V.cell? ⟨k, 1, none⟩ = some (.int .i64 s) := hPw.at' 1 rfl
    have hd0 : V.drew.cell? ⟨k, 0, none⟩ = some (.int .i64 t) := c0
    have hd1 : V.drew.cell? ⟨k, 1, none⟩ = some (.int .i64 s) := c1
    have hld' : k < V.drew.heap.size := hPw.lt
    go_region_held3 (fun w' => w'.cell? ⟨k, 0, none⟩ = some (.int .i64 t) ∧ w'.cell? ⟨k, 1, none⟩ = some (.int .i64 s)) (first
      | with_reducible exact ⟨c0, c1⟩
      | with_reducible exact ⟨hd0, hd1⟩
      | with_reducible exact ⟨(Later.cell _ _ _ _ hld').trans hd0, (Later.cell _ _ _ _ hld').trans hd1⟩
      | with_reducible exact keepT ⟨(Later.cell _ _ _ _ hld').trans hd0, (Later.cell _ _ _ _ hld').trans hd1⟩ (Later.lt _ _ hld') (Or.inr hk) _
      | exact keepS (keepT ⟨(Later.cell _ _ _ _ hld').trans hd0, (Later.cell _ _ _ _ hld').trans hd1⟩ (Later.lt _ _ hld') (Or.inr hk) _)) (first
      | (go_at_call 53; (with_reducible refine (hst _).mono ?_); rintro _ _ ⟨rfl, y, rfl⟩; have hPy := hPw.drew.later y)
      | (go_at_call 16; (with_reducible refine (hld _ (hMw.drew.later y)).mono ?_); rintro _ _ ⟨rfl, z, rfl, hM2⟩; have hPz := hPy.touch z.turn (Or.inr hk); have c6z : z.at'.cell? ⟨k, 6, none⟩ = some (.int .i64 X.pending) := hPz.at' 6 rfl; have f6z := hPz.fz 6))
    all_goals
      have hM1 := hM2.setOther ⟨k, 6, none⟩ (.int .i64 x) (Or.inr hk)
      have hP1 := hPz.set 6 (by simp [alL]) (.int .i64 x)
      have hV1 : Moved (spanS A k) w (z.at'.setCell ⟨k, 6, none⟩ (.int .i64 x)) := ((((hVw).drew).later y).touch z.turn spanS_in).setCell _ _ spanS_self
      rename_i hHeld
      clear hHeld c6z f6z
      generalize z.at'.setCell ⟨k, 6, none⟩ (.int .i64 x) = W at hM1 hP1 hV1 ⊢
      have b5 : W.cell? ⟨k, 5, none⟩ = some (.int .i64 X.step) := hP1.at' 5 rfl
      have f5 := hP1.fz 5
      clear hns hms hld hst c0 c1 hd0 hd1 hld' hM hPy hPz hM2 hP
      go_wp2_with fail
      first | go_end0 | refine bodyPost_ret (results_none rfl _ _ _) rfl ?_
      rw [E.out]
      exact ⟨rfl, hV1.setCell _ _ spanS_self, ⟨_, hM1.setOther _ _ (Or.inr hk)⟩, hP1.set 5 (by simp [alL]) _⟩
end
end Go.Proofs.YtfomephgallpmaaDoor

namespace Go.Proofs.YtfomephgallpmaaDoor
open Go.RowKit
attribute [local go_sem] Later.cell Later.frozen Later.lt Later.le Turned.cell_lo Turned.cell_hi Turned.frozen_lo Turned.frozen_hi Turned.lt Turned.le
set_option linter.unusedVariables false
set_option linter.unusedSimpArgs false

section
variable {A : PAt} {ws bs : List Int} {n : Int} {w : World} {k : Nat} {t s : Int} {X : Am}
/-- What the step comes to. -/
def al12o (ws : List Int) (X : Am) : Am := if casB ws 2 X.pending then { X with step := 0 } else { X with step := 11 }
theorem al12K (h : Fs w k (alL t s X)) : w.cell? ⟨k, 0, none⟩ = some (.int .i64 t) ∧ w.cell? ⟨k, 1, none⟩ = some (.int .i64 s) ∧ w.cell? ⟨k, 6, none⟩ = some (.int .i64 X.pending) ∧ Fs w k (alL t s X) := ⟨h.at' 0 rfl, h.at' 1 rfl, h.at' 6 rfl, h⟩
theorem al12L {a b c : Prop} {L : List Value} (h : a ∧ b ∧ c ∧ Fs w k L) : Fs w k L := h.2.2.2
set_option maxHeartbeats 4000000 in
theorem al12_any (hS : Seat w A k t s) (hM : Mem w A ws bs n) (hP : Fs w k (alL t s X)) :
    Calls Tryd.prog 46 #[.pointer (some ⟨k, 0, none⟩), ifc A] w (SRet A k w (.tuple #[]) (alL t s (al12o ws X)) (casW ws 2 X.pending (wrap64 (X.pending - 1))) bs) := by
  rw [show wrap64 (X.pending - 1) = IntKind.i64.wrap (X.pending - 1) from by unfold wrap64; exact (IntKind.wrap_i64 _).symm]
  have hst := fun W => LPending_ok (t := t) (s := s) hS.t0 W
  have hcs := fun (W : World) (h : Mem W A ws bs n) => Cas_any 2 X.pending (IntKind.i64.wrap (X.pending - 1)) h
  have hk := hS.hk
  have hns := nil_Cas
  have hms := met_Cas
  have hPd := hP.drew
  have E := Lib.hid (show al12o ws X = if casB ws 2 X.pending then { X with step := 0 } else { X with step := 11 } from rfl)
  generalize casW ws 2 X.pending (IntKind.i64.wrap (X.pending - 1)) = ws' at hcs ⊢
  generalize casB ws 2 X.pending = b at hcs E
  unfold ifc
  go_enter Tryd.func46, Tryd.ntmps46
  go_wp2_with fail
  go_region_held3 (fun w' => w'.cell? ⟨k, 0, none⟩ = some (.int .i64 t) ∧ w'.cell? ⟨k, 1, none⟩ = some (.int .i64 s) ∧ w'.cell? ⟨k, 6, none⟩ = some (.int .i64 X.pending) ∧ Fs w' k (alL t s X)) (first
    | exact al12K hP
    | exact al12K hPd
    | assumption
    | exact al12K ((al12L ‹_ ∧ _›).later _)
    | exact al12K ((al12L ‹_ ∧ _›).touch (Turned.turn _) (Or.inr hk))) (first
    | (go_at_call 53; refine (hst _).mono ?_; rintro _ _ ⟨rfl, y, rfl⟩; have hPy := hPd.later y)
    | (go_at_call 116; refine (hcs _ (hM.drew.later y)).mono ?_; rintro _ _ ⟨rfl, z, rfl, hM1⟩; have hPz := hPy.touch z.turn (Or.inr hk)))
  all_goals
    have hV1 : Moved (spanS A k) w z.at' := (((Moved.refl _ _).drew).later y).touch z.turn spanS_in
    rename_i hHeld
    clear hHeld
    generalize z.at' = W at hM1 hPz hV1 ⊢
    generalize up n = m at hM1
    have b5 : W.cell? ⟨k, 5, none⟩ = some (.int .i64 X.step) := hPz.at' 5 rfl
    have f5 := hPz.fz 5
    clear hns hms hcs hst hM hPd hPy z y
    cases b
    · go_wp2_with fail
      first | go_end0 | refine bodyPost_ret (results_none rfl _ _ _) rfl ?_
      rw [E.out]
      exact ⟨rfl, hV1.setCell _ _ spanS_self, ⟨m, hM1.setOther _ _ (Or.inr hk)⟩, hPz.set 5 (by simp [alL]) _⟩
    · go_wp2_with fail
      first | go_end0 | refine bodyPost_ret (results_none rfl _ _ _) rfl ?_
      rw [E.out]
      exact ⟨rfl, hV1.setCell _ _ spanS_self, ⟨m, hM1.setOther _ _ (Or.inr hk)⟩, hPz.set 5 (by simp [alL]) _⟩
/-- What the step comes to. -/
def al6o (ws : List Int) (X : Am) : Am := if casB ws 0 X.frontier then { X with step := 7 } else { X with step := 4 }
theorem al6K (h : Fs w k (alL t s X)) : w.cell? ⟨k, 0, none⟩ = some (.int .i64 t) ∧ w.cell? ⟨k, 1, none⟩ = some (.int .i64 s) ∧ w.cell? ⟨k, 21, none⟩ = some (.int .i64 X.frontier) ∧ w.cell? ⟨k, 4, none⟩ = some (.int .i64 X.size) ∧ Fs w k (alL t s X) := ⟨h.at' 0 rfl, h.at' 1 rfl, h.at' 21 rfl, h.at' 4 rfl, h⟩
theorem al6L {a b c d : Prop} {L : List Value} (h : a ∧ b ∧ c ∧ d ∧ Fs w k L) : Fs w k L := h.2.2.2.2
set_option maxHeartbeats 4000000 in
theorem al6_any (hS : Seat w A k t s) (hM : Mem w A ws bs n) (hP : Fs w k (alL t s X)) :
    Calls Tryd.prog 40 #[.pointer (some ⟨k, 0, none⟩), ifc A] w (SRet A k w (.tuple #[]) (alL t s (al6o ws X)) (casW ws 0 X.frontier (wrap64 (X.frontier + X.size))) bs) := by
  rw [show wrap64 (X.frontier + X.size) = IntKind.i64.wrap (X.frontier + X.size) from by unfold wrap64; exact (IntKind.wrap_i64 _).symm]
  have hst := fun W => LFrontier_ok (t := t) (s := s) hS.t0 W
  have hcs := fun (W : World) (h : Mem W A ws bs n) => Cas_any 0 X.frontier (IntKind.i64.wrap (X.frontier + X.size)) h
  have hk := hS.hk
  have hns := nil_Cas
  have hms := met_Cas
  have hPd := hP.drew
  have E := Lib.hid (show al6o ws X = if casB ws 0 X.frontier then { X with step := 7 } else { X with step := 4 } from rfl)
  generalize casW ws 0 X.frontier (IntKind.i64.wrap (X.frontier + X.size)) = ws' at hcs ⊢
  generalize casB ws 0 X.frontier = b at hcs E
  unfold ifc
  go_enter Tryd.func40, Tryd.ntmps40
  go_wp2_with fail
  go_region_held3 (fun w' => w'.cell? ⟨k, 0, none⟩ = some (.int .i64 t) ∧ w'.cell? ⟨k, 1, none⟩ = some (.int .i64 s) ∧ w'.cell? ⟨k, 21, none⟩ = some (.int .i64 X.frontier) ∧ w'.cell? ⟨k, 4, none⟩ = some (.int .i64 X.size) ∧ Fs w' k (alL t s X)) (first
    | exact al6K hP
    | exact al6K hPd
    | assumption
    | exact al6K ((al6L ‹_ ∧ _›).later _)
    | exact al6K ((al6L ‹_ ∧ _›).touch (Turned.turn _) (Or.inr hk))) (first
    | (go_at_call 57; refine (hst _).mono ?_; rintro _ _ ⟨rfl, y, rfl⟩; have hPy := hPd.later y)
    | (go_at_call 116; refine (hcs _ (hM.drew.later y)).mono ?_; rintro _ _ ⟨rfl, z, rfl, hM1⟩; have hPz := hPy.touch z.turn (Or.inr hk)))
  all_goals
    have hV1 : Moved (spanS A k) w z.at' := (((Moved.refl _ _).drew).later y).touch z.turn spanS_in
    rename_i hHeld
    clear hHeld
    generalize z.at' = W at hM1 hPz hV1 ⊢
    generalize up n = m at hM1
    have b5 : W.cell? ⟨k, 5, none⟩ = some (.int .i64 X.step) := hPz.at' 5 rfl
    have f5 := hPz.fz 5
    clear hns hms hcs hst hM hPd hPy z y
    cases b
    · go_wp2_with fail
      first | go_end0 | refine bodyPost_ret (results_none rfl _ _ _) rfl ?_
      rw [E.out]
      exact ⟨rfl, hV1.setCell _ _ spanS_self, ⟨m, hM1.setOther _ _ (Or.inr hk)⟩, hPz.set 5 (by simp [alL]) _⟩
    · go_wp2_with fail
      first | go_end0 | refine bodyPost_ret (results_none rfl _ _ _) rfl ?_
      rw [E.out]
      exact ⟨rfl, hV1.setCell _ _ spanS_self, ⟨m, hM1.setOther _ _ (Or.inr hk)⟩, hPz.set 5 (by simp [alL]) _⟩
end
end Go.Proofs.YtfomephgallpmaaDoor

namespace Go.Proofs.YtfomephgallpmaaDoor
open Go.RowKit
attribute [local go_sem] Later.cell Later.frozen Later.lt Later.le Turned.cell_lo Turned.cell_hi Turned.frozen_lo Turned.frozen_hi Turned.lt Turned.le
set_option linter.unusedVariables false
set_option linter.unusedSimpArgs false

section
variable {A : PAt} {ws bs : List Int} {n : Int} {w : World} {k : Nat} {t s : Int} {X : Am}
/-- What the step comes to. -/
def al7 (X : Am) : Am := if wrap64 (X.cleared + 1) = X.size then { X with cleared := wrap64 (X.cleared + 1), step := 8 } else { X with cleared := wrap64 (X.cleared + 1) }
theorem al7K (h : Fs w k (alL t s X)) : w.cell? ⟨k, 21, none⟩ = some (.int .i64 X.frontier) ∧ w.cell? ⟨k, 22, none⟩ = some (.int .i64 X.cleared) ∧ Fs w k (alL t s X) := ⟨h.at' 21 rfl, h.at' 22 rfl, h⟩
theorem al7L {a b : Prop} {L : List Value} (h : a ∧ b ∧ Fs w k L) : Fs w k L := h.2.2
set_option maxHeartbeats 4000000 in
theorem al7_any (hS : Seat w A k t s) (hM : Mem w A ws bs n) (hP : Fs w k (alL t s X)) :
    Calls Tryd.prog 41 #[.pointer (some ⟨k, 0, none⟩), ifc A] w (SRet A k w (.tuple #[]) (alL t s (al7 X)) ws (setI bs (wrap64 (X.frontier + X.cleared)) 0)) := by
  rw [show wrap64 (X.frontier + X.cleared) = IntKind.i64.wrap (X.frontier + X.cleared) from by unfold wrap64; exact (IntKind.wrap_i64 _).symm]
  have hcs := fun (W : World) (h : Mem W A ws bs n) => SetByte_any (IntKind.i64.wrap (X.frontier + X.cleared)) 0 h
  rw [show (0 : Int) % 256 = 0 from rfl] at hcs
  have hk := hS.hk
  have hns := nil_SetByte
  have hms := met_SetByte
  have c21 : w.cell? ⟨k, 21, none⟩ = some (.int .i64 X.frontier) := hP.at' 21 rfl
  have c22 : w.cell? ⟨k, 22, none⟩ = some (.int .i64 X.cleared) := hP.at' 22 rfl
  have E := Lib.hid (show al7 X = if wrap64 (X.cleared + 1) = X.size then { X with cleared := wrap64 (X.cleared + 1), step := 8 } else { X with cleared := wrap64 (X.cleared + 1) } from rfl)
  generalize setI bs (IntKind.i64.wrap (X.frontier + X.cleared)) 0 = bs' at hcs ⊢
  unfold ifc
  go_enter Tryd.func41, Tryd.ntmps41
  go_wp2_with fail
  have hPd := hP.drew
  go_region_held3 (fun w' => w'.cell? ⟨k, 21, none⟩ = some (.int .i64 X.frontier) ∧ w'.cell? ⟨k, 22, none⟩ = some (.int .i64 X.cleared) ∧ Fs w' k (alL t s X)) (first
    | exact al7K hP
    | exact al7K hPd
    | assumption
    | exact al7K ((al7L ‹_ ∧ _›).later _)
    | exact al7K ((al7L ‹_ ∧ _›).touch (Turned.turn _) (Or.inr hk))) (first
    | (go_at_call 10; refine (hcs _ hM.drew).mono ?_; rintro _ _ ⟨rfl, z, rfl, hM1⟩; have hPz := hPd.touch z.turn (Or.inr hk)))
  all_goals
    have hV1 : Moved (spanS A k) w z.at' := ((Moved.refl _ _).drew).touch z.turn spanS_in
    rename_i hHeld
    clear hHeld
    generalize z.at' = W at hM1 hPz hV1 ⊢
    generalize up n = m at hM1
    have b22 : W.cell? ⟨k, 22, none⟩ = some (.int .i64 X.cleared) := hPz.at' 22 rfl
    have f22 := hPz.fz 22
    have hPw := hPz.set 22 (by simp [alL]) (.int .i64 (wrap64 (X.cleared + 1)))
    have hMw := hM1.setOther ⟨k, 22, none⟩ (.int .i64 (wrap64 (X.cleared + 1))) (Or.inr hk)
    have hVw : Moved (spanS A k) w (W.setCell ⟨k, 22, none⟩ (.int .i64 (wrap64 (X.cleared + 1)))) := hV1.setCell _ _ spanS_self
    clear hns hms hcs hM hPd hP hPz z c21 c22
    go_wp2_with fail
    clear b22 f22 hM1 hV1
    generalize W.setCell ⟨k, 22, none⟩ (.int .i64 (wrap64 (X.cleared + 1))) = V at hPw hMw hVw ⊢
    have d4 : V.cell? ⟨k, 4, none⟩ = some (.int .i64 X.size) := hPw.at' 4 rfl
    have d22 : V.cell? ⟨k, 22, none⟩ = some (.int .i64 (wrap64 (X.cleared + 1))) := hPw.at' 22 rfl
    have hlv : k < V.heap.size := hPw.lt
    refine wp_region_later (by kernel_rfl) (by kernel_rfl) ?_
    repeat (go_big_quiet_step (fail))
    refine wpQuiet_nil ?_
    rintro _ ⟨x0, rfl⟩
    have hPq := hPw.later x0
    have hMq := hMw.later x0
    have hVq := hVw.later x0
    clear d4 d22 hPw hMw hVw
    generalize x0.at' = Q at hPq hMq hVq ⊢
    have d5 : Q.cell? ⟨k, 5, none⟩ = some (.int .i64 X.step) := hPq.at' 5 rfl
    have g5 := hPq.fz 5
    generalize wrap64 (X.cleared + 1) = c at *
    by_cases hq : c = X.size
    · rw [if_pos hq] at E
      have hqd : decide (c = X.size) = true := decide_eq_true hq
      go_wp2_with fail
      first | go_end0 | refine bodyPost_ret (results_none rfl _ _ _) rfl ?_
      rw [E.out]
      exact ⟨rfl, hVq.setCell _ _ spanS_self, ⟨_, hMq.setOther _ _ (Or.inr hk)⟩, hPq.set 5 (by simp [alL]) _⟩
    · rw [if_neg hq] at E
      have hqd : decide (c = X.size) = false := decide_eq_false hq
      go_wp2_with fail
      first | go_end0 | refine bodyPost_ret (results_none rfl _ _ _) rfl ?_
      rw [E.out]
      exact ⟨rfl, hVq, ⟨_, hMq⟩, hPq⟩
theorem al8K (h : Fs w k (alL t s X)) : w.cell? ⟨k, 0, none⟩ = some (.int .i64 t) ∧ w.cell? ⟨k, 1, none⟩ = some (.int .i64 s) ∧ w.cell? ⟨k, 20, none⟩ = some (.int .i64 X.slot) ∧ w.cell? ⟨k, 3, none⟩ = some (.int .i64 X.n) ∧ Fs w k (alL t s X) := ⟨h.at' 0 rfl, h.at' 1 rfl, h.at' 20 rfl, h.at' 3 rfl, h⟩
theorem al8L {a b c d : Prop} {L : List Value} (h : a ∧ b ∧ c ∧ d ∧ Fs w k L) : Fs w k L := h.2.2.2.2
set_option maxHeartbeats 4000000 in
theorem al8_any (hS : Seat w A k t s) (hM : Mem w A ws bs n) (hP : Fs w k (alL t s X)) :
    Calls Tryd.prog 42 #[.pointer (some ⟨k, 0, none⟩), ifc A] w (SRet A k w (.tuple #[]) (alL t s { X with step := 9 }) (setI ws (partN t s X.slot 1) X.n) bs) := by
  have hst := fun W => LSize_any (t := t) (s := s) (by have := hS.t0; omega) hS.t4 (by have := hS.s0; omega) hS.s64 X.slot W
  have hcs := fun (W : World) (h : Mem W A ws bs n) => Store_any (partN t s X.slot 1) X.n h
  have hk := hS.hk
  have hns := nil_Store
  have hms := met_Store
  have hPd := hP.drew
  generalize setI ws (partN t s X.slot 1) X.n = ws' at hcs ⊢
  generalize partN t s X.slot 1 = p at hst hcs
  unfold ifc
  go_enter Tryd.func42, Tryd.ntmps42
  go_wp2_with fail
  go_region_held3 (fun w' => w'.cell? ⟨k, 0, none⟩ = some (.int .i64 t) ∧ w'.cell? ⟨k, 1, none⟩ = some (.int .i64 s) ∧ w'.cell? ⟨k, 20, none⟩ = some (.int .i64 X.slot) ∧ w'.cell? ⟨k, 3, none⟩ = some (.int .i64 X.n) ∧ Fs w' k (alL t s X)) (first
    | exact al8K hP
    | exact al8K hPd
    | assumption
    | exact al8K ((al8L ‹_ ∧ _›).later _)
    | exact al8K ((al8L ‹_ ∧ _›).touch (Turned.turn _) (Or.inr hk))) (first
    | (go_at_call 60; refine (hst _).mono ?_; rintro _ _ ⟨rfl, y, rfl⟩; have hPy := hPd.later y)
    | (go_at_call 117; refine (hcs _ (hM.drew.later y)).mono ?_; rintro _ _ ⟨rfl, z, rfl, hM1⟩; have hPz := hPy.touch z.turn (Or.inr hk)))
  all_goals
    have hV1 : Moved (spanS A k) w z.at' := (((Moved.refl _ _).drew).later y).touch z.turn spanS_in
    rename_i hHeld
    clear hHeld
    generalize z.at' = W at hM1 hPz hV1 ⊢
    generalize up n = m at hM1
    have b5 : W.cell? ⟨k, 5, none⟩ = some (.int .i64 X.step) := hPz.at' 5 rfl
    have f5 := hPz.fz 5
    clear hns hms hcs hst hM hPd hPy z y
    go_wp2_with fail
    first | go_end0 | refine bodyPost_ret (results_none rfl _ _ _) rfl ?_
    exact ⟨rfl, hV1.setCell _ _ spanS_self, ⟨m, hM1.setOther _ _ (Or.inr hk)⟩, hPz.set 5 (by simp [alL]) _⟩
end
end Go.Proofs.YtfomephgallpmaaDoor

namespace Go.Proofs.YtfomephgallpmaaDoor
open Go.RowKit
attribute [local go_sem] Later.cell Later.frozen Later.lt Later.le Turned.cell_lo Turned.cell_hi Turned.frozen_lo Turned.frozen_hi Turned.lt Turned.le
set_option linter.unusedVariables false
set_option linter.unusedSimpArgs false

section
variable {A : PAt} {ws bs : List Int} {n : Int} {w : World} {k : Nat} {t s : Int} {X : Am}
/-- What the step comes to. -/
def al10 (t s : Int) (X : Am) (ws : List Int) : List Int := if X.kept = 0 then setI ws (partN t s X.slot 0) (packV ⟨X.frontier, X.gen, 0, 0, false, true⟩) else ws
theorem al10K (h : Fs w k (alL t s X)) : w.cell? ⟨k, 0, none⟩ = some (.int .i64 t) ∧ w.cell? ⟨k, 1, none⟩ = some (.int .i64 s) ∧ w.cell? ⟨k, 20, none⟩ = some (.int .i64 X.slot) ∧ Fs w k (alL t s X) := ⟨h.at' 0 rfl, h.at' 1 rfl, h.at' 20 rfl, h⟩
theorem al10L {a b c : Prop} {L : List Value} (h : a ∧ b ∧ c ∧ Fs w k L) : Fs w k L := h.2.2.2
set_option maxHeartbeats 4000000 in
theorem al10_any (hS : ESeat w A k t s) (hM : Mem w A ws bs n) (hP : Fs w k (alL t s X)) :
    Calls Tryd.prog 44 #[.pointer (some ⟨k, 0, none⟩), ifc A] w (SRet A k w (.tuple #[]) (alL t s { X with step := 11 }) (al10 t s X ws) bs) := by
  have hk := hS.hk
  have hE := hS.hE
  have c24 : w.cell? ⟨k, 24, none⟩ = some (.int .i64 X.kept) := hP.at' 24 rfl
  have hlt := hP.lt
  by_cases h0 : X.kept = 0
  · have hst := fun W => LEntry_any (t := t) (s := s) (by have := hS.t0; omega) hS.t4 (by have := hS.s0; omega) hS.s64 X.slot W
    have hpk := fun W h => Pack_any X.frontier X.gen 0 0 false true W h
    have hcs := fun (v : Int) (W : World) (h : Mem W A ws bs n) => Store_any (partN t s X.slot 0) v h
    have c21 : w.cell? ⟨k, 21, none⟩ = some (.int .i64 X.frontier) := hP.at' 21 rfl
    have c23 : w.cell? ⟨k, 23, none⟩ = some (.int .i64 X.gen) := hP.at' 23 rfl
    have E := Lib.hid (show al10 t s X ws = setI ws (partN t s X.slot 0) (packV ⟨X.frontier, X.gen, 0, 0, false, true⟩) from if_pos h0)
    rw [E.out]
    clear E
    generalize packV ⟨X.frontier, X.gen, 0, 0, false, true⟩ = pv at hpk ⊢
    generalize packE ⟨X.frontier, X.gen, 0, 0, false, true⟩ = pe at hpk
    have hcs' := hcs pv
    clear hcs
    generalize setI ws (partN t s X.slot 0) pv = ws' at hcs' ⊢
    generalize partN t s X.slot 0 = p at hst hcs'
    have hns := nil_Store
    have hms := met_Store
    have hd0 : decide (X.kept = 0) = true := decide_eq_true h0
    unfold ifc
    clear hS
    rw [h0] at c24
    go_enter Tryd.func44, Tryd.ntmps44
    go_wp2_with fail
    refine wp_region_later (by kernel_rfl) (by kernel_rfl) ?_
    repeat (go_big_quiet_step (first | (go_at_call 63; first | exact later_of _ (hpk _ hE) | exact later_of _ (hpk _ (Later.fields _ hE)) | (trace_state; fail))))
    refine wpQuiet_nil ?_
    rintro _ ⟨x0, rfl⟩
    have hP0 := hP.later x0
    have hM0 := hM.later x0
    have hV0 : Moved (spanS A k) w x0.at' := (Moved.refl _ _).later x0
    clear c21 c23 c24 hlt hP hM hpk
    generalize x0.at' = W0 at hP0 hM0 hV0 ⊢
    have hPd := hP0.drew
    go_wp2_with fail
    go_region_held3 (fun w' => w'.cell? ⟨k, 0, none⟩ = some (.int .i64 t) ∧ w'.cell? ⟨k, 1, none⟩ = some (.int .i64 s) ∧ w'.cell? ⟨k, 20, none⟩ = some (.int .i64 X.slot) ∧ Fs w' k (alL t s X)) (first
      | exact al10K hP0
      | exact al10K hPd
      | assumption
      | exact al10K ((al10L ‹_ ∧ _›).later _)
      | exact al10K ((al10L ‹_ ∧ _›).touch (Turned.turn _) (Or.inr hk))) (first
      | (go_at_call 62; refine (hst _).mono ?_; rintro _ _ ⟨rfl, y, rfl⟩; have hPy := hPd.later y)
      | (go_at_call 117; refine (hcs' _ (hM0.drew.later y)).mono ?_; rintro _ _ ⟨rfl, z, rfl, hM1⟩; have hPz := hPy.touch z.turn (Or.inr hk)))
    all_goals
      have hV1 : Moved (spanS A k) w z.at' := ((hV0.drew).later y).touch z.turn spanS_in
      rename_i hHeld
      clear hHeld
      generalize z.at' = W at hM1 hPz hV1 ⊢
      generalize up n = m at hM1
      have b5 : W.cell? ⟨k, 5, none⟩ = some (.int .i64 X.step) := hPz.at' 5 rfl
      have f5 := hPz.fz 5
      clear hns hms hcs' hst hPd hPy z y
      go_wp2_with fail
      first | go_end0 | refine bodyPost_ret (results_none rfl _ _ _) rfl ?_
      exact ⟨rfl, hV1.setCell _ _ spanS_self, ⟨m, hM1.setOther _ _ (Or.inr hk)⟩, hPz.set 5 (by simp [alL]) _⟩
  · have E := Lib.hid (show al10 t s X ws = ws from if_neg h0)
    rw [E.out]
    clear E
    have hd0 : decide (X.kept = 0) = false := decide_eq_false h0
    have c5 : w.cell? ⟨k, 5, none⟩ = some (.int .i64 X.step) := hP.at' 5 rfl
    have f5 := hP.fz 5
    unfold ifc
    clear hS
    go_enter Tryd.func44, Tryd.ntmps44
    go_wp2_with fail
    first | go_end0 | refine bodyPost_ret (results_none rfl _ _ _) rfl ?_
    exact ⟨rfl, (Moved.refl _ _).setCell _ _ spanS_self, ⟨_, hM.setOther _ _ (Or.inr hk)⟩, hP.set 5 (by simp [alL]) _⟩
end
end Go.Proofs.YtfomephgallpmaaDoor

namespace Go.Proofs.YtfomephgallpmaaDoor
open Go.RowKit
attribute [local go_sem] Later.cell Later.frozen Later.lt Later.le Turned.cell_lo Turned.cell_hi Turned.frozen_lo Turned.frozen_hi Turned.lt Turned.le
set_option linter.unusedVariables false
set_option linter.unusedSimpArgs false

section
variable {A : PAt} {ws bs : List Int} {n : Int} {w : World} {k : Nat} {t s : Int} {X : Am}
/-- What the step comes to. -/
def al2o (t s : Int) (ws : List Int) (X : Am) : Am := if casB ws 2 X.pending then { X with pt := t, ps := s, pop := ⟨0, 0, 0, 0, 0⟩, step := 3 } else { X with step := 1 }
theorem al2K (h : Fs w k (alL t s X)) : w.cell? ⟨k, 0, none⟩ = some (.int .i64 t) ∧ w.cell? ⟨k, 1, none⟩ = some (.int .i64 s) ∧ w.cell? ⟨k, 6, none⟩ = some (.int .i64 X.pending) ∧ Fs w k (alL t s X) := ⟨h.at' 0 rfl, h.at' 1 rfl, h.at' 6 rfl, h⟩
theorem al2L {a b c : Prop} {L : List Value} (h : a ∧ b ∧ c ∧ Fs w k L) : Fs w k L := h.2.2.2
set_option maxHeartbeats 4000000 in
theorem al2_any (hS : Seat w A k t s) (hM : Mem w A ws bs n) (hP : Fs w k (alL t s X)) :
    Calls Tryd.prog 36 #[.pointer (some ⟨k, 0, none⟩), ifc A] w (SRet A k w (.tuple #[]) (alL t s (al2o t s ws X)) (casW ws 2 X.pending (wrap64 (X.pending + 1))) bs) := by
  rw [show wrap64 (X.pending + 1) = IntKind.i64.wrap (X.pending + 1) from by unfold wrap64; exact (IntKind.wrap_i64 _).symm]
  have hst := fun W => LPending_ok (t := t) (s := s) hS.t0 W
  have hcs := fun (W : World) (h : Mem W A ws bs n) => Cas_any 2 X.pending (IntKind.i64.wrap (X.pending + 1)) h
  have hk := hS.hk
  have hns := nil_Cas
  have hms := met_Cas
  have hPd := hP.drew
  have E := Lib.hid (show al2o t s ws X = if casB ws 2 X.pending then { X with pt := t, ps := s, pop := ⟨0, 0, 0, 0, 0⟩, step := 3 } else { X with step := 1 } from rfl)
  generalize casW ws 2 X.pending (IntKind.i64.wrap (X.pending + 1)) = ws' at hcs ⊢
  generalize casB ws 2 X.pending = b at hcs E
  unfold ifc
  go_enter Tryd.func36, Tryd.ntmps36
  go_wp2_with fail
  go_region_held3 (fun w' => w'.cell? ⟨k, 0, none⟩ = some (.int .i64 t) ∧ w'.cell? ⟨k, 1, none⟩ = some (.int .i64 s) ∧ w'.cell? ⟨k, 6, none⟩ = some (.int .i64 X.pending) ∧ Fs w' k (alL t s X)) (first
    | exact al2K hP
    | exact al2K hPd
    | assumption
    | exact al2K ((al2L ‹_ ∧ _›).later _)
    | exact al2K ((al2L ‹_ ∧ _›).touch (Turned.turn _) (Or.inr hk))) (first
    | (go_at_call 53; refine (hst _).mono ?_; rintro _ _ ⟨rfl, y, rfl⟩; have hPy := hPd.later y)
    | (go_at_call 116; refine (hcs _ (hM.drew.later y)).mono ?_; rintro _ _ ⟨rfl, z, rfl, hM1⟩; have hPz := hPy.touch z.turn (Or.inr hk)))
  all_goals
    have hV1 : Moved (spanS A k) w z.at' := (((Moved.refl _ _).drew).later y).touch z.turn spanS_in
    rename_i hHeld
    clear hHeld
    generalize z.at' = W at hM1 hPz hV1 ⊢
    generalize up n = m at hM1
    have b5 : W.cell? ⟨k, 5, none⟩ = some (.int .i64 X.step) := hPz.at' 5 rfl
    have f5 := hPz.fz 5
    clear hns hms hcs hst hM hPd hPy z y
    cases b
    · go_wp2_with fail
      first | go_end0 | refine bodyPost_ret (results_none rfl _ _ _) rfl ?_
      rw [E.out]
      exact ⟨rfl, hV1.setCell _ _ spanS_self, ⟨m, hM1.setOther _ _ (Or.inr hk)⟩, hPz.set 5 (by simp [alL]) _⟩
    · have hnp := fun W => NewPop_any t s W
      have c0 : W.cell? ⟨k, 0, none⟩ = some (.int .i64 t) := hPz.at' 0 rfl
      have c1 : W.cell? ⟨k, 1, none⟩ = some (.int .i64 s) := hPz.at' 1 rfl
      have hlW := hPz.lt
      go_wp2_with (go_at_call 54; (with_reducible refine (hnp _).mono ?_); rintro _ W2 ⟨kp, rfl, hk2, hb2, hf2⟩; have hP2 := hPz.below hb2 hPz.lt; have hM2 := hM1.moved (S := fun _ => False) (Moved.of_below hb2) (fun _ _ _ h => h); have hV2 := hV1.trans (Moved.of_below hb2); have q0 := hf2.at' 0 rfl; have q1 := hf2.at' 1 rfl; have q2 := hf2.at' 2 rfl; have q3 := hf2.at' 3 rfl; have q4 := hf2.at' 4 rfl; have q5 := hf2.at' 5 rfl; have d7 := hP2.at' 7 rfl; have d8 := hP2.at' 8 rfl; have d9 := hP2.at' 9 rfl; have d10 := hP2.at' 10 rfl; have d11 := hP2.at' 11 rfl; have d12 := hP2.at' 12 rfl; have d5 := hP2.at' 5 rfl; have g7 := hP2.fz 7; have g8 := hP2.fz 8; have g9 := hP2.fz 9; have g10 := hP2.fz 10; have g11 := hP2.fz 11; have g12 := hP2.fz 12; have g5 := hP2.fz 5)
      first | go_end0 | refine bodyPost_ret (results_none rfl _ _ _) rfl ?_
      rw [E.out, if_pos (by trivial)]
      exact ⟨rfl, ((((((hV2.setCell _ _ spanS_self).setCell _ _ spanS_self).setCell _ _ spanS_self).setCell _ _ spanS_self).setCell _ _ spanS_self).setCell _ _ spanS_self).setCell _ _ spanS_self, ⟨m, ((((((hM2.setOther _ _ (Or.inr hk)).setOther _ _ (Or.inr hk)).setOther _ _ (Or.inr hk)).setOther _ _ (Or.inr hk)).setOther _ _ (Or.inr hk)).setOther _ _ (Or.inr hk)).setOther _ _ (Or.inr hk)⟩, ((((((hP2.set 7 (by simp [alL]) _).set 8 (by simp [alL]) _).set 9 (by simp [alL]) _).set 10 (by simp [alL]) _).set 11 (by simp [alL]) _).set 12 (by simp [alL]) _).set 5 (by simp [alL]) _⟩
end
end Go.Proofs.YtfomephgallpmaaDoor

