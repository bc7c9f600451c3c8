/-
  The Pop and the Push of a machine that makes an object (two texts in one).
  Conditions: none but that the machine and plain cells lie there, and the tables read as they are laid.
-/
import Derived.Test.YtfomephgallpmaaDoorAlMath
import Derived.Test.YtfomephgallpmaaDoorStPopC
import Derived.Test.YtfomephgallpmaaDoorStPushB
import Derived.Deep.RegionHeld3
namespace Go.Proofs.YtfomephgallpmaaDoor
open Go.RowKit
attribute [local go_sem] Later.cell Later.frozen Later.lt Later.le Turned.cell_lo Turned.cell_hi Turned.frozen_lo Turned.frozen_hi Turned.lt Turned.le
set_option linter.unusedVariables false
set_option linter.unusedSimpArgs false

section
variable {A : PAt} {ws bs : List Int} {n : Int} {w : World} {k : Nat} {t s : Int} {M : Mc} {X : Am}
theorem apopFail_any (er : Int) {L : List Value} (hP : Fs w k L) (v : Value) (hL : L[9]? = some v) : Calls Tryd.prog 83 #[.pointer (some ⟨k, 7, none⟩), .int .i64 er] w fun e w' => e = .returned (.tuple #[.int .i64 0, .int .i64 er, .bool true]) ∧ w.setCell ⟨k, 9, none⟩ (.int .i64 3) = w' := by
  have c2 := hP.at' 9 hL
  have f2 := hP.fz 9
  clear hP hL
  go_enter Tryd.func83, Tryd.ntmps83
  go_wp2
  go_ret3
  exact ⟨rfl, rfl⟩
theorem akeepT {u0 u1 : Value} (h : w.cell? ⟨k, 7, none⟩ = some u0 ∧ w.cell? ⟨k, 8, none⟩ = some u1) (hlt : k < w.heap.size) {lo hi : Nat} (hk : k < lo ∨ hi ≤ k) (z : Turned lo hi w) : z.at'.cell? ⟨k, 7, none⟩ = some u0 ∧ z.at'.cell? ⟨k, 8, none⟩ = some u1 :=
  ⟨(z.turn.cell _ _ _ hlt hk).trans h.1, (z.turn.cell _ _ _ hlt hk).trans h.2⟩
theorem akeepS {u0 u1 v : Value} {j : Nat} (h : w.cell? ⟨k, 7, none⟩ = some u0 ∧ w.cell? ⟨k, 8, none⟩ = some u1) : (w.setCell ⟨k, j + 9, none⟩ v).cell? ⟨k, 7, none⟩ = some u0 ∧ (w.setCell ⟨k, j + 9, none⟩ v).cell? ⟨k, 8, none⟩ = some u1 :=
  ⟨by rw [World.cell?_setCell_other _ _ _ _ (by simp)]; exact h.1, by rw [World.cell?_setCell_other _ _ _ _ (by simp)]; exact h.2⟩
set_option maxHeartbeats 4000000 in
theorem apopLoad_any (x : Int) (hxe : atI ws 1 = x) (hS : Seat w A k t s) (hM : Mem w A ws bs n) (hP : Fs w k (alP t s X M)) (hx : x ≤ 9223372036854775807) :
    Calls Tryd.prog 70 #[.pointer (some ⟨k, 7, none⟩), ifc A] w (SRet A k w (.tuple #[.int .i64 (pop1 x M ws).slot, .int .i64 (pop1 x M ws).err, .bool (pop1 x M ws).done]) (alP t s X (pop1 x M ws).m) (pop1 x M ws).ws bs) := by
  have hst := fun W => LStack_ok (t := t) (s := s) hS.t0 W
  have hld := fun (W : World) (h : Mem W A ws bs n) => Load_any 1 h
  rw [hxe] at hld
  clear hxe
  have c0 : w.cell? ⟨k, 7, none⟩ = some (.int .i64 t) := hP.at' 7 rfl
  have c1 : w.cell? ⟨k, 8, none⟩ = some (.int .i64 s) := hP.at' 8 rfl
  have hk := hS.hk
  have hlt := hP.lt
  have hns := nil_Load
  have hms := met_Load
  have hd0 : w.drew.cell? ⟨k, 7, none⟩ = some (.int .i64 t) := c0
  have hd1 : w.drew.cell? ⟨k, 8, none⟩ = some (.int .i64 s) := c1
  have hld' : k < w.drew.heap.size := hlt
  unfold ifc
  go_enter Tryd.func70, Tryd.ntmps70
  go_wp2_with fail
  go_region_held3 (fun w' => w'.cell? ⟨k, 7, none⟩ = some (.int .i64 t) ∧ w'.cell? ⟨k, 8, none⟩ = some (.int .i64 s)) (first
    | exact ⟨c0, c1⟩
    | exact ⟨(Later.cell _ _ _ _ hld').trans hd0, (Later.cell _ _ _ _ hld').trans hd1⟩
    | exact akeepT ⟨(Later.cell _ _ _ _ hld').trans hd0, (Later.cell _ _ _ _ hld').trans hd1⟩ (Later.lt _ _ hld') (Or.inr hk) _
    | exact akeepS (akeepT ⟨(Later.cell _ _ _ _ hld').trans hd0, (Later.cell _ _ _ _ hld').trans hd1⟩ (Later.lt _ _ hld') (Or.inr hk) _)) (first
    | (go_at_call 51; refine (hst _).mono ?_; rintro _ _ ⟨rfl, y, rfl⟩; have hPy := hP.drew.later y)
    | (go_at_call 16; refine (hld _ (hM.drew.later y)).mono ?_; rintro _ _ ⟨rfl, z, rfl, hM2⟩; have hPz := hPy.touch z.turn (Or.inr hk); have c3z : z.at'.cell? ⟨k, 10, none⟩ = some (.int .i64 M.word) := hPz.at' 10 rfl; have f3z := hPz.fz 10))
  all_goals
    have hM1 := hM2.setOther ⟨k, 10, none⟩ (.int .i64 x) (Or.inr hk)
    have hP1 := hPz.set 10 (by simp [alP, alL]) (.int .i64 x)
    have hV1 : Moved (spanS A k) w (z.at'.setCell ⟨k, 10, none⟩ (.int .i64 x)) := ((((Moved.refl _ _).drew).later y).touch z.turn spanS_in).setCell _ _ spanS_self
    rename_i hHeld
    clear hHeld c3z f3z
    generalize z.at'.setCell ⟨k, 10, none⟩ (.int .i64 x) = W at hM1 hP1 hV1 ⊢
    generalize up n = m at hM1
    have hF1 := (hS.moved hV1).hF
    have b2 : W.cell? ⟨k, 9, none⟩ = some (.int .i64 M.step) := hP1.at' 9 rfl
    have b3 : W.cell? ⟨k, 10, none⟩ = some (.int .i64 x) := hP1.at' 10 rfl
    have b5 : W.cell? ⟨k, 12, none⟩ = some (.int .i64 M.slot) := hP1.at' 12 rfl
    have f2 := hP1.fz 9
    have f5 := hP1.fz 12
    have hun := HdUnpack_any x hx W hF1
    clear hns hms hld hst c0 c1 hd0 hd1 hld' hM
    clear hPy hPz hM2 hP z y
    cases hb : heB x
    · have e : pop1 x M ws = ⟨0, 2, true, { M with word := x, step := 3 }, ws⟩ := by unfold pop1; rw [if_neg (by rw [hb]; decide)]
      have E := Lib.hid e
      rw [heT_bad hb, heG_bad hb, heE_bad hb] at hun
      clear e
      go_wp2_with (first
        | (go_at_call 82; (with_reducible refine hun.mono ?_); rintro _ _ ⟨rfl, x1, rfl⟩; have hP2 := hP1.later x1)
        | (go_at_call 83; (with_reducible refine (apopFail_any 2 hP2 _ rfl).mono ?_); rintro _ _ ⟨rfl, rfl⟩))
      go_ret3
      rw [E.out]
      exact ⟨rfl, (hV1.later x1).setCell _ _ spanS_self, ⟨m, (hM1.later x1).setOther _ _ (Or.inr hk)⟩, hP2.set 9 (by simp [alP, alL]) _⟩
    · by_cases h0 : x % 1048576 = 0
      · have e : pop1 x M ws = ⟨0, 11, true, { M with word := x, step := 3 }, ws⟩ := by unfold pop1; rw [if_pos hb, if_pos h0]
        have E := Lib.hid e
        rw [heT_ok hb, heG_ok hb, heE_ok hb, h0] at hun
        clear e
        go_wp2_with (first
          | (go_at_call 82; (with_reducible refine hun.mono ?_); rintro _ _ ⟨rfl, x1, rfl⟩; have hP2 := hP1.later x1)
          | (go_at_call 83; (with_reducible refine (apopFail_any 11 hP2 _ rfl).mono ?_); rintro _ _ ⟨rfl, rfl⟩))
        go_ret3
        rw [E.out]
        exact ⟨rfl, (hV1.later x1).setCell _ _ spanS_self, ⟨m, (hM1.later x1).setOther _ _ (Or.inr hk)⟩, hP2.set 9 (by simp [alP, alL]) _⟩
      · have e : pop1 x M ws = ⟨0, 0, false, { M with word := x, slot := x % 1048576 - 1, step := 1 }, ws⟩ := by unfold pop1; rw [if_pos hb, if_neg h0]
        have E := Lib.hid e
        rw [heT_ok hb, heG_ok hb, heE_ok hb] at hun
        have hq0 : 0 ≤ x % 1048576 := by omega
        have hq1 : x % 1048576 ≤ 1048575 := by omega
        generalize hq : x % 1048576 = q at hun h0 hq0 hq1
        have HQ := Lib.hid hq
        clear hq
        have hso := fun W => slotOf_any q (by omega) (by omega) W
        clear e
        go_wp2_with (first
          | (go_at_call 82; (with_reducible refine hun.mono ?_); rintro _ _ ⟨rfl, x1, rfl⟩; have hP2 := hP1.later x1; have d2 : x1.at'.cell? ⟨k, 9, none⟩ = some (.int .i64 M.step) := hP2.at' 9 rfl; have d5 : x1.at'.cell? ⟨k, 12, none⟩ = some (.int .i64 M.slot) := hP2.at' 12 rfl; have g2 := hP2.fz 9; have g5 := hP2.fz 12)
          | (go_at_call 84; (with_reducible refine (hso _).mono ?_); rintro _ _ ⟨rfl, rfl⟩))
        go_ret3
        rw [E.out, HQ.out]
        exact ⟨rfl, ((hV1.later x1).setCell _ _ spanS_self).setCell _ _ spanS_self, ⟨m, ((hM1.later x1).setOther _ _ (Or.inr hk)).setOther _ _ (Or.inr hk)⟩, (hP2.set 12 (by simp [alP, alL]) _).set 9 (by simp [alP, alL]) _⟩
theorem apopK3 (h : Fs w k (alP t s X M)) : w.cell? ⟨k, 7, none⟩ = some (.int .i64 t) ∧ w.cell? ⟨k, 8, none⟩ = some (.int .i64 s) ∧ w.cell? ⟨k, 12, none⟩ = some (.int .i64 M.slot) ∧ Fs w k (alP t s X M) := ⟨h.at' 7 rfl, h.at' 8 rfl, h.at' 12 rfl, h⟩
theorem apopK4 (h : Fs w k (alP t s X M)) : w.cell? ⟨k, 7, none⟩ = some (.int .i64 t) ∧ w.cell? ⟨k, 8, none⟩ = some (.int .i64 s) ∧ w.cell? ⟨k, 10, none⟩ = some (.int .i64 M.word) ∧ w.cell? ⟨k, 11, none⟩ = some (.int .i64 M.next) ∧ Fs w k (alP t s X M) := ⟨h.at' 7 rfl, h.at' 8 rfl, h.at' 10 rfl, h.at' 11 rfl, h⟩
theorem alast3 {a b c : Prop} {L : List Value} (h : a ∧ b ∧ c ∧ Fs w k L) : Fs w k L := h.2.2.2
theorem alast4 {a b c d : Prop} {L : List Value} (h : a ∧ b ∧ c ∧ d ∧ Fs w k L) : Fs w k L := h.2.2.2.2
set_option maxHeartbeats 4000000 in
theorem apopLink_any (l : Int) (hle : atI ws (partN t s M.slot 2) = l) (hS : Seat w A k t s) (hM : Mem w A ws bs n) (hP : Fs w k (alP t s X M)) (hx : M.word ≤ 9223372036854775807) :
    Calls Tryd.prog 71 #[.pointer (some ⟨k, 7, none⟩), ifc A] w (SRet A k w (.tuple #[.int .i64 (pop2 l M ws).slot, .int .i64 (pop2 l M ws).err, .bool (pop2 l M ws).done]) (alP t s X (pop2 l M ws).m) (pop2 l M ws).ws bs) := by
  have hlk := fun W => LLink_any (t := t) (s := s) (by have := hS.t0; omega) hS.t4 (by have := hS.s0; omega) hS.s64 M.slot W
  have hld := fun (W : World) (h : Mem W A ws bs n) => Load_any (partN t s M.slot 2) h
  rw [hle] at hld
  clear hle
  generalize partN t s M.slot 2 = pl at hlk hld
  have hk := hS.hk
  have hns := nil_Load
  have hms := met_Load
  have hPd := hP.drew
  have c3 : w.cell? ⟨k, 10, none⟩ = some (.int .i64 M.word) := hP.at' 10 rfl
  unfold ifc
  go_enter Tryd.func71, Tryd.ntmps71
  go_wp2_with fail
  go_region_held3 (fun w' => w'.cell? ⟨k, 7, none⟩ = some (.int .i64 t) ∧ w'.cell? ⟨k, 8, none⟩ = some (.int .i64 s) ∧ w'.cell? ⟨k, 12, none⟩ = some (.int .i64 M.slot) ∧ Fs w' k (alP t s X M)) (first
    | exact apopK3 hP
    | exact apopK3 hPd
    | assumption
    | exact apopK3 ((alast3 ‹_ ∧ _›).later _)
    | exact apopK3 ((alast3 ‹_ ∧ _›).touch (Turned.turn _) (Or.inr hk))) (first
    | (go_at_call 49; refine (hlk _).mono ?_; rintro _ _ ⟨rfl, y, rfl⟩; have hPy := hPd.later y)
    | (go_at_call 16; refine (hld _ (hM.drew.later y)).mono ?_; rintro _ _ ⟨rfl, z, rfl, hM1⟩; have hPz := hPy.touch z.turn (Or.inr hk)))
  all_goals
    have hV1 : Moved (spanS A k) w z.at' := (((Moved.refl _ _).drew).later y).touch z.turn spanS_in
    rename_i hHeld
    clear hHeld
    generalize z.at' = W at hM1 hPz hV1 ⊢
    generalize up n = m at hM1
    have hF1 := (hS.moved hV1).hF
    have b3 : W.cell? ⟨k, 10, none⟩ = some (.int .i64 M.word) := hPz.at' 10 rfl
    have hpo := HdPop_any M.word l hx W hF1
    clear hns hms hld hlk c3 hM hPd hPy z y
    by_cases h0 : popE M.word l = 0
    · have E := Lib.hid (show pop2 l M ws = ⟨0, 0, false, { M with next := popV M.word l, step := 2 }, ws⟩ from if_pos h0)
      rw [h0] at hpo
      go_wp2_with (first
        | (go_at_call 85; (with_reducible refine hpo.mono ?_); rintro _ _ ⟨rfl, x1, rfl⟩; have hP2 := hPz.later x1; have d2 : x1.at'.cell? ⟨k, 9, none⟩ = some (.int .i64 M.step) := hP2.at' 9 rfl; have d4 : x1.at'.cell? ⟨k, 11, none⟩ = some (.int .i64 M.next) := hP2.at' 11 rfl; have g2 := hP2.fz 9; have g4 := hP2.fz 11))
      go_ret3
      rw [E.out]
      exact ⟨rfl, ((hV1.later x1).setCell _ _ spanS_self).setCell _ _ spanS_self, ⟨m, ((hM1.later x1).setOther _ _ (Or.inr hk)).setOther _ _ (Or.inr hk)⟩, (hP2.set 11 (by simp [alP, alL]) _).set 9 (by simp [alP, alL]) _⟩
    · have E := Lib.hid (show pop2 l M ws = ⟨0, 2, true, { M with step := 3 }, ws⟩ from if_neg h0)
      have hdd : decide (popE M.word l = 0) = false := decide_eq_false h0
      generalize popE M.word l = pe at hpo h0 hdd
      go_wp2_with (first
        | (go_at_call 85; (with_reducible refine hpo.mono ?_); rintro _ _ ⟨rfl, x1, rfl⟩; have hP2 := hPz.later x1)
        | (go_at_call 83; (with_reducible refine (apopFail_any 2 hP2 _ rfl).mono ?_); rintro _ _ ⟨rfl, rfl⟩))
      go_ret3
      rw [E.out]
      exact ⟨rfl, (hV1.later x1).setCell _ _ spanS_self, ⟨m, (hM1.later x1).setOther _ _ (Or.inr hk)⟩, hP2.set 9 (by simp [alP, alL]) _⟩
set_option maxHeartbeats 4000000 in
theorem apopCas_any (hS : Seat w A k t s) (hM : Mem w A ws bs n) (hP : Fs w k (alP t s X M)) :
    Calls Tryd.prog 72 #[.pointer (some ⟨k, 7, none⟩), ifc A] w (SRet A k w (.tuple #[.int .i64 (pop3 M ws).slot, .int .i64 (pop3 M ws).err, .bool (pop3 M ws).done]) (alP t s X (pop3 M ws).m) (pop3 M ws).ws bs) := by
  have hst := fun W => LStack_ok (t := t) (s := s) hS.t0 W
  have hcs := fun (W : World) (h : Mem W A ws bs n) => Cas_any 1 M.word M.next h
  have hk := hS.hk
  have hns := nil_Cas
  have hms := met_Cas
  have hPd := hP.drew
  have E := Lib.hid (show pop3 M ws = if casB ws 1 M.word then ⟨M.slot, 0, true, { M with step := 3 }, casW ws 1 M.word M.next⟩ else ⟨0, 0, false, { M with step := 0 }, casW ws 1 M.word M.next⟩ from by
    unfold pop3
    by_cases h : casB ws 1 M.word = true
    · rw [if_pos h, if_pos h]
    · rw [if_neg h, if_neg h, casW_no (by simpa using h)])
  generalize casW ws 1 M.word M.next = ws' at hcs E
  generalize casB ws 1 M.word = b at hcs E
  unfold ifc
  go_enter Tryd.func72, Tryd.ntmps72
  go_wp2_with fail
  go_region_held3 (fun w' => w'.cell? ⟨k, 7, none⟩ = some (.int .i64 t) ∧ w'.cell? ⟨k, 8, none⟩ = some (.int .i64 s) ∧ w'.cell? ⟨k, 10, none⟩ = some (.int .i64 M.word) ∧ w'.cell? ⟨k, 11, none⟩ = some (.int .i64 M.next) ∧ Fs w' k (alP t s X M)) (first
    | exact apopK4 hP
    | exact apopK4 hPd
    | assumption
    | exact apopK4 ((alast4 ‹_ ∧ _›).later _)
    | exact apopK4 ((alast4 ‹_ ∧ _›).touch (Turned.turn _) (Or.inr hk))) (first
    | (go_at_call 51; refine (hst _).mono ?_; rintro _ _ ⟨rfl, y, rfl⟩; have hPy := hPd.later y)
    | (go_at_call 116; refine (hcs _ (hM.drew.later y)).mono ?_; rintro _ _ ⟨rfl, z, rfl, hM1⟩; have hPz := hPy.touch z.turn (Or.inr hk)))
  all_goals
    have hV1 : Moved (spanS A k) w z.at' := (((Moved.refl _ _).drew).later y).touch z.turn spanS_in
    rename_i hHeld
    clear hHeld
    generalize z.at' = W at hM1 hPz hV1 ⊢
    generalize up n = m at hM1
    have b2 : W.cell? ⟨k, 9, none⟩ = some (.int .i64 M.step) := hPz.at' 9 rfl
    have b5 : W.cell? ⟨k, 12, none⟩ = some (.int .i64 M.slot) := hPz.at' 12 rfl
    have f2 := hPz.fz 9
    clear hns hms hcs hst hM hPd hPy z y
    cases b
    · go_wp2_with fail
      go_ret3
      rw [E.out]
      exact ⟨rfl, hV1.setCell _ _ spanS_self, ⟨m, hM1.setOther _ _ (Or.inr hk)⟩, hPz.set 9 (by simp [alP, alL]) _⟩
    · go_wp2_with fail
      go_ret3
      rw [E.out]
      exact ⟨rfl, hV1.setCell _ _ spanS_self, ⟨m, hM1.setOther _ _ (Or.inr hk)⟩, hPz.set 9 (by simp [alP, alL]) _⟩
theorem apopStep_any (hS : Seat w A k t s) (hM : Mem w A ws bs n) (hP : Fs w k (alP t s X M)) (hx : atI ws 1 ≤ 9223372036854775807) (hw : M.word ≤ 9223372036854775807) :
    Calls Tryd.prog 55 #[.pointer (some ⟨k, 7, none⟩), ifc A] w (SRet A k w (.tuple #[.int .i64 (popO t s M ws).slot, .int .i64 (popO t s M ws).err, .bool (popO t s M ws).done]) (alP t s X (popO t s M ws).m) (popO t s M ws).ws bs) := by
  have c2 : w.cell? ⟨k, 9, none⟩ = some (.int .i64 M.step) := hP.at' 9 rfl
  by_cases h0 : M.step = 0
  · rw [popO_0 h0]
    have hc := apopLoad_any _ rfl hS hM hP hx
    rw [h0] at c2
    generalize pop1 (atI ws 1) M ws = o at hc ⊢
    clear hP hM hS h0
    unfold ifc at *
    go_enter Tryd.func55, Tryd.ntmps55
    go_wp2_with (go_at_call 70; (with_reducible refine hc.mono ?_); rintro _ w1 ⟨rfl, hV, hM1, hP1⟩)
    go_ret3
    exact ⟨rfl, hV, hM1, hP1⟩
  · by_cases h1 : M.step = 1
    · rw [popO_1 h1]
      have hc := apopLink_any _ rfl hS hM hP hw
      rw [h1] at c2
      generalize pop2 (atI ws (partN t s M.slot 2)) M ws = o at hc ⊢
      clear hP hM hS h0 h1
      unfold ifc at *
      go_enter Tryd.func55, Tryd.ntmps55
      go_wp2_with (go_at_call 71; (with_reducible refine hc.mono ?_); rintro _ w1 ⟨rfl, hV, hM1, hP1⟩)
      go_ret3
      exact ⟨rfl, hV, hM1, hP1⟩
    · by_cases h2 : M.step = 2
      · rw [popO_2 h2]
        have hc := apopCas_any hS hM hP
        rw [h2] at c2
        generalize pop3 M ws = o at hc ⊢
        clear hP hM hS h0 h1 h2
        unfold ifc at *
        go_enter Tryd.func55, Tryd.ntmps55
        go_wp2_with (go_at_call 72; (with_reducible refine hc.mono ?_); rintro _ w1 ⟨rfl, hV, hM1, hP1⟩)
        go_ret3
        exact ⟨rfl, hV, hM1, hP1⟩
      · rw [popO_3 h0 h1 h2]
        have hd0 : decide (M.step = 0) = false := decide_eq_false h0
        have hd1 : decide (M.step = 1) = false := decide_eq_false h1
        have hd2 : decide (M.step = 2) = false := decide_eq_false h2
        have hM1 : ∃ n, Mem w A ws bs n := ⟨n, hM⟩
        unfold ifc
        clear hM hS
        go_enter Tryd.func55, Tryd.ntmps55
        go_wp2
        go_ret3
        exact ⟨rfl, Moved.refl _ _, hM1, hP⟩
end
end Go.Proofs.YtfomephgallpmaaDoor

namespace Go.Proofs.YtfomephgallpmaaDoor
open Go.RowKit
attribute [local go_sem] Later.cell Later.frozen Later.lt Later.le Turned.cell_lo Turned.cell_hi Turned.frozen_lo Turned.frozen_hi Turned.lt Turned.le
set_option linter.unusedVariables false
set_option linter.unusedSimpArgs false

section
variable {A : PAt} {ws bs : List Int} {n : Int} {w : World} {k : Nat} {t s : Int} {M : Mc} {X : Am}
theorem bkeepT {u0 u1 : Value} (h : w.cell? ⟨k, 13, none⟩ = some u0 ∧ w.cell? ⟨k, 14, none⟩ = some u1) (hlt : k < w.heap.size) {lo hi : Nat} (hk : k < lo ∨ hi ≤ k) (z : Turned lo hi w) : z.at'.cell? ⟨k, 13, none⟩ = some u0 ∧ z.at'.cell? ⟨k, 14, none⟩ = some u1 :=
  ⟨(z.turn.cell _ _ _ hlt hk).trans h.1, (z.turn.cell _ _ _ hlt hk).trans h.2⟩
theorem bkeepS {u0 u1 v : Value} {j : Nat} (h : w.cell? ⟨k, 13, none⟩ = some u0 ∧ w.cell? ⟨k, 14, none⟩ = some u1) : (w.setCell ⟨k, j + 15, none⟩ v).cell? ⟨k, 13, none⟩ = some u0 ∧ (w.setCell ⟨k, j + 15, none⟩ v).cell? ⟨k, 14, none⟩ = some u1 :=
  ⟨by rw [World.cell?_setCell_other _ _ _ _ (by simp)]; exact h.1, by rw [World.cell?_setCell_other _ _ _ _ (by simp)]; exact h.2⟩
theorem apushEnd_any (er : Int) {L : List Value} (hP : Fs w k L) (v : Value) (hL : L[16]? = some v) : Calls Tryd.prog 87 #[.pointer (some ⟨k, 13, none⟩), .int .i64 er] w fun e w' => e = .returned (.tuple #[.int .i64 er, .bool true]) ∧ w.setCell ⟨k, 16, none⟩ (.int .i64 3) = w' := by
  have c3 := hP.at' 16 hL
  have f3 := hP.fz 16
  clear hP hL
  go_enter Tryd.func87, Tryd.ntmps87
  go_wp2
  go_ret2
  exact ⟨rfl, rfl⟩
theorem apushK3 (h : Fs w k (alQ t s X M)) : w.cell? ⟨k, 13, none⟩ = some (.int .i64 t) ∧ w.cell? ⟨k, 14, none⟩ = some (.int .i64 s) ∧ w.cell? ⟨k, 15, none⟩ = some (.int .i64 M.slot) := ⟨h.at' 13 rfl, h.at' 14 rfl, h.at' 15 rfl⟩
set_option maxHeartbeats 8000000 in
theorem apushLoad_any (x p : Int) (hxe : atI ws 1 = x) (hpe : partN t s M.slot 2 = p) (hS : Seat w A k t s) (hM : Mem w A ws bs n) (hP : Fs w k (alQ t s X M)) (hx : x ≤ 9223372036854775807) :
    Calls Tryd.prog 73 #[.pointer (some ⟨k, 13, none⟩), ifc A] w (SRet A k w (.tuple #[.int .i64 (push1 x p M ws).err, .bool (push1 x p M ws).done]) (alQ t s X (push1 x p M ws).m) (push1 x p M ws).ws bs) := by
  have hst := fun W => LStack_ok (t := t) (s := s) hS.t0 W
  have hhs := fun W => hasSlot_any (t := t) (s := s) (by have := hS.t0; omega) hS.t4 (by have := hS.s0; omega) hS.s64 M.slot W
  have hld := fun (W : World) (h : Mem W A ws bs n) => Load_any 1 h
  rw [hxe] at hld
  rw [hpe] at hhs
  clear hxe hpe
  have c0 : w.cell? ⟨k, 13, none⟩ = some (.int .i64 t) := hP.at' 13 rfl
  have c1 : w.cell? ⟨k, 14, none⟩ = some (.int .i64 s) := hP.at' 14 rfl
  have c2 : w.cell? ⟨k, 15, none⟩ = some (.int .i64 M.slot) := hP.at' 15 rfl
  have hk := hS.hk
  have hlt := hP.lt
  have hns := nil_Load
  have hms := met_Load
  unfold ifc
  by_cases h0 : 0 ≤ p
  · have hdd : decide (0 ≤ p) = true := decide_eq_true h0
    rw [hdd] at hhs
    clear hdd
    go_enter Tryd.func73, Tryd.ntmps73
    go_wp2_with fail
    refine wp_region_later (by kernel_rfl) (by kernel_rfl) ?_
    repeat (go_big_quiet_step (first | (go_at_call 86; exact later_of _ (hhs _))))
    refine wpQuiet_nil ?_
    rintro _ ⟨x0, rfl⟩
    have hP0 := hP.later x0
    have hM0 := hM.later x0
    have hV0 : Moved (spanS A k) w x0.at' := (Moved.refl _ _).later x0
    generalize x0.at' = W0 at hP0 hM0 hV0 ⊢
    clear c0 c1 c2 hP hM hlt hhs
    have c0 : W0.cell? ⟨k, 13, none⟩ = some (.int .i64 t) := hP0.at' 13 rfl
    have c1 : W0.cell? ⟨k, 14, none⟩ = some (.int .i64 s) := hP0.at' 14 rfl
    have hlt := hP0.lt
    have hd0 : W0.drew.cell? ⟨k, 13, none⟩ = some (.int .i64 t) := c0
    have hd1 : W0.drew.cell? ⟨k, 14, none⟩ = some (.int .i64 s) := c1
    have hld' : k < W0.drew.heap.size := hlt
    go_wp2_with fail
    go_region_held3 (fun w' => w'.cell? ⟨k, 13, none⟩ = some (.int .i64 t) ∧ w'.cell? ⟨k, 14, none⟩ = some (.int .i64 s)) (first
      | exact ⟨c0, c1⟩
      | exact ⟨(Later.cell _ _ _ _ hld').trans hd0, (Later.cell _ _ _ _ hld').trans hd1⟩
      | exact bkeepT ⟨(Later.cell _ _ _ _ hld').trans hd0, (Later.cell _ _ _ _ hld').trans hd1⟩ (Later.lt _ _ hld') (Or.inr hk) _
      | exact bkeepS (bkeepT ⟨(Later.cell _ _ _ _ hld').trans hd0, (Later.cell _ _ _ _ hld').trans hd1⟩ (Later.lt _ _ hld') (Or.inr hk) _)) (first
      | (go_at_call 51; refine (hst _).mono ?_; rintro _ _ ⟨rfl, y, rfl⟩; have hPy := hP0.drew.later y)
      | (go_at_call 16; refine (hld _ (hM0.drew.later y)).mono ?_; rintro _ _ ⟨rfl, z, rfl, hM2⟩; have hPz := hPy.touch z.turn (Or.inr hk); have c4z : z.at'.cell? ⟨k, 17, none⟩ = some (.int .i64 M.word) := hPz.at' 17 rfl; have f4z := hPz.fz 17))
    all_goals
      have hM1 := hM2.setOther ⟨k, 17, none⟩ (.int .i64 x) (Or.inr hk)
      have hP1 := hPz.set 17 (by simp [alQ, alL]) (.int .i64 x)
      have hV1 : Moved (spanS A k) w (z.at'.setCell ⟨k, 17, none⟩ (.int .i64 x)) := (((hV0.drew).later y).touch z.turn spanS_in).setCell _ _ spanS_self
      rename_i hHeld
      clear hHeld c4z f4z
      generalize z.at'.setCell ⟨k, 17, none⟩ (.int .i64 x) = W at hM1 hP1 hV1 ⊢
      generalize up n = m at hM1
      have hF1 := (hS.moved hV1).hF
      have hltW := hP1.lt
      have b2 : W.cell? ⟨k, 15, none⟩ = some (.int .i64 M.slot) := hP1.at' 15 rfl
      have b4 : W.cell? ⟨k, 17, none⟩ = some (.int .i64 x) := hP1.at' 17 rfl
      have hpu := fun W' hF' => HdPush_any x M.slot hx W' hF'
      clear hns hms hld hst c0 c1 hd0 hd1 hld' hM0 hlt hPy hPz hM2 hP0 z y
      go_wp2_with fail
      refine wp_region_later (by kernel_rfl) (by kernel_rfl) ?_
      repeat (go_big_quiet_step (first | (go_at_call 88; exact later_of _ (hpu _ (Later.heads _ hF1)))))
      refine wpQuiet_nil ?_
      rintro _ ⟨x2, rfl⟩
      have hP2 := hP1.later x2
      have hM3 := hM1.later x2
      have hV2 := hV1.later x2
      generalize x2.at' = W2 at hP2 hM3 hV2 ⊢
      clear b2 b4 hP1 hM1 hV1 hpu hF1 hltW
      by_cases h1 : pushE x M.slot = 0
      · have E := Lib.hid (show push1 x p M ws = ⟨0, 0, false, { M with word := x, next := pushV x M.slot, link := pushL x M.slot, step := 1 }, ws⟩ from by unfold push1; rw [if_pos h0, if_pos h1])
        have d3 : W2.cell? ⟨k, 16, none⟩ = some (.int .i64 M.step) := hP2.at' 16 rfl
        have d5 : W2.cell? ⟨k, 18, none⟩ = some (.int .i64 M.next) := hP2.at' 18 rfl
        have d6 : W2.cell? ⟨k, 19, none⟩ = some (.int .i64 M.link) := hP2.at' 19 rfl
        have g3 := hP2.fz 16
        have g5 := hP2.fz 18
        have g6 := hP2.fz 19
        rw [h1]
        go_wp2_with fail
        go_ret2
        rw [E.out]
        exact ⟨rfl, ((hV2.setCell _ _ spanS_self).setCell _ _ spanS_self).setCell _ _ spanS_self, ⟨m, ((hM3.setOther _ _ (Or.inr hk)).setOther _ _ (Or.inr hk)).setOther _ _ (Or.inr hk)⟩, ((hP2.set 18 (by simp [alQ, alL]) _).set 19 (by simp [alQ, alL]) _).set 16 (by simp [alQ, alL]) _⟩
      · have E := Lib.hid (show push1 x p M ws = ⟨0, 2, true, { M with word := x, step := 3 }, ws⟩ from by unfold push1; rw [if_pos h0, if_neg h1])
        have hdd : decide (pushE x M.slot = 0) = false := decide_eq_false h1
        generalize pushE x M.slot = pe at h1 hdd ⊢
        go_wp2_with (go_at_call 87; (with_reducible refine (apushEnd_any 2 hP2 _ rfl).mono ?_); rintro _ _ ⟨rfl, rfl⟩)
        go_ret2
        rw [E.out]
        exact ⟨rfl, hV2.setCell _ _ spanS_self, ⟨m, hM3.setOther _ _ (Or.inr hk)⟩, hP2.set 16 (by simp [alQ, alL]) _⟩
  · have hdd : decide (0 ≤ p) = false := decide_eq_false h0
    rw [hdd] at hhs
    have E := Lib.hid (show push1 x p M ws = ⟨0, 1, true, { M with step := 3 }, ws⟩ from if_neg h0)
    clear hdd
    go_enter Tryd.func73, Tryd.ntmps73
    go_wp2_with fail
    refine wp_region_later (by kernel_rfl) (by kernel_rfl) ?_
    repeat (go_big_quiet_step (first | (go_at_call 86; exact later_of _ (hhs _))))
    refine wpQuiet_nil ?_
    rintro _ ⟨x0, rfl⟩
    have hP0 := hP.later x0
    go_wp2_with (go_at_call 87; (with_reducible refine (apushEnd_any 1 hP0 _ rfl).mono ?_); rintro _ _ ⟨rfl, rfl⟩)
    go_ret2
    rw [E.out]
    exact ⟨rfl, ((Moved.refl _ _).later x0).setCell _ _ spanS_self, ⟨n, (hM.later x0).setOther _ _ (Or.inr hk)⟩, hP0.set 16 (by simp [alQ, alL]) _⟩
theorem apushK4 (h : Fs w k (alQ t s X M)) : w.cell? ⟨k, 13, none⟩ = some (.int .i64 t) ∧ w.cell? ⟨k, 14, none⟩ = some (.int .i64 s) ∧ w.cell? ⟨k, 15, none⟩ = some (.int .i64 M.slot) ∧ w.cell? ⟨k, 19, none⟩ = some (.int .i64 M.link) ∧ Fs w k (alQ t s X M) := ⟨h.at' 13 rfl, h.at' 14 rfl, h.at' 15 rfl, h.at' 19 rfl, h⟩
theorem apushK5 (h : Fs w k (alQ t s X M)) : w.cell? ⟨k, 13, none⟩ = some (.int .i64 t) ∧ w.cell? ⟨k, 14, none⟩ = some (.int .i64 s) ∧ w.cell? ⟨k, 17, none⟩ = some (.int .i64 M.word) ∧ w.cell? ⟨k, 18, none⟩ = some (.int .i64 M.next) ∧ Fs w k (alQ t s X M) := ⟨h.at' 13 rfl, h.at' 14 rfl, h.at' 17 rfl, h.at' 18 rfl, h⟩
theorem alastP {a b c d : Prop} {L : List Value} (h : a ∧ b ∧ c ∧ d ∧ Fs w k L) : Fs w k L := h.2.2.2.2
set_option maxHeartbeats 8000000 in
theorem apushLink_any (p : Int) (hpe : partN t s M.slot 2 = p) (hS : Seat w A k t s) (hM : Mem w A ws bs n) (hP : Fs w k (alQ t s X M)) :
    Calls Tryd.prog 74 #[.pointer (some ⟨k, 13, none⟩), ifc A] w (SRet A k w (.tuple #[.int .i64 (push2 p M ws).err, .bool (push2 p M ws).done]) (alQ t s X (push2 p M ws).m) (push2 p M ws).ws bs) := by
  have hlk := fun W => LLink_any (t := t) (s := s) (by have := hS.t0; omega) hS.t4 (by have := hS.s0; omega) hS.s64 M.slot W
  have hsr := fun (W : World) (h : Mem W A ws bs n) => Store_any p M.link h
  rw [hpe] at hlk
  clear hpe
  have E := Lib.hid (show push2 p M ws = ⟨0, 0, false, { M with step := 2 }, setI ws p M.link⟩ from rfl)
  generalize setI ws p M.link = ws' at hsr E
  have hk := hS.hk
  have hns := nil_Store
  have hms := met_Store
  have hPd := hP.drew
  unfold ifc
  go_enter Tryd.func74, Tryd.ntmps74
  go_wp2_with fail
  go_region_held3 (fun w' => w'.cell? ⟨k, 13, none⟩ = some (.int .i64 t) ∧ w'.cell? ⟨k, 14, none⟩ = some (.int .i64 s) ∧ w'.cell? ⟨k, 15, none⟩ = some (.int .i64 M.slot) ∧ w'.cell? ⟨k, 19, none⟩ = some (.int .i64 M.link) ∧ Fs w' k (alQ t s X M)) (first
    | exact apushK4 hP
    | exact apushK4 hPd
    | assumption
    | exact apushK4 ((alastP ‹_ ∧ _›).later _)
    | exact apushK4 ((alastP ‹_ ∧ _›).touch (Turned.turn _) (Or.inr hk))) (first
    | (go_at_call 49; refine (hlk _).mono ?_; rintro _ _ ⟨rfl, y, rfl⟩; have hPy := hPd.later y)
    | (go_at_call 117; refine (hsr _ (hM.drew.later y)).mono ?_; rintro _ _ ⟨rfl, z, rfl, hM1⟩; have hPz := hPy.touch z.turn (Or.inr hk)))
  all_goals
    have hV1 : Moved (spanS A k) w z.at' := (((Moved.refl _ _).drew).later y).touch z.turn spanS_in
    rename_i hHeld
    clear hHeld
    generalize z.at' = W at hM1 hPz hV1 ⊢
    generalize up n = m at hM1
    have b3 : W.cell? ⟨k, 16, none⟩ = some (.int .i64 M.step) := hPz.at' 16 rfl
    have f3 := hPz.fz 16
    clear hns hms hsr hlk hM hPd hPy z y
    go_wp2_with fail
    go_ret2
    rw [E.out]
    exact ⟨rfl, hV1.setCell _ _ spanS_self, ⟨m, hM1.setOther _ _ (Or.inr hk)⟩, hPz.set 16 (by simp [alQ, alL]) _⟩
set_option maxHeartbeats 8000000 in
theorem apushCas_any (hS : Seat w A k t s) (hM : Mem w A ws bs n) (hP : Fs w k (alQ t s X M)) :
    Calls Tryd.prog 75 #[.pointer (some ⟨k, 13, none⟩), ifc A] w (SRet A k w (.tuple #[.int .i64 (push3 M ws).err, .bool (push3 M ws).done]) (alQ t s X (push3 M ws).m) (push3 M ws).ws bs) := by
  have hst := fun W => LStack_ok (t := t) (s := s) hS.t0 W
  have hcs := fun (W : World) (h : Mem W A ws bs n) => Cas_any 1 M.word M.next h
  have hk := hS.hk
  have hns := nil_Cas
  have hms := met_Cas
  have hPd := hP.drew
  have E := Lib.hid (show push3 M ws = if casB ws 1 M.word then ⟨0, 0, true, { M with step := 3 }, casW ws 1 M.word M.next⟩ else ⟨0, 0, false, { M with step := 0 }, casW ws 1 M.word M.next⟩ from by
    unfold push3
    by_cases h : casB ws 1 M.word = true
    · rw [if_pos h, if_pos h]
    · rw [if_neg h, if_neg h, casW_no (by simpa using h)])
  generalize casW ws 1 M.word M.next = ws' at hcs E
  generalize casB ws 1 M.word = b at hcs E
  unfold ifc
  go_enter Tryd.func75, Tryd.ntmps75
  go_wp2_with fail
  go_region_held3 (fun w' => w'.cell? ⟨k, 13, none⟩ = some (.int .i64 t) ∧ w'.cell? ⟨k, 14, none⟩ = some (.int .i64 s) ∧ w'.cell? ⟨k, 17, none⟩ = some (.int .i64 M.word) ∧ w'.cell? ⟨k, 18, none⟩ = some (.int .i64 M.next) ∧ Fs w' k (alQ t s X M)) (first
    | exact apushK5 hP
    | exact apushK5 hPd
    | assumption
    | exact apushK5 ((alastP ‹_ ∧ _›).later _)
    | exact apushK5 ((alastP ‹_ ∧ _›).touch (Turned.turn _) (Or.inr hk))) (first
    | (go_at_call 51; refine (hst _).mono ?_; rintro _ _ ⟨rfl, y, rfl⟩; have hPy := hPd.later y)
    | (go_at_call 116; refine (hcs _ (hM.drew.later y)).mono ?_; rintro _ _ ⟨rfl, z, rfl, hM1⟩; have hPz := hPy.touch z.turn (Or.inr hk)))
  all_goals
    have hV1 : Moved (spanS A k) w z.at' := (((Moved.refl _ _).drew).later y).touch z.turn spanS_in
    rename_i hHeld
    clear hHeld
    generalize z.at' = W at hM1 hPz hV1 ⊢
    generalize up n = m at hM1
    have b3 : W.cell? ⟨k, 16, none⟩ = some (.int .i64 M.step) := hPz.at' 16 rfl
    have f3 := hPz.fz 16
    clear hns hms hcs hst hM hPd hPy z y
    cases b
    · go_wp2_with fail
      go_ret2
      rw [E.out]
      exact ⟨rfl, hV1.setCell _ _ spanS_self, ⟨m, hM1.setOther _ _ (Or.inr hk)⟩, hPz.set 16 (by simp [alQ, alL]) _⟩
    · go_wp2_with (go_at_call 87; (with_reducible refine (apushEnd_any 0 hPz _ rfl).mono ?_); rintro _ _ ⟨rfl, rfl⟩)
      go_ret2
      rw [E.out]
      exact ⟨rfl, hV1.setCell _ _ spanS_self, ⟨m, hM1.setOther _ _ (Or.inr hk)⟩, hPz.set 16 (by simp [alQ, alL]) _⟩
theorem apushStep_any (hS : Seat w A k t s) (hM : Mem w A ws bs n) (hP : Fs w k (alQ t s X M)) (hx : atI ws 1 ≤ 9223372036854775807) :
    Calls Tryd.prog 59 #[.pointer (some ⟨k, 13, none⟩), ifc A] w (SRet A k w (.tuple #[.int .i64 (pushO t s M ws).err, .bool (pushO t s M ws).done]) (alQ t s X (pushO t s M ws).m) (pushO t s M ws).ws bs) := by
  have c3 : w.cell? ⟨k, 16, none⟩ = some (.int .i64 M.step) := hP.at' 16 rfl
  by_cases h0 : M.step = 0
  · rw [pushO_0 h0]
    have hc := apushLoad_any _ _ rfl rfl hS hM hP hx
    rw [h0] at c3
    generalize push1 (atI ws 1) (partN t s M.slot 2) M ws = o at hc ⊢
    clear hP hM hS h0
    unfold ifc at *
    go_enter Tryd.func59, Tryd.ntmps59
    go_wp2_with (go_at_call 73; (with_reducible refine hc.mono ?_); rintro _ w1 ⟨rfl, hV, hM1, hP1⟩)
    go_ret2
    exact ⟨rfl, hV, hM1, hP1⟩
  · by_cases h1 : M.step = 1
    · rw [pushO_1 h1]
      have hc := apushLink_any _ rfl hS hM hP
      rw [h1] at c3
      generalize push2 (partN t s M.slot 2) M ws = o at hc ⊢
      clear hP hM hS h0 h1
      unfold ifc at *
      go_enter Tryd.func59, Tryd.ntmps59
      go_wp2_with (go_at_call 74; (with_reducible refine hc.mono ?_); rintro _ w1 ⟨rfl, hV, hM1, hP1⟩)
      go_ret2
      exact ⟨rfl, hV, hM1, hP1⟩
    · by_cases h2 : M.step = 2
      · rw [pushO_2 h2]
        have hc := apushCas_any hS hM hP
        rw [h2] at c3
        generalize push3 M ws = o at hc ⊢
        clear hP hM hS h0 h1 h2
        unfold ifc at *
        go_enter Tryd.func59, Tryd.ntmps59
        go_wp2_with (go_at_call 75; (with_reducible refine hc.mono ?_); rintro _ w1 ⟨rfl, hV, hM1, hP1⟩)
        go_ret2
        exact ⟨rfl, hV, hM1, hP1⟩
      · rw [pushO_3 h0 h1 h2]
        have hd0 : decide (M.step = 0) = false := decide_eq_false h0
        have hd1 : decide (M.step = 1) = false := decide_eq_false h1
        have hd2 : decide (M.step = 2) = false := decide_eq_false h2
        have hM1 : ∃ n, Mem w A ws bs n := ⟨n, hM⟩
        unfold ifc
        clear hM hS
        go_enter Tryd.func59, Tryd.ntmps59
        go_wp2
        go_ret2
        exact ⟨rfl, Moved.refl _ _, hM1, hP⟩
end
end Go.Proofs.YtfomephgallpmaaDoor

