/-
  The steps of a machine that reads a byte, on plain cells.
  Conditions: none but that the machine and plain cells lie there, and the table of fields reads as it is laid.
-/
import Derived.Test.YtnahjnbhmlomcaaDoorRdLoad
namespace Go.Proofs.YtnahjnbhmlomcaaDoor
open Go.RowKit
attribute [local go_sem] Later.cell Later.frozen Later.lt Later.le Turned.cell_lo Turned.cell_hi Turned.frozen_lo Turned.frozen_hi Turned.lt Turned.le
set_option linter.unusedVariables false
set_option linter.unusedSimpArgs false

section
variable {A : PAt} {ws bs : List Int} {n : Int} {w W : World} {k : Nat} {t s : Int} {M : Rm}
theorem rend_any (hP : Fs w k (rmL t s M)) (c n : Int) : Calls Tryd.prog 44 #[.pointer (some ⟨k, 0, none⟩), .int .i64 c, .int .i64 n] w fun e w' => e = .returned (.tuple #[]) ∧ ((w.setCell ⟨k, 10, none⟩ (.int .i64 c)).setCell ⟨k, 11, none⟩ (.int .i64 n)).setCell ⟨k, 6, none⟩ (.int .i64 0) = w' := by
  have c6 : w.cell? ⟨k, 6, none⟩ = some (.int .i64 M.step) := hP.at' 6 rfl
  have c10 : w.cell? ⟨k, 10, none⟩ = some (.int .i64 M.rc) := hP.at' 10 rfl
  have c11 : w.cell? ⟨k, 11, none⟩ = some (.int .i64 M.rn) := hP.at' 11 rfl
  have f6 := hP.fz 6
  have f10 := hP.fz 10
  have f11 := hP.fz 11
  clear hP
  go_enter Tryd.func44, Tryd.ntmps44
  go_wp2
  first | go_end0 | refine bodyPost_ret (results_none rfl _ _ _) rfl ?_
  exact ⟨rfl, rfl⟩
theorem sEnd (hV : Moved (spanS A k) w W) (hM : ∃ n, Mem W A ws bs n) (hP : Fs W k (rmL t s M)) (hk : A.hi ≤ k) (c n : Int) :
    SRet A k w (.tuple #[]) (rmL t s (rmEnd c n M)) ws bs (.returned (.tuple #[])) (((W.setCell ⟨k, 10, none⟩ (.int .i64 c)).setCell ⟨k, 11, none⟩ (.int .i64 n)).setCell ⟨k, 6, none⟩ (.int .i64 0)) := by
  obtain ⟨m, hm⟩ := hM
  exact ⟨rfl, ((hV.setCell _ _ spanS_self).setCell _ _ spanS_self).setCell _ _ spanS_self, ⟨m, ((hm.setOther _ _ (Or.inr hk)).setOther _ _ (Or.inr hk)).setOther _ _ (Or.inr hk)⟩, ((hP.set 10 (by simp [rmL]) _).set 11 (by simp [rmL]) _).set 6 (by simp [rmL]) _⟩

set_option maxHeartbeats 4000000 in
theorem rle_any (x : Int) (hxe : atI ws (partN t s M.slot 0) = x) (hS : ESeat w A k t s) (hM : Mem w A ws bs n) (hP : Fs w k (rmL t s M)) :
    Calls Tryd.prog 34 #[.pointer (some ⟨k, 0, none⟩), ifc A] w (SRet A k w (.tuple #[]) (rmL t s (rm1 x M)) ws bs) := by
  have hl := rload_any x hxe hS hM hP
  have c2 : w.cell? ⟨k, 2, none⟩ = some (.bool M.kn) := hP.at' 2 rfl
  have hk := hS.hk
  cases hkn : M.kn
  · rw [hkn] at c2
    have E := Lib.hid (show rm1 x M = rmEnd 4 0 M from by simp [rm1, hkn])
    have he := rend_any hP 4 0
    have hfin := sEnd (Moved.refl (spanS A k) w) ⟨n, hM⟩ hP hk 4 0
    clear hl hP hM hS hkn
    unfold ifc
    go_enter Tryd.func34, Tryd.ntmps34
    go_wp2_with (go_at_call 44; (with_reducible refine he.mono ?_); rintro _ _ ⟨rfl, rfl⟩)
    first | go_end0 | refine bodyPost_ret (results_none rfl _ _ _) rfl ?_
    rw [E.out]
    exact hfin
  · rw [hkn] at c2
    have E : rm1 x M = if ownB x M.gen then (if (upV x).lk then M else { M with base := (upV x).o, step := 2 }) else rmEnd 4 0 M := by simp [rm1, hkn]
    have HE := Lib.hid E
    clear E hP hM hkn
    generalize ownB x M.gen = ob at hl HE
    generalize upV x = e at hl HE
    obtain ⟨o, g, p, q, lk, lv⟩ := e
    unfold En.val at hl
    simp only at hl
    unfold ifc at *
    cases ob
    · go_enter Tryd.func34, Tryd.ntmps34
      go_wp2_with (first
        | (go_at_call 45; (with_reducible refine hl.mono ?_); rintro _ w1 ⟨rfl, hV, hM1, hP1⟩; have he := rend_any (hP1.alloc (.cells #[.int .i64 o, .int .i64 g, .int .i64 p, .int .i64 q, .bool lk, .bool lv] 79)) 4 0)
        | (go_at_call 44; (with_reducible refine he.mono ?_); rintro _ _ ⟨rfl, rfl⟩))
      first | go_end0 | refine bodyPost_ret (results_none rfl _ _ _) rfl ?_
      rw [HE.out]
      exact sEnd (hV.alloc _) (hM1.imp fun _ m => m.alloc _) (hP1.alloc _) hk 4 0
    · cases lk
      · go_enter Tryd.func34, Tryd.ntmps34
        go_wp2_with (first
          | (go_at_call 45; (with_reducible refine hl.mono ?_); rintro _ w1 ⟨rfl, hV, hM1, hP1⟩; have hP2 := hP1.alloc (.cells #[.int .i64 o, .int .i64 g, .int .i64 p, .int .i64 q, .bool false, .bool lv] 79); have d6 := hP2.at' 6 rfl; have d7 := hP2.at' 7 rfl; have f6 := hP2.fz 6; have f7 := hP2.fz 7))
        first | go_end0 | refine bodyPost_ret (results_none rfl _ _ _) rfl ?_
        rw [HE.out]
        exact ⟨rfl, ((hV.alloc _).setCell _ _ spanS_self).setCell _ _ spanS_self, hM1.imp fun _ m => ((m.alloc _).setOther _ _ (Or.inr hk)).setOther _ _ (Or.inr hk), (hP2.set 7 (by simp [rmL]) _).set 6 (by simp [rmL]) _⟩
      · go_enter Tryd.func34, Tryd.ntmps34
        go_wp2_with (first
          | (go_at_call 45; (with_reducible refine hl.mono ?_); rintro _ w1 ⟨rfl, hV, hM1, hP1⟩))
        first | go_end0 | refine bodyPost_ret (results_none rfl _ _ _) rfl ?_
        rw [HE.out]
        exact ⟨rfl, hV.alloc _, hM1.imp fun _ m => m.alloc _, hP1.alloc _⟩
end
end Go.Proofs.YtnahjnbhmlomcaaDoor
