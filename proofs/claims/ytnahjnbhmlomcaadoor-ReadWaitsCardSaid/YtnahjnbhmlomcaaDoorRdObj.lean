/-
  What a machine that reads tells of an object that lies there, is no one's else, and is not locked.
  Conditions: none; plain lemmas.
-/
import Derived.Test.YtnahjnbhmlomcaaDoorRdStepC
namespace Go.Proofs.YtnahjnbhmlomcaaDoor
open Go.RowKit
set_option linter.unusedVariables false
set_option linter.unusedSimpArgs false

section
variable {t s : Int} {ws bs : List Int} {M M' : Rm} {f i : Nat}
theorem rm_go (h : rmO t s M ws bs = M') (h0 : M.step ≠ 0) (h1 : M'.step ≠ 0) : rmRun t s ws bs (f + 1) i M = rmRun t s ws bs f (i + 1) M' := by
  have hT : rmT M M' = (0, 0, false) := by unfold rmT; rw [if_neg h0, if_neg h1]
  show (if (rmT M (rmO t s M ws bs)).2.2 then (((rmT M (rmO t s M ws bs)).1, (rmT M (rmO t s M ws bs)).2.1), i + 1, rmO t s M ws bs) else rmRun t s ws bs f (i + 1) (rmO t s M ws bs)) = _
  rw [h, hT]
  rfl
theorem rm_end (h : rmO t s M ws bs = M') (h0 : M.step ≠ 0) (h1 : M'.step = 0) : rmRun t s ws bs (f + 1) i M = ((M'.rc, M'.rn), i + 1, M') := by
  have hT : rmT M M' = (M'.rc, M'.rn, true) := by unfold rmT; rw [if_neg h0, if_pos h1]
  show (if (rmT M (rmO t s M ws bs)).2.2 then (((rmT M (rmO t s M ws bs)).1, (rmT M (rmO t s M ws bs)).2.1), i + 1, rmO t s M ws bs) else rmRun t s ws bs f (i + 1) (rmO t s M ws bs)) = _
  rw [h, hT]
  rfl
/-- An entry's word: the handle's own, not locked, of an object at o. -/
structure OwnAt (x g o : Int) : Prop where
  own : ownB x g = true
  off : (upV x).o = o
  lk : (upV x).lk = false
  o0 : 0 ≤ o
  o1 : o ≤ 4096
section
variable {x g o z y : Int}
theorem rm_s1 (h1 : M.step = 1) (hk : M.kn = true) (hx : atI ws (partN t s M.slot 0) = x) (hO : OwnAt x M.gen o) : rmO t s M ws bs = { M with base := o, step := 2 } := by
  rw [rmO_1 h1, hx]
  unfold rm1
  rw [hk, hO.own, hO.lk, hO.off]
  rfl
theorem wrap_sz (z0 : 1 ≤ z) (z1 : z ≤ 4096) : wrap64 (z - 1) = z - 1 := by unfold wrap64; omega
theorem wrap_at (o0 : 0 ≤ o) (o1 : o ≤ 4096) (k0 : 0 ≤ y) (k1 : y ≤ 4096) : wrap64 (o + y) = o + y := by unfold wrap64; omega
theorem rm_s2 (hz : atI ws (partN t s M.slot 1) = z) (z0 : 1 ≤ z) (z1 : z ≤ 4096) (h2 : M.step = 2) (hin : 0 ≤ M.off ∧ M.off < z) : rmO t s M ws bs = { M with out := false, step := 3 } := by
  rw [rmO_2 h2, hz]
  unfold rm2
  rw [if_neg]
  rw [wrap_sz z0 z1]
  omega
theorem rm_s2o (hz : atI ws (partN t s M.slot 1) = z) (z0 : 1 ≤ z) (z1 : z ≤ 4096) (h2 : M.step = 2) (hin : ¬ (0 ≤ M.off ∧ M.off < z)) : rmO t s M ws bs = { M with out := true, step := 4 } := by
  rw [rmO_2 h2, hz]
  unfold rm2
  rw [if_pos]
  rw [wrap_sz z0 z1]
  omega
theorem rm_s3 (h3 : M.step = 3) (b0 : 0 ≤ M.base ∧ M.base ≤ 4096) (k0 : 0 ≤ M.off ∧ M.off ≤ 4096) : rmO t s M ws bs = { M with b := atI bs (M.base + M.off), step := 4 } := by
  rw [rmO_3 h3, wrap_at b0.1 b0.2 k0.1 k0.2]
  rfl
theorem rm_s4 (hx : atI ws (partN t s M.slot 0) = x) (hO : OwnAt x M.gen o) (h4 : M.step = 4) (hb : M.base = o) : rmO t s M ws bs = if M.out then rmEnd 5 0 M else rmEnd 0 M.b M := by
  rw [rmO_4 h4, hx]
  unfold rm4
  rw [hO.own, hO.off, hO.lk, hb]
  simp
/-- It is stale. -/
theorem rm_stale (hx : atI ws (partN t s M.slot 0) = x) (h1 : M.step = 1) (ho : ownB x M.gen = false) : rmO t s M ws bs = rmEnd 4 0 M := by
  rw [rmO_1 h1, hx]
  unfold rm1
  rw [ho]
  simp
theorem rm_again (hx : atI ws (partN t s M.slot 0) = x) (h4 : M.step = 4) (ho : ownB x M.gen = false ∨ (upV x).o ≠ M.base) : rmO t s M ws bs = { M with step := 1 } := by
  rw [rmO_4 h4, hx]
  unfold rm4
  rcases ho with ho | ho
  · rw [ho]; simp
  · rw [if_neg ho]; simp

theorem rm_from4 (hx : atI ws (partN t s M.slot 0) = x) (hO : OwnAt x M.gen o) (h4 : M.step = 4) (hb : M.base = o) (ho : M.out = false) : (rmRun t s ws bs (f + 1) i M).1 = (0, M.b) ∧ (rmRun t s ws bs (f + 1) i M).2.1 = i + 1 := by
  have s4 := rm_s4 (bs := bs) hx hO h4 hb
  rw [ho] at s4
  rw [rm_end s4 (by omega) rfl]
  exact ⟨rfl, rfl⟩
theorem rm_from3 (hx : atI ws (partN t s M.slot 0) = x) (hO : OwnAt x M.gen o) (h3 : M.step = 3) (hb : M.base = o) (ho : M.out = false) (k0 : 0 ≤ M.off ∧ M.off ≤ 4096) : (rmRun t s ws bs (f + 2) i M).1 = (0, atI bs (o + M.off)) ∧ (rmRun t s ws bs (f + 2) i M).2.1 = i + 2 := by
  have s3 := rm_s3 (t := t) (s := s) (ws := ws) (bs := bs) h3 (by rw [hb]; exact ⟨hO.o0, hO.o1⟩) k0
  rw [rm_go s3 (by omega) (by simp)]
  have := rm_from4 (M := { M with b := atI bs (M.base + M.off), step := 4 }) (f := f) (i := i + 1) (bs := bs) hx hO rfl hb ho
  rw [this.1, this.2, hb]
  exact ⟨rfl, rfl⟩
theorem rm_from2 (hx : atI ws (partN t s M.slot 0) = x) (hO : OwnAt x M.gen o) (hz : atI ws (partN t s M.slot 1) = z) (z0 : 1 ≤ z) (z1 : z ≤ 4096) (h2 : M.step = 2) (hb : M.base = o) (hin : 0 ≤ M.off ∧ M.off < z) : (rmRun t s ws bs (f + 3) i M).1 = (0, atI bs (o + M.off)) ∧ (rmRun t s ws bs (f + 3) i M).2.1 = i + 3 := by
  rw [rm_go (rm_s2 (bs := bs) hz z0 z1 h2 hin) (by omega) (by simp)]
  exact rm_from3 (M := { M with out := false, step := 3 }) (f := f) (i := i + 1) (bs := bs) hx hO rfl hb rfl ⟨hin.1, by have := hin.2; show M.off ≤ 4096; omega⟩
theorem rm_reads (h1 : M.step = 1) (hk : M.kn = true) (hx : atI ws (partN t s M.slot 0) = x) (hO : OwnAt x M.gen o) (hz : atI ws (partN t s M.slot 1) = z) (z0 : 1 ≤ z) (z1 : z ≤ 4096) (hin : 0 ≤ M.off ∧ M.off < z) : (rmRun t s ws bs (f + 4) i M).1 = (0, atI bs (o + M.off)) ∧ (rmRun t s ws bs (f + 4) i M).2.1 = i + 4 := by
  rw [rm_go (rm_s1 (bs := bs) h1 hk hx hO) (by omega) (by simp)]
  exact rm_from2 (M := { M with base := o, step := 2 }) (f := f) (i := i + 1) (bs := bs) hx hO hz z0 z1 rfl rfl hin
theorem rm_outside (h1 : M.step = 1) (hk : M.kn = true) (hx : atI ws (partN t s M.slot 0) = x) (hO : OwnAt x M.gen o) (hz : atI ws (partN t s M.slot 1) = z) (z0 : 1 ≤ z) (z1 : z ≤ 4096) (hin : ¬ (0 ≤ M.off ∧ M.off < z)) : (rmRun t s ws bs (f + 3) i M).1 = (5, 0) ∧ (rmRun t s ws bs (f + 3) i M).2.1 = i + 3 := by
  rw [rm_go (rm_s1 (bs := bs) h1 hk hx hO) (by omega) (by simp)]
  rw [rm_go (rm_s2o (M := { M with base := o, step := 2 }) (bs := bs) hz z0 z1 rfl hin) (by simp) (by simp)]
  have s4 := rm_s4 (M := { M with base := o, step := 4, out := true }) (bs := bs) hx hO rfl rfl
  rw [rm_end s4 (by simp) rfl]
  exact ⟨rfl, rfl⟩
end
end
end Go.Proofs.YtnahjnbhmlomcaaDoor
