/-
  What the program's own mayBe and Before answer for layer 8.
  Conditions: none.
-/
import Derived.Test.YtfjgmggpkljphaaEvHas
namespace Go.Proofs.Ytfjgmggpkljphaa
open Go.RowKit
attribute [local go_sem] Later.cell Later.frozen Later.lt Later.le
set_option linter.unusedVariables false

/-- An event, as a value. -/
def evCellsP (e : Ev) : List Value := [.int .i64 e.th, .bool e.bk, .int .i64 e.d, .int .i64 e.h, .int .i64 e.o, .int .i64 e.n, .int .i64 e.c, .int .i64 e.r]
def evVP (e : Ev) : Value := .agg (evCellsP e).toArray
/-- An event may be one of a history. -/
def mayB (e : Ev) : Bool := decide (0 ≤ e.th ∧ e.th ≤ 3) && (if e.bk then opZ e else rsZ e)

theorem mayBe_any (e : Ev) (w : World) : Calls Try.prog 63 #[evVP e] w (Ret w (.bool (mayB e))) := by
  obtain ⟨th, bk, d, h, o, n, c, r⟩ := e
  have hv : mayB ⟨th, bk, d, h, o, n, c, r⟩ = (decide (0 ≤ th ∧ th ≤ 3) && (if bk then (d == 0 && h == 0 && o == 0 && n == 0) else (c == 0 && r == 0))) := rfl
  generalize mayB ⟨th, bk, d, h, o, n, c, r⟩ = V at hv
  simp only [evVP, evCellsP]
  by_cases a1 : th < 0
  case pos =>
    have hV : V = false := by rw [hv]; simp; omega
    subst hV
    clear hv
    go_enter Try.func63, Try.ntmps63
    go_wp2
    go_ret
    exact Ret.mk rfl (((Below.refl _ _).alloc (Nat.le_refl _) _))
  case neg =>
    by_cases a2 : 3 < th
    case pos =>
      have hV : V = false := by rw [hv]; simp; omega
      subst hV
      clear hv
      have a3 : 4 ≤ th := by omega
      go_enter Try.func63, Try.ntmps63
      go_wp2
      go_ret
      exact Ret.mk rfl (((Below.refl _ _).alloc (Nat.le_refl _) _))
    case neg =>
      have a3 : ¬ 4 ≤ th := by omega
      have ht : decide (0 ≤ th ∧ th ≤ 3) = true := by simp; omega
      rw [ht] at hv
      clear ht a2
      cases bk
      · have hV : V = (c == 0 && r == 0) := hv
        clear hv
        have HV := Lib.hid hV
        clear hV
        go_enter Try.func63, Try.ntmps63
        go_wp2
        all_goals (go_ret; exact Ret.mk (by rw [HV.out]; simp_all) ((Below.refl _ _).alloc (Nat.le_refl _) _))
      · have hV : V = (d == 0 && h == 0 && o == 0 && n == 0) := hv
        clear hv
        have HV := Lib.hid hV
        clear hV
        go_enter Try.func63, Try.ntmps63
        go_wp2
        all_goals (go_ret; exact Ret.mk (by rw [HV.out]; simp_all) ((Below.refl _ _).alloc (Nat.le_refl _) _))
theorem Before_any (a b : Cl) (w : World) : Calls Try.prog 44 #[clV a, clV b] w (Ret w (.bool (clBefore a b))) := by
  obtain ⟨th, d, h, o, n, c, r, dn, fr, to⟩ := a
  obtain ⟨th2, d2, h2, o2, n2, c2, r2, dn2, fr2, to2⟩ := b
  have hv : clBefore ⟨th, d, h, o, n, c, r, dn, fr, to⟩ ⟨th2, d2, h2, o2, n2, c2, r2, dn2, fr2, to2⟩ = (dn && decide (to < fr2)) := rfl
  generalize clBefore ⟨th, d, h, o, n, c, r, dn, fr, to⟩ ⟨th2, d2, h2, o2, n2, c2, r2, dn2, fr2, to2⟩ = V at hv
  have HV := Lib.hid hv
  clear hv
  simp only [clV, clCells]
  cases dn
  · go_enter Try.func44, Try.ntmps44
    go_wp2
    go_ret
    exact Ret.mk (by rw [HV.out]; simp_all) (((Below.refl _ _).alloc (Nat.le_refl _) _).alloc (by simp) _)
  · go_enter Try.func44, Try.ntmps44
    go_wp2
    go_ret
    exact Ret.mk (by rw [HV.out]; simp_all) (((Below.refl _ _).alloc (Nat.le_refl _) _).alloc (by simp) _)
end Go.Proofs.Ytfjgmggpkljphaa
