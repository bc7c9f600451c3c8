/-
  A step of a Pop, whatever it has come to; of one that is none, or has no cells.
  Conditions: none but that the machine and such cells lie there, and the tables read as they are laid.
-/
import Derived.Test.YtfomephgallpmaaDoorStPopB
namespace Go.Proofs.YtfomephgallpmaaDoor
open Go.RowKit
set_option linter.unusedVariables false

theorem popStep_nil (m : Value) (w : World) : Calls Tryd.prog 55 #[.pointer none, m] w fun e w' => e = .returned (.tuple #[.int .i64 0, .int .i64 1, .bool true]) ∧ w = w' := by
  go_enter Tryd.func55, Tryd.ntmps55
  go_wp2
  go_ret3
  exact ⟨rfl, rfl⟩
theorem popStep_none (a : Addr) (w : World) : Calls Tryd.prog 55 #[.pointer (some a), .nilIface] w fun e w' => e = .returned (.tuple #[.int .i64 0, .int .i64 1, .bool true]) ∧ w = w' := by
  go_enter Tryd.func55, Tryd.ntmps55
  go_wp2
  go_ret3
  exact ⟨rfl, rfl⟩

section
variable {A : PAt} {ws bs : List Int} {n : Int} {w : World} {k : Nat} {t s : Int} {M : Mc}

theorem popO_0 (h : M.step = 0) : popO t s M ws = pop1 (atI ws 1) M ws := if_pos h
theorem popO_1 (h : M.step = 1) : popO t s M ws = pop2 (atI ws (partN t s M.slot 2)) M ws := by unfold popO; rw [if_neg (by omega), if_pos h]
theorem popO_2 (h : M.step = 2) : popO t s M ws = pop3 M ws := by unfold popO; rw [if_neg (by omega), if_neg (by omega), if_pos h]
theorem popO_3 (h0 : M.step ≠ 0) (h1 : M.step ≠ 1) (h2 : M.step ≠ 2) : popO t s M ws = ⟨0, 1, true, M, ws⟩ := by unfold popO; rw [if_neg h0, if_neg h1, if_neg h2]

theorem popStep_any (hS : Seat w A k t s) (hM : Mem w A ws bs n) (hP : Fs w k (popL t s M)) (hx : atI ws 1 ≤ 9223372036854775807) (hw : M.word ≤ 9223372036854775807) :
    Calls Tryd.prog 55 #[.pointer (some ⟨k, 0, none⟩), ifc A] w (SRet A k w (.tuple #[.int .i64 (popO t s M ws).slot, .int .i64 (popO t s M ws).err, .bool (popO t s M ws).done]) (popL t s (popO t s M ws).m) (popO t s M ws).ws bs) := by
  have c2 : w.cell? ⟨k, 2, none⟩ = some (.int .i64 M.step) := hP.at' 2 rfl
  by_cases h0 : M.step = 0
  · rw [popO_0 h0]
    have hc := popLoad_any _ rfl hS hM hP hx
    rw [h0] at c2
    generalize pop1 (atI ws 1) M ws = o at hc ⊢
    clear hP hM hS h0
    unfold ifc at *
    go_enter Tryd.func55, Tryd.ntmps55
    go_wp2_with (go_at_call 70; (with_reducible refine hc.mono ?_); rintro _ w1 ⟨rfl, hV, hM1, hP1⟩)
    go_ret3
    exact ⟨rfl, hV, hM1, hP1⟩
  · by_cases h1 : M.step = 1
    · rw [popO_1 h1]
      have hc := popLink_any _ rfl hS hM hP hw
      rw [h1] at c2
      generalize pop2 (atI ws (partN t s M.slot 2)) M ws = o at hc ⊢
      clear hP hM hS h0 h1
      unfold ifc at *
      go_enter Tryd.func55, Tryd.ntmps55
      go_wp2_with (go_at_call 71; (with_reducible refine hc.mono ?_); rintro _ w1 ⟨rfl, hV, hM1, hP1⟩)
      go_ret3
      exact ⟨rfl, hV, hM1, hP1⟩
    · by_cases h2 : M.step = 2
      · rw [popO_2 h2]
        have hc := popCas_any hS hM hP
        rw [h2] at c2
        generalize pop3 M ws = o at hc ⊢
        clear hP hM hS h0 h1 h2
        unfold ifc at *
        go_enter Tryd.func55, Tryd.ntmps55
        go_wp2_with (go_at_call 72; (with_reducible refine hc.mono ?_); rintro _ w1 ⟨rfl, hV, hM1, hP1⟩)
        go_ret3
        exact ⟨rfl, hV, hM1, hP1⟩
      · rw [popO_3 h0 h1 h2]
        have hd0 : decide (M.step = 0) = false := decide_eq_false h0
        have hd1 : decide (M.step = 1) = false := decide_eq_false h1
        have hd2 : decide (M.step = 2) = false := decide_eq_false h2
        have hM1 : ∃ n, Mem w A ws bs n := ⟨n, hM⟩
        unfold ifc
        clear hM hS
        go_enter Tryd.func55, Tryd.ntmps55
        go_wp2
        go_ret3
        exact ⟨rfl, Moved.refl _ _, hM1, hP⟩
end
end Go.Proofs.YtfomephgallpmaaDoor
