/-
  The plain arithmetic of layouts: what a config may be, and the places of words.
  Conditions: none; statements over whole numbers and truth values.
-/
import Derived.WalkKit
namespace Go.Proofs.YtfomephgallpmaaDoor
open Go.RowKit

/-- A config may be: its arena a, its slots s, its threads t. -/
def mayC (a s t : Int) : Bool := decide (a % 8 = 0) && (decide (8 ≤ a ∧ a ≤ 4096) && (decide (1 ≤ s ∧ s ≤ 64) && decide (1 ≤ t ∧ t ≤ 4)))
theorem mayC_iff {a s t : Int} : mayC a s t = true ↔ a % 8 = 0 ∧ 8 ≤ a ∧ a ≤ 4096 ∧ 1 ≤ s ∧ s ≤ 64 ∧ 1 ≤ t ∧ t ≤ 4 := by simp [mayC]; omega
theorem mayC_no {a s t : Int} (h : mayC a s t = false) : ¬ (a % 8 = 0 ∧ 8 ≤ a ∧ a ≤ 4096 ∧ 1 ≤ s ∧ s ≤ 64 ∧ 1 ≤ t ∧ t ≤ 4) := fun k => by rw [mayC_iff.2 k] at h; cases h

/-- All words of t threads and s slots. -/
def wordsN (t s : Int) : Int := 4 + t + s * 3
/-- The places of a thread's note, and of a slot's words. -/
def noteN (t n : Int) : Int := if 0 ≤ n ∧ n ≤ t - 1 then 4 + n else -1
def partN (t s n p : Int) : Int := if 0 ≤ n ∧ n ≤ s - 1 then 4 + t + n * 3 + p else -1
theorem noteN_in {t n : Int} (h : 0 ≤ n ∧ n ≤ t - 1) : noteN t n = 4 + n := if_pos h
theorem noteN_no {t n : Int} (h : ¬ (0 ≤ n ∧ n ≤ t - 1)) : noteN t n = -1 := if_neg h
theorem partN_in {t s n p : Int} (h : 0 ≤ n ∧ n ≤ s - 1) : partN t s n p = 4 + t + n * 3 + p := if_pos h
theorem partN_no {t s n p : Int} (h : ¬ (0 ≤ n ∧ n ≤ s - 1)) : partN t s n p = -1 := if_neg h
end Go.Proofs.YtfomephgallpmaaDoor
