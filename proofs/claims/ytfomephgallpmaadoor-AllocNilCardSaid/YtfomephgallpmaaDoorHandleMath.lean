/-
  The plain arithmetic of handles and of rounded sizes.
  Conditions: none; statements over whole numbers and truth values.
-/
import Derived.WalkKit
namespace Go.Proofs.YtfomephgallpmaaDoor
open Go.RowKit

def mkP (s g : Int) : Bool := decide (0 ≤ s ∧ s ≤ 63 ∧ 0 ≤ g ∧ g ≤ 1000)
def mkV (s g : Int) : Int := if mkP s g then s + g * 1048576 + 1099511627776 else 0
def mkE (s g : Int) : Int := if mkP s g then 0 else 1
/-- The slot and the generation that a number would be of. -/
def slotOf (h : Int) : Int := (h - 1099511627776) % 1048576
def genOf (h : Int) : Int := (h - 1099511627776) / 1048576
def isH (h : Int) : Bool := decide (0 ≤ h - 1099511627776 ∧ slotOf h ≤ 63 ∧ genOf h ≤ 1000)
def spS (h : Int) : Int := if isH h then slotOf h else 0
def spG (h : Int) : Int := if isH h then genOf h else 0
def ofB (h n : Int) : Bool := isH h && decide (slotOf h < n)
def ofS (h n : Int) : Int := if ofB h n then slotOf h else 0
def ofG (h n : Int) : Int := if ofB h n then genOf h else 0
def ofE (h n : Int) : Int := if ofB h n then 0 else 4
def rdB (n : Int) : Bool := decide (1 ≤ n ∧ n ≤ 256)
def rdV (n : Int) : Int := if rdB n then (n + 7) / 8 * 8 else 0
def rdE (n : Int) : Int := if rdB n then 0 else 9

section
variable {s g h n : Int}
theorem mkP_of (k : mkP s g = true) : 0 ≤ s ∧ s ≤ 63 ∧ 0 ≤ g ∧ g ≤ 1000 := by simpa [mkP] using k
theorem mkP_true (k : 0 ≤ s ∧ s ≤ 63 ∧ 0 ≤ g ∧ g ≤ 1000) : mkP s g = true := by simpa [mkP] using k
theorem mkP_false (k : ¬ (0 ≤ s ∧ s ≤ 63 ∧ 0 ≤ g ∧ g ≤ 1000)) : mkP s g = false := by simpa [mkP] using k
theorem mkV_ok (k : mkP s g = true) : mkV s g = s + g * 1048576 + 1099511627776 := if_pos k
theorem mkE_ok (k : mkP s g = true) : mkE s g = 0 := if_pos k
theorem mkV_bad (k : mkP s g = false) : mkV s g = 0 := if_neg (by rw [k]; decide)
theorem mkE_bad (k : mkP s g = false) : mkE s g = 1 := if_neg (by rw [k]; decide)
theorem slotOf_bd : 0 ≤ slotOf h ∧ slotOf h < 1048576 := by unfold slotOf; omega
theorem isH_of (k : isH h = true) : 0 ≤ h - 1099511627776 ∧ slotOf h ≤ 63 ∧ genOf h ≤ 1000 := by simpa [isH] using k
theorem isH_false (k : ¬ (0 ≤ h - 1099511627776 ∧ slotOf h ≤ 63 ∧ genOf h ≤ 1000)) : isH h = false := by simpa [isH] using k
theorem spS_ok (k : isH h = true) : spS h = slotOf h := if_pos k
theorem spG_ok (k : isH h = true) : spG h = genOf h := if_pos k
theorem spS_bad (k : isH h = false) : spS h = 0 := if_neg (by rw [k]; decide)
theorem spG_bad (k : isH h = false) : spG h = 0 := if_neg (by rw [k]; decide)
theorem ofS_ok (k : ofB h n = true) : ofS h n = slotOf h := if_pos k
theorem ofG_ok (k : ofB h n = true) : ofG h n = genOf h := if_pos k
theorem ofE_ok (k : ofB h n = true) : ofE h n = 0 := if_pos k
theorem ofS_bad (k : ofB h n = false) : ofS h n = 0 := if_neg (by rw [k]; decide)
theorem ofG_bad (k : ofB h n = false) : ofG h n = 0 := if_neg (by rw [k]; decide)
theorem ofE_bad (k : ofB h n = false) : ofE h n = 4 := if_neg (by rw [k]; decide)
theorem rdB_of (k : rdB n = true) : 1 ≤ n ∧ n ≤ 256 := by simpa [rdB] using k
theorem rdB_true (k : 1 ≤ n ∧ n ≤ 256) : rdB n = true := by simpa [rdB] using k
theorem rdB_false (k : ¬ (1 ≤ n ∧ n ≤ 256)) : rdB n = false := by simpa [rdB] using k
theorem rdV_ok (k : rdB n = true) : rdV n = (n + 7) / 8 * 8 := if_pos k
theorem rdE_ok (k : rdB n = true) : rdE n = 0 := if_pos k
theorem rdV_bad (k : rdB n = false) : rdV n = 0 := if_neg (by rw [k]; decide)
theorem rdE_bad (k : rdB n = false) : rdE n = 9 := if_neg (by rw [k]; decide)

/-- A handle is split as it was made. -/
theorem split_made (k : mkP s g = true) : isH (mkV s g) = true ∧ slotOf (mkV s g) = s ∧ genOf (mkV s g) = g := by
  obtain ⟨h1, h2, h3, h4⟩ := mkP_of k
  rw [mkV_ok k]
  have e1 : slotOf (s + g * 1048576 + 1099511627776) = s := by unfold slotOf; omega
  have e2 : genOf (s + g * 1048576 + 1099511627776) = g := by unfold genOf; omega
  refine ⟨?_, e1, e2⟩
  simp only [isH, e1, e2, decide_eq_true_eq]
  omega
/-- What is split is made again. -/
theorem made_split (k : isH h = true) : mkP (slotOf h) (genOf h) = true ∧ mkV (slotOf h) (genOf h) = h := by
  obtain ⟨h1, h2, h3⟩ := isH_of k
  have hb := slotOf_bd (h := h)
  have e : h - 1099511627776 = slotOf h + genOf h * 1048576 := by unfold slotOf genOf; omega
  have hg0 : 0 ≤ genOf h := by unfold genOf; omega
  have kp : mkP (slotOf h) (genOf h) = true := mkP_true ⟨by omega, by omega, hg0, by omega⟩
  exact ⟨kp, by rw [mkV_ok kp]; omega⟩
theorem made_bd (k : mkP s g = true) : 1099511627776 ≤ mkV s g ∧ mkV s g ≤ 1100560203839 := by
  obtain ⟨h1, h2, h3, h4⟩ := mkP_of k
  rw [mkV_ok k]
  omega
theorem made_inj {s' g' : Int} (k : mkP s g = true) (k' : mkP s' g' = true) : (mkV s g = mkV s' g') ↔ (s = s' ∧ g = g') := by
  obtain ⟨h1, h2, h3, h4⟩ := mkP_of k
  obtain ⟨h1', h2', h3', h4'⟩ := mkP_of k'
  rw [mkV_ok k, mkV_ok k']
  omega
theorem rounded (k : rdB n = true) : n ≤ rdV n ∧ rdV n < n + 8 ∧ rdV n % 8 = 0 ∧ rdB (rdV n) = true ∧ rdV (rdV n) = rdV n := by
  obtain ⟨h1, h2⟩ := rdB_of k
  have e := rdV_ok k
  have hb : 1 ≤ rdV n ∧ rdV n ≤ 256 := by omega
  refine ⟨by omega, by omega, by omega, rdB_true hb, ?_⟩
  rw [rdV_ok (rdB_true hb)]
  omega
end
end Go.Proofs.YtfomephgallpmaaDoor
