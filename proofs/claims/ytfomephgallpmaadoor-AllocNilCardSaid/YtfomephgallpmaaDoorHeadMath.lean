/-
  The plain arithmetic of heads and of notes.
  Conditions: none; statements over whole numbers and truth values.
-/
import Derived.WalkKit
namespace Go.Proofs.YtfomephgallpmaaDoor
open Go.RowKit

def topP (t : Int) : Bool := decide (0 ≤ t ∧ t ≤ 64)
def hpB (t g : Int) : Bool := decide (0 ≤ t ∧ t ≤ 64 ∧ 0 ≤ g ∧ g ≤ 4294967295)
def hpV (t g : Int) : Int := if hpB t g then t + g * 1048576 else 0
def hpE (t g : Int) : Int := if hpB t g then 0 else 1
def heB (w : Int) : Bool := decide (0 ≤ w ∧ w % 1048576 ≤ 64 ∧ w / 1048576 ≤ 4294967295)
def heT (w : Int) : Int := if heB w then w % 1048576 else 0
def heG (w : Int) : Int := if heB w then w / 1048576 else 0
def heE (w : Int) : Int := if heB w then 0 else 2
/-- The tag that comes next. -/
def nx (g : Int) : Int := (g + 1) % 4294967296
/-- What stands in the way of a Pop, of a Push. -/
def popE (w l : Int) : Int := if heB w then (if topP l then (if w % 1048576 == 0 then 11 else 0) else 1) else 2
def popV (w l : Int) : Int := if popE w l == 0 then l + nx (w / 1048576) * 1048576 else 0
def popS (w l : Int) : Int := if popE w l == 0 then w % 1048576 - 1 else 0
def slotP (s : Int) : Bool := decide (0 ≤ s ∧ s ≤ 63)
def pushE (w s : Int) : Int := if heB w then (if slotP s then 0 else 1) else 2
def pushV (w s : Int) : Int := if pushE w s == 0 then s + 1 + nx (w / 1048576) * 1048576 else 0
def pushL (w s : Int) : Int := if pushE w s == 0 then w % 1048576 else 0
def insB (w : Int) : Bool := decide (1 ≤ w)
def insV (w : Int) : Int := if insB w then w - 1 else 0
def oldB (w e : Int) : Bool := decide (1 ≤ w ∧ w - 1 < e)

section
variable {t g w l s e : Int}
theorem topP_of (k : topP t = true) : 0 ≤ t ∧ t ≤ 64 := by simpa [topP] using k
theorem topP_true (k : 0 ≤ t ∧ t ≤ 64) : topP t = true := by simpa [topP] using k
theorem topP_false (k : ¬ (0 ≤ t ∧ t ≤ 64)) : topP t = false := by simpa [topP] using k
theorem slotP_of (k : slotP t = true) : 0 ≤ t ∧ t ≤ 63 := by simpa [slotP] using k
theorem slotP_true (k : 0 ≤ t ∧ t ≤ 63) : slotP t = true := by simpa [slotP] using k
theorem slotP_false (k : ¬ (0 ≤ t ∧ t ≤ 63)) : slotP t = false := by simpa [slotP] using k
theorem hpB_of (k : hpB t g = true) : 0 ≤ t ∧ t ≤ 64 ∧ 0 ≤ g ∧ g ≤ 4294967295 := by simpa [hpB] using k
theorem hpB_true (k : 0 ≤ t ∧ t ≤ 64 ∧ 0 ≤ g ∧ g ≤ 4294967295) : hpB t g = true := by simpa [hpB] using k
theorem hpB_false (k : ¬ (0 ≤ t ∧ t ≤ 64 ∧ 0 ≤ g ∧ g ≤ 4294967295)) : hpB t g = false := by simpa [hpB] using k
theorem hpV_ok (k : hpB t g = true) : hpV t g = t + g * 1048576 := if_pos k
theorem hpE_ok (k : hpB t g = true) : hpE t g = 0 := if_pos k
theorem hpV_bad (k : hpB t g = false) : hpV t g = 0 := if_neg (by rw [k]; decide)
theorem hpE_bad (k : hpB t g = false) : hpE t g = 1 := if_neg (by rw [k]; decide)
theorem heB_of (k : heB w = true) : 0 ≤ w ∧ w % 1048576 ≤ 64 ∧ w / 1048576 ≤ 4294967295 := by simpa [heB] using k
theorem heB_true (k : 0 ≤ w ∧ w % 1048576 ≤ 64 ∧ w / 1048576 ≤ 4294967295) : heB w = true := by simpa [heB] using k
theorem heB_false (k : ¬ (0 ≤ w ∧ w % 1048576 ≤ 64 ∧ w / 1048576 ≤ 4294967295)) : heB w = false := by simpa [heB] using k
theorem heT_ok (k : heB w = true) : heT w = w % 1048576 := if_pos k
theorem heG_ok (k : heB w = true) : heG w = w / 1048576 := if_pos k
theorem heE_ok (k : heB w = true) : heE w = 0 := if_pos k
theorem heT_bad (k : heB w = false) : heT w = 0 := if_neg (by rw [k]; decide)
theorem heG_bad (k : heB w = false) : heG w = 0 := if_neg (by rw [k]; decide)
theorem heE_bad (k : heB w = false) : heE w = 2 := if_neg (by rw [k]; decide)
theorem nx_bd (g : Int) : 0 ≤ nx g ∧ nx g ≤ 4294967295 := by unfold nx; omega
theorem popE_form (k : heB w = false) : popE w l = 2 := if_neg (by rw [k]; decide)
theorem popE_arg (k : heB w = true) (j : topP l = false) : popE w l = 1 := by unfold popE; rw [if_pos k, if_neg (by rw [j]; decide)]
theorem popE_none (k : heB w = true) (j : topP l = true) (i : w % 1048576 = 0) : popE w l = 11 := by unfold popE; rw [if_pos k, if_pos j, if_pos (by simpa using i)]
theorem popE_ok (k : heB w = true) (j : topP l = true) (i : w % 1048576 ≠ 0) : popE w l = 0 := by unfold popE; rw [if_pos k, if_pos j, if_neg (by simpa using i)]
theorem popV_ok (k : popE w l = 0) : popV w l = l + nx (w / 1048576) * 1048576 := if_pos (by rw [k]; rfl)
theorem popS_ok (k : popE w l = 0) : popS w l = w % 1048576 - 1 := if_pos (by rw [k]; rfl)
theorem popV_bad (k : popE w l ≠ 0) : popV w l = 0 := if_neg (by simpa using k)
theorem popS_bad (k : popE w l ≠ 0) : popS w l = 0 := if_neg (by simpa using k)
theorem pushE_form (k : heB w = false) : pushE w s = 2 := if_neg (by rw [k]; decide)
theorem pushE_arg (k : heB w = true) (j : slotP s = false) : pushE w s = 1 := by unfold pushE; rw [if_pos k, if_neg (by rw [j]; decide)]
theorem pushE_ok (k : heB w = true) (j : slotP s = true) : pushE w s = 0 := by unfold pushE; rw [if_pos k, if_pos j]
theorem pushV_ok (k : pushE w s = 0) : pushV w s = s + 1 + nx (w / 1048576) * 1048576 := if_pos (by rw [k]; rfl)
theorem pushL_ok (k : pushE w s = 0) : pushL w s = w % 1048576 := if_pos (by rw [k]; rfl)
theorem pushV_bad (k : pushE w s ≠ 0) : pushV w s = 0 := if_neg (by simpa using k)
theorem pushL_bad (k : pushE w s ≠ 0) : pushL w s = 0 := if_neg (by simpa using k)
theorem insV_ok (k : 1 ≤ w) : insV w = w - 1 := if_pos (by simpa [insB] using k)
theorem insV_bad (k : ¬ 1 ≤ w) : insV w = 0 := if_neg (by simpa [insB] using k)
theorem insB_ok (k : 1 ≤ w) : insB w = true := by simpa [insB] using k
theorem insB_bad (k : ¬ 1 ≤ w) : insB w = false := by simpa [insB] using k
theorem oldB_true (k : 1 ≤ w ∧ w - 1 < e) : oldB w e = true := by simpa [oldB] using k
theorem oldB_false (k : ¬ (1 ≤ w ∧ w - 1 < e)) : oldB w e = false := by simpa [oldB] using k

/-- A word in its two parts. -/
theorem head_made (k : hpB t g = true) : heB (t + g * 1048576) = true ∧ (t + g * 1048576) % 1048576 = t ∧ (t + g * 1048576) / 1048576 = g := by
  obtain ⟨h1, h2, h3, h4⟩ := hpB_of k
  have e1 : (t + g * 1048576) % 1048576 = t := by omega
  have e2 : (t + g * 1048576) / 1048576 = g := by omega
  exact ⟨heB_true ⟨by omega, by omega, by omega⟩, e1, e2⟩
theorem head_split (k : heB w = true) : hpB (w % 1048576) (w / 1048576) = true ∧ w % 1048576 + w / 1048576 * 1048576 = w := by
  obtain ⟨h1, h2, h3⟩ := heB_of k
  exact ⟨hpB_true ⟨by omega, by omega, by omega, by omega⟩, by omega⟩
theorem hp_nx (k : 0 ≤ t ∧ t ≤ 64) (g : Int) : hpB t (nx g) = true := hpB_true ⟨k.1, k.2, (nx_bd g).1, (nx_bd g).2⟩
end
end Go.Proofs.YtfomephgallpmaaDoor
