/-
  What the document's own functions answer for layer 3.
  Conditions: none.
-/
import Derived.Test.YtfomephgallpmaaDoorProg
import Derived.Test.YtfomephgallpmaaDoorLater
import Derived.Test.YtfomephgallpmaaDoorHandleMath
import Derived.WalkSpells
import Derived.WalkLawsBesides
import Derived.Lib.Hide
import Derived.BigQuiet
import Derived.LoopTactic
namespace Go.Proofs.YtfomephgallpmaaDoor
open Go.RowKit
attribute [local go_sem] Later.cell Later.frozen Later.lt Later.le

theorem ret_two {k : IntKind} {a b c d : Int} (h : a = b) (h' : c = d) : Ending.returned (.tuple #[.int k a, .int k c]) = .returned (.tuple #[.int k b, .int k d]) := by rw [h, h']
theorem ret_three {k : IntKind} {a b c d e f : Int} (h : a = b) (h' : c = d) (h'' : e = f) : Ending.returned (.tuple #[.int k a, .int k c, .int k e]) = .returned (.tuple #[.int k b, .int k d, .int k f]) := by rw [h, h', h'']
theorem ret_split {k : IntKind} {a b c d : Int} {e f : Bool} (h : a = b) (h' : c = d) (h'' : e = f) : Ending.returned (.tuple #[.int k a, .int k c, .bool e]) = .returned (.tuple #[.int k b, .int k d, .bool f]) := by rw [h, h', h'']

/-- No generation below k is the number's. -/
def NotYet (h k : Int) : Prop := isH h = true → k ≤ genOf h
theorem here {h k : Int} (k0 : 0 ≤ k) (k1 : k ≤ 1000) (a : k * 1048576 + 1099511627776 ≤ h) (b : h ≤ k * 1048576 + 1099511627776 + 63) : isH h = true ∧ slotOf h = h - (k * 1048576 + 1099511627776) ∧ genOf h = k := by
  have e1 : slotOf h = h - (k * 1048576 + 1099511627776) := by unfold slotOf; omega
  have e2 : genOf h = k := by unfold genOf; omega
  refine ⟨?_, e1, e2⟩
  simp only [isH, e1, e2, decide_eq_true_eq]
  omega
theorem not_here {h k : Int} (hn : NotYet h k) (c : ¬ (k * 1048576 + 1099511627776 ≤ h ∧ h ≤ k * 1048576 + 1099511627776 + 63)) : NotYet h (k + 1) := fun hi => by
  have h1 := hn hi
  obtain ⟨a, b, d⟩ := isH_of hi
  by_cases e : genOf h = k
  · exfalso
    apply c
    unfold slotOf at b
    unfold genOf at e
    omega
  · omega
theorem never {h : Int} (hn : NotYet h 1001) : isH h = false := by
  cases hi : isH h
  · rfl
  · have := hn hi
    have := (isH_of hi).2.2
    omega

end Go.Proofs.YtfomephgallpmaaDoor
