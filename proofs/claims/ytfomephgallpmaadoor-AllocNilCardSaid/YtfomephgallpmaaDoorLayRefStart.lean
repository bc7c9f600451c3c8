/-
  The document's own Start of layer 6: the words that it tells.
  Conditions: that the config may be.
-/
import Derived.Test.YtfomephgallpmaaDoorLayRef
import Derived.Deep.OwnRows
import Derived.OwnWalk
namespace Go.Proofs.YtfomephgallpmaaDoor
open Go.RowKit
attribute [local go_sem] Later.cell Later.frozen Later.lt Later.le
set_option linter.unusedVariables false

theorem info_int' : (Tryd.prog.info? 3).map (fun i => (i.zero, i.size, i.bytes)) = some (some (.int .i64 0), 1, 8) := by kernel_rfl

/-- What a call answers that makes a row of numbers, and turns nothing that was there. -/
def RowRet (w : World) (n : Nat) (f : Nat → Int) (e : Ending) (w' : World) : Prop :=
  ∃ g : Nat, e = .returned (.slice (some ⟨g, 0, none⟩) n n) ∧ w.heap.size ≤ g ∧ ∃ x : Later w, w' = x.at' ∧ x.at'.rowIs g 3 n (fun j => .int .i64 (f j))

/-- The links of the first k slots are laid. -/
def rsV (t s k : Int) (j : Nat) : Int := if ((j : Int) - 6 - t) % 3 = 0 ∧ 0 ≤ ((j : Int) - 6 - t) / 3 ∧ ((j : Int) - 6 - t) / 3 < k ∧ ((j : Int) - 6 - t) / 3 + 1 < s then ((j : Int) - 6 - t) / 3 + 2 else 0
theorem rsV_zero (t s : Int) (j : Nat) : rsV t s 0 j = 0 := if_neg (by omega)
theorem rsV_next {t s k : Int} {j : Nat} (h0 : 0 ≤ k) (h1 : k + 1 < s) : rsV t s (k + 1) j = if (j : Int) = 4 + t + k * 3 + 2 then k + 2 else rsV t s k j := by
  unfold rsV
  by_cases hx : (j : Int) = 4 + t + k * 3 + 2
  · rw [if_pos hx, if_pos (by omega)]; omega
  · rw [if_neg hx]
    by_cases hc : ((j : Int) - 6 - t) % 3 = 0 ∧ 0 ≤ ((j : Int) - 6 - t) / 3 ∧ ((j : Int) - 6 - t) / 3 < k ∧ ((j : Int) - 6 - t) / 3 + 1 < s
    · rw [if_pos hc, if_pos (by omega)]
    · rw [if_neg hc, if_neg (by omega)]
theorem rsV_last {t s k : Int} {j : Nat} (h1 : ¬ k + 1 < s) : rsV t s (k + 1) j = rsV t s k j := by
  unfold rsV
  by_cases hc : ((j : Int) - 6 - t) % 3 = 0 ∧ 0 ≤ ((j : Int) - 6 - t) / 3 ∧ ((j : Int) - 6 - t) / 3 < k ∧ ((j : Int) - 6 - t) / 3 + 1 < s
  · rw [if_pos hc, if_pos (by omega)]
  · rw [if_neg hc, if_neg (by omega)]
/-- All words, as the document tells them. -/
def rsF (t s : Int) (j : Nat) : Int := if j = 1 then 1 else rsV t s s j

/-- The loop's relation. -/
def RsRel (w1 : World) (g n : Nat) (t s : Int) (u : Value) (wr : World) : Prop :=
  ∃ k : Nat, (k : Int) ≤ s ∧ u = .int .i64 k ∧ Below w1.heap.size w1 wr ∧ wr.rowIs g 3 n (fun j => .int .i64 (rsV t s k j))

end Go.Proofs.YtfomephgallpmaaDoor
