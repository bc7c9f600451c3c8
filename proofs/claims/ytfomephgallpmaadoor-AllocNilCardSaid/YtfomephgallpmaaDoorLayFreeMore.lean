/-
  Behind an append of one number to an own row, beside plain cells or without them.
  Conditions: none; plain lemmas over the library's own notions.
-/
import Derived.Test.YtfomephgallpmaaDoorLayStartsMath
import Derived.Test.YtfomephgallpmaaDoorOwned
namespace Go.Proofs.YtfomephgallpmaaDoor
open Go.RowKit
set_option linter.unusedVariables false

/-- The first k numbers. -/
def upto (k : Nat) : List Int := (List.range k).map Int.ofNat
theorem upto_len (k : Nat) : (upto k).length = k := by simp [upto]
theorem upto_succ (k : Nat) : upto (k + 1) = upto k ++ [(k : Int)] := by simp [upto, List.range_succ]
theorem Ints.more {w : World} {base k : Nat} {v : Value} {l : List Int} {x : Int} (h : w.ownsRow base 3 1 v (k + 1) (l.map (Value.int .i64) ++ [Value.int .i64 x])) (hl : l.length = k) : Ints w base v (l ++ [x]) := by
  unfold Ints
  rw [List.length_append, List.map_append, hl]
  exact h

/-- Behind an append of one number, beside plain cells. -/
theorem grown_turn {A : PAt} {V w4 : World} {ws bs l : List Int} {n p : Int} {v v' : Value} {o : Obj} (X : Turned A.lo A.hi V) (hM : Mem X.at' A ws bs n) (hown : Ints X.at' V.heap.size v l) (hA : A.hi ≤ V.heap.size) (hg : (X.at'.alloc o).grownBy w4 v.ownBlock)
    (hO : w4.ownsRow V.heap.size 3 1 v' (l.length + 1) (l.map (Value.int .i64) ++ [Value.int .i64 p])) : ∃ y : Turned A.lo A.hi V, w4 = y.at' ∧ Mem y.at' A ws bs n ∧ Ints y.at' V.heap.size v' (l ++ [p]) := by
  have hr : ∀ k, v.ownBlock = some k → V.heap.size ≤ k := fun k hk => (World.ownsRow.lt hown k hk).1
  exact ⟨⟨w4, (X.turn.alloc o).grown hg hr⟩, rfl, (hM.alloc o).grown hg (fun k hk => Nat.le_trans hA (hr k hk)), Ints.more hO rfl⟩
/-- The same where there are none. -/
theorem grown_late {V w4 : World} {l : List Int} {p : Int} {v v' : Value} {o : Obj} (X : Later V) (hown : Ints X.at' V.heap.size v l) (hg : (X.at'.alloc o).grownBy w4 v.ownBlock)
    (hO : w4.ownsRow V.heap.size 3 1 v' (l.length + 1) (l.map (Value.int .i64) ++ [Value.int .i64 p])) : ∃ y : Later V, w4 = y.at' ∧ Ints y.at' V.heap.size v' (l ++ [p]) := by
  have hr : ∀ k, v.ownBlock = some k → V.heap.size ≤ k := fun k hk => (World.ownsRow.lt hown k hk).1
  exact ⟨⟨w4, (X.below.alloc X.below.size o).grown hg (by have := X.below.size; simp; omega) hr⟩, rfl, Ints.more hO rfl⟩

theorem HasHead.alloc {w : World} (h : HasHead w) (o : Obj) : HasHead (w.alloc o) := h.below ((Below.refl _ _).alloc (Nat.le_refl _) _)
end Go.Proofs.YtfomephgallpmaaDoor
