/-
  Rows of numbers that a call makes of its own by append; two of them held against each other.
  Conditions: none; plain lemmas over the library's own notions. (XOwned without the plain cells.)
-/
import Derived.Test.YtlcegnehlhakdaaLater
import Derived.Test.YtlcegnehlhakdaaProg
import Derived.OwnWalk
import Derived.WalkKit
import Derived.WalkSpells
import Derived.WalkLawsBesides
import Derived.Lib.Hide
import Derived.LoopTactic
import Derived.BigQuiet
namespace Go.Proofs.Ytlcegnehlhakdaa
open Go.RowKit
attribute [local go_sem] Later.cell Later.frozen Later.lt Later.le
set_option linter.unusedVariables false

/-- The value owns these numbers, in a block from base on. -/
def Ints (w : World) (base : Nat) (v : Value) (l : List Int) : Prop := w.ownsRow base 3 1 v l.length (l.map (Value.int .i64))

theorem info_num : (Try.prog.info? 3).map (fun i => (i.zero, i.size, i.bytes)) = some (some (.int .i64 0), 1, 8) := by kernel_rfl

theorem Ints.nil (w : World) (base : Nat) : Ints w base (.slice Option.none 0 0) [] := World.ownsRow_nil _ _ _ _
theorem Ints.later {w : World} {base : Nat} {v : Value} {l : List Int} (h : Ints w base v l) (x : Later w) : Ints x.at' base v l :=
  World.ownsRow.kept h (row := Option.none) ⟨x.below.os, x.below.tape, x.below.output, x.below.size, fun k hk _ => x.below.block k hk⟩ (by cases v.ownBlock <;> simp)
theorem Ints.alloc {w : World} {base : Nat} {v : Value} {l : List Int} (h : Ints w base v l) (o : Obj) : Ints (w.alloc o) base v l := World.ownsRow.alloc h o
theorem Ints.mono {w : World} {base b' : Nat} {v : Value} {l : List Int} (h : Ints w base v l) (hb : b' ≤ base) : Ints w b' v l := by
  refine ⟨h.1, ?_⟩
  rcases h.2 with hn | ⟨g, cap, cur, hv, hg, r⟩
  · exact .inl hn
  · exact .inr ⟨g, cap, cur, hv, Nat.le_trans hb hg, r⟩
/-- What the value looks like, with any number or none. -/
theorem Ints.shape {w : World} {base : Nat} {v : Value} {l : List Int} (h : Ints w base v l) :
    ∃ p c, v = .slice p l.length c ∧ ∀ j, j < l.length → ∃ g, p = some ⟨g, 0, none⟩ ∧ base ≤ g ∧ g < w.heap.size ∧ w.cell? ⟨g, j, none⟩ = some (.int .i64 (l.getD j 0)) := by
  have h' := h
  rcases h.2 with ⟨hv, h0⟩ | ⟨g, cap, cur, rfl, hg, hh, _, _, _, _⟩
  · exact ⟨none, 0, by rw [hv, h0], fun j hj => by omega⟩
  · refine ⟨_, cap, rfl, fun j hj => ⟨g, rfl, hg, (Array.getElem?_eq_some_iff.1 hh).1, ?_⟩⟩
    have := World.ownsRow.cells h' (g := g) rfl j (.int .i64 (l.getD j 0)) (by simp [hj])
    rwa [Addr.add_lit, Nat.zero_add] at this
theorem Ints.more {w : World} {base k : Nat} {v : Value} {l : List Int} {x : Int} (h : w.ownsRow base 3 1 v (k + 1) (l.map (Value.int .i64) ++ [Value.int .i64 x])) (hl : l.length = k) : Ints w base v (l ++ [x]) := by
  unfold Ints
  rw [List.length_append, List.map_append, hl]
  exact h
theorem grown_late {V w4 : World} {l : List Int} {p : Int} {v v' : Value} {o : Obj} (X : Later V) (hown : Ints X.at' V.heap.size v l) (hg : (X.at'.alloc o).grownBy w4 v.ownBlock)
    (hO : w4.ownsRow V.heap.size 3 1 v' (l.length + 1) (l.map (Value.int .i64) ++ [Value.int .i64 p])) : ∃ y : Later V, w4 = y.at' ∧ Ints y.at' V.heap.size v' (l ++ [p]) := by
  have hr : ∀ k, v.ownBlock = some k → V.heap.size ≤ k := fun k hk => (World.ownsRow.lt hown k hk).1
  exact ⟨⟨w4, (X.below.alloc X.below.size o).grown hg (by have := X.below.size; simp; omega) hr⟩, rfl, Ints.more hO rfl⟩
/-- What a call answers that makes a row of numbers. -/
def IntsRet (w : World) (l : List Int) (en : Ending) (w' : World) : Prop := ∃ v, en = .returned v ∧ ∃ y : Later w, w' = y.at' ∧ Ints y.at' w.heap.size v l
end Go.Proofs.Ytlcegnehlhakdaa
