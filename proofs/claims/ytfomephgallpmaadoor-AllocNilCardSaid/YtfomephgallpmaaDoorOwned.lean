/-
  Rows of numbers that a call makes of its own by append, beside plain cells; two of them held against each other.
  Conditions: none; plain lemmas over the library's own notions.
-/
import Derived.Test.YtfomephgallpmaaDoorPlainMem
import Derived.Test.YtfomephgallpmaaDoorProg
import Derived.OwnWalk
import Derived.WalkSpells
import Derived.WalkLawsBesides
import Derived.Lib.Hide
import Derived.LoopTactic
import Derived.BigQuiet
namespace Go.Proofs.YtfomephgallpmaaDoor
open Go.RowKit
attribute [local go_sem] Later.cell Later.frozen Later.lt Later.le
set_option linter.unusedVariables false

/-- The value owns these numbers, in a block from base on. -/
def Ints (w : World) (base : Nat) (v : Value) (l : List Int) : Prop := w.ownsRow base 3 1 v l.length (l.map (Value.int .i64))

theorem info_num : (Tryd.prog.info? 3).map (fun i => (i.zero, i.size, i.bytes)) = some (some (.int .i64 0), 1, 8) := by kernel_rfl

theorem Ints.nil (w : World) (base : Nat) : Ints w base (.slice Option.none 0 0) [] := World.ownsRow_nil _ _ _ _
theorem Ints.later {w : World} {base : Nat} {v : Value} {l : List Int} (h : Ints w base v l) (x : Later w) : Ints x.at' base v l :=
  World.ownsRow.kept h (row := Option.none) ⟨x.below.os, x.below.tape, x.below.output, x.below.size, fun k hk _ => x.below.block k hk⟩ (by cases v.ownBlock <;> simp)
theorem Ints.alloc {w : World} {base : Nat} {v : Value} {l : List Int} (h : Ints w base v l) (o : Obj) : Ints (w.alloc o) base v l := World.ownsRow.alloc h o
theorem Ints.touch {w w' : World} {lo hi base : Nat} {v : Value} {l : List Int} (h : Ints w base v l) (t : Touch lo hi w w') (hb : hi ≤ base) : Ints w' base v l := by
  refine ⟨h.1, ?_⟩
  rcases h.2 with hn | ⟨g, cap, cur, hv, hg, hh, r⟩
  · exact .inl hn
  · have hlt : g < w.heap.size := (Array.getElem?_eq_some_iff.1 hh).1
    exact .inr ⟨g, cap, cur, hv, hg, (t.block g hlt (by omega)).trans hh, r⟩
/-- Its block, if it has any number. -/
theorem Ints.open' {w : World} {base : Nat} {v : Value} {l : List Int} (h : Ints w base v l) (hl : l ≠ []) :
    ∃ g cap, v = .slice (some ⟨g, 0, none⟩) l.length cap ∧ base ≤ g ∧ g < w.heap.size ∧ ∀ j, j < l.length → w.cell? ⟨g, j, none⟩ = some (.int .i64 (l.getD j 0)) := by
  have h' := h
  rcases h.2 with ⟨_, h0⟩ | ⟨g, cap, cur, rfl, hg, hh, _, _, _, _⟩
  · exact absurd (List.eq_nil_of_length_eq_zero h0) hl
  · refine ⟨g, cap, rfl, hg, (Array.getElem?_eq_some_iff.1 hh).1, fun j hj => ?_⟩
    have := World.ownsRow.cells h' (g := g) rfl j (.int .i64 (l.getD j 0)) (by simp [hj])
    rwa [Addr.add_lit, Nat.zero_add] at this
theorem Touch.grown {lo hi : Nat} {w w' w'' : World} {row : Option Nat} (h : Touch lo hi w w') (hg : w'.grownBy w'' row) (hr : ∀ k, row = some k → w.heap.size ≤ k) : Touch lo hi w w'' :=
  ⟨hg.os.trans h.os, hg.tape.trans h.tape, hg.output.trans h.output, Nat.le_trans h.size hg.size, fun k hk hs => (hg.block k (Nat.lt_of_lt_of_le hk h.size) (fun e => by have := hr k e.symm; omega)).trans (h.block k hk hs)⟩
theorem Mem.grown {w w' : World} {A : PAt} {ws bs : List Int} {n : Int} {row : Option Nat} (h : Mem w A ws bs n) (hg : w.grownBy w' row) (hr : ∀ k, row = some k → A.hi ≤ k) : Mem w' A ws bs n :=
  h.of_blocks hg.size fun k hk h1 h2 => hg.block k hk (fun e => by have := hr k e.symm; omega)

end Go.Proofs.YtfomephgallpmaaDoor
