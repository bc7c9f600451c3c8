/-
  Objects that lie in blocks of their own, cell by cell; worlds in which nothing has turned but what stands in a set of blocks.
  Conditions: none; plain lemmas over the library's own notions.
-/
import Derived.Test.YtfomephgallpmaaDoorPlainMem
namespace Go.Proofs.YtfomephgallpmaaDoor
open Go.RowKit

/-- Of what was there nothing has turned but blocks of S. -/
structure Moved (S : Nat → Prop) (w w' : World) : Prop where
  os : w'.os = w.os
  tape : w'.tape = w.tape
  output : w'.output = w.output
  size : w.heap.size ≤ w'.heap.size
  block : ∀ k, k < w.heap.size → ¬ S k → w'.heap[k]? = w.heap[k]?

namespace Moved
variable {S S' : Nat → Prop} {w w' w'' : World}
theorem refl (S : Nat → Prop) (w : World) : Moved S w w := ⟨rfl, rfl, rfl, Nat.le_refl _, fun _ _ _ => rfl⟩
theorem trans (h : Moved S w w') (k : Moved S w' w'') : Moved S w w'' :=
  ⟨k.os.trans h.os, k.tape.trans h.tape, k.output.trans h.output, Nat.le_trans h.size k.size, fun i hi hs => (k.block i (Nat.lt_of_lt_of_le hi h.size) hs).trans (h.block i hi hs)⟩
theorem of_below (h : Below w.heap.size w w') : Moved S w w' := ⟨h.os, h.tape, h.output, h.size, fun k hk _ => h.block k hk⟩
theorem later (h : Moved S w w') (x : Later w') : Moved S w x.at' := h.trans (of_below x.below)
theorem alloc (h : Moved S w w') (o : Obj) : Moved S w (w'.alloc o) := h.trans (of_below ((Below.refl _ _).alloc (Nat.le_refl _) _))
theorem drew (h : Moved S w w') : Moved S w w'.drew := ⟨h.os, h.tape, h.output, h.size, h.block⟩
theorem of_touch {lo hi : Nat} (h : Touch lo hi w w') (hS : ∀ b, lo ≤ b → b < hi → S b) : Moved S w w' :=
  ⟨h.os, h.tape, h.output, h.size, fun k hk hs => h.block k hk (by
    by_cases h1 : lo ≤ k
    · by_cases h2 : k < hi
      · exact absurd (hS k h1 h2) hs
      · exact Or.inr (by omega)
    · exact Or.inl (by omega))⟩
theorem touch {lo hi : Nat} (h : Moved S w w') (t : Touch lo hi w' w'') (hS : ∀ b, lo ≤ b → b < hi → S b) : Moved S w w'' := h.trans (of_touch t hS)
/-- A store within the set. -/
theorem setCell (h : Moved S w w') (a : Addr) (u : Value) (hS : S a.block) : Moved S w (w'.setCell a u) :=
  h.trans ⟨rfl, rfl, rfl, by simp, fun k _ hs => by rw [Go.Deep.blk_setCell_other]; intro e; exact hs (e ▸ hS)⟩
/-- A store into a block that was not there. -/
theorem setNew (h : Moved S w w') (a : Addr) (u : Value) (h1 : w.heap.size ≤ a.block) : Moved S w (w'.setCell a u) :=
  ⟨h.os, h.tape, h.output, by simpa using h.size, fun k hk hs => by rw [Go.Deep.blk_setCell_other _ _ _ _ (by omega)]; exact h.block k hk hs⟩
/-- A set in the place of one whose blocks that were there it holds. -/
theorem mono (h : Moved S w w') (hS : ∀ b, b < w.heap.size → S b → S' b) : Moved S' w w' :=
  ⟨h.os, h.tape, h.output, h.size, fun k hk hs => h.block k hk fun c => hs (hS k hk c)⟩
theorem cell (h : Moved S w w') (b o : Nat) (k : Option Nat) (hb : b < w.heap.size) (hs : ¬ S b) : w'.cell? ⟨b, o, k⟩ = w.cell? ⟨b, o, k⟩ := World.cell?_of_block (w := w) (h.block b hb hs)
theorem frozen (h : Moved S w w') (b o : Nat) (k : Option Nat) (hb : b < w.heap.size) (hs : ¬ S b) : w'.frozen? ⟨b, o, k⟩ = w.frozen? ⟨b, o, k⟩ := World.frozen?_of_block (w := w) (h.block b hb hs)
/-- Seen from a base below the set. -/
theorem below {B : Nat} {v : World} (h : Moved S w w') (hv : Below B v w) (hB : B ≤ w.heap.size) (hs : ∀ b, b < B → ¬ S b) : Below B v w' :=
  hv.trans ⟨h.os, h.tape, h.output, h.size, fun k hk => h.block k (by omega) (hs k hk)⟩
end Moved

theorem Mem.moved {S : Nat → Prop} {w w' : World} {A : PAt} {ws bs : List Int} {n : Int} (h : Mem w A ws bs n) (m : Moved S w w') (hS : ∀ b, A.lo ≤ b → b < A.hi → ¬ S b) : Mem w' A ws bs n :=
  h.of_blocks m.size fun k hk h1 h2 => m.block k hk (hS k h1 h2)

/-- Block k holds these values, cell by cell. -/
structure Fs (w : World) (k : Nat) (l : List Value) : Prop where
  cell : ∀ i (h : i < l.length), w.cell? ⟨k, i, none⟩ = some l[i]
  fz : ∀ i, w.frozen? ⟨k, i, none⟩ = false
  lt : k < w.heap.size

namespace Fs
variable {S : Nat → Prop} {w w' : World} {k : Nat} {l : List Value}
theorem of_block (h : Fs w k l) (hz : w.heap.size ≤ w'.heap.size) (hb : w'.heap[k]? = w.heap[k]?) : Fs w' k l :=
  ⟨fun i hi => (World.cell?_of_block (w := w) hb).trans (h.cell i hi), fun i => (World.frozen?_of_block (w := w) hb).trans (h.fz i), Nat.lt_of_lt_of_le h.lt hz⟩
theorem moved (h : Fs w k l) (m : Moved S w w') (hS : ¬ S k) : Fs w' k l := h.of_block m.size (m.block k h.lt hS)
theorem touch {lo hi : Nat} (h : Fs w k l) (t : Touch lo hi w w') (hs : k < lo ∨ hi ≤ k) : Fs w' k l := h.of_block t.size (t.block k h.lt hs)
theorem below {B : Nat} (h : Fs w k l) (hb : Below B w w') (hB : k < B) : Fs w' k l := h.of_block hb.size (hb.block k hB)
theorem later (h : Fs w k l) (x : Later w) : Fs x.at' k l := h.below x.below h.lt
theorem alloc (h : Fs w k l) (o : Obj) : Fs (w.alloc o) k l := h.below ((Below.refl _ _).alloc (Nat.le_refl _) _) h.lt
theorem drew (h : Fs w k l) : Fs w.drew k l := h.of_block (Nat.le_refl _) rfl
theorem other (h : Fs w k l) (a : Addr) (u : Value) (ha : a.block ≠ k) : Fs (w.setCell a u) k l := h.of_block (by simp) (Go.Deep.blk_setCell_other _ _ _ _ (Ne.symm ha))
theorem set (h : Fs w k l) (i : Nat) (hi : i < l.length) (u : Value) : Fs (w.setCell ⟨k, i, none⟩ u) k (l.set i u) :=
  { cell := fun j hj => by
      by_cases e : j = i
      · subst e
        rw [World.cell?_setCell_same _ _ _ (h.cell j hi)]
        simp
      · rw [World.cell?_setCell_other _ _ _ _ (by simp), h.cell j (by simpa using hj)]
        simp [Ne.symm e]
    fz := fun j => by simp [h.fz j]
    lt := by simpa using h.lt }
theorem new (w : World) (cs : Array Value) (T : TypeId) : Fs (w.alloc (.cells cs T)) w.heap.size cs.toList :=
  ⟨fun i hi => by rw [World.cell?_alloc_new]; simp, fun i => by rw [World.frozen?_alloc_new], by simp⟩
theorem new' {n : Nat} (cs : Array Value) (T : TypeId) (hn : n = w.heap.size) (hl : l = cs.toList) : Fs (w.alloc (.cells cs T)) n l := by subst hn hl; exact new w cs T
end Fs

/-- A box: a block of one cell, or of some, read at a place. -/
theorem Fs.at' {w : World} {k : Nat} {l : List Value} {v : Value} (h : Fs w k l) (i : Nat) (hv : l[i]? = some v) : w.cell? ⟨k, i, none⟩ = some v := by
  obtain ⟨hi, e⟩ := List.getElem?_eq_some_iff.1 hv
  rw [h.cell i hi, e]
end Go.Proofs.YtfomephgallpmaaDoor
