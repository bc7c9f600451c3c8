/-
  Memory that a call may turn within a span of block numbers; nothing else of what was there has turned.
  Conditions: none; plain lemmas over the library's own notions.
-/
import Derived.WalkKit
import Derived.Deep.Quiet
import Derived.Deep.Heap
import Derived.Test.YtfomephgallpmaaDoorLater
namespace Go.Proofs.YtfomephgallpmaaDoor
open Go.RowKit

/-- Of what was there nothing has turned but in the blocks from lo up to hi. -/
structure Touch (lo hi : Nat) (w w' : World) : Prop where
  os : w'.os = w.os
  tape : w'.tape = w.tape
  output : w'.output = w.output
  size : w.heap.size ≤ w'.heap.size
  block : ∀ k, k < w.heap.size → (k < lo ∨ hi ≤ k) → w'.heap[k]? = w.heap[k]?

namespace Touch
variable {lo hi : Nat} {w w' w'' : World}
theorem refl (lo hi : Nat) (w : World) : Touch lo hi w w := ⟨rfl, rfl, rfl, Nat.le_refl _, fun _ _ _ => rfl⟩
theorem trans (h : Touch lo hi w w') (k : Touch lo hi w' w'') : Touch lo hi w w'' :=
  ⟨k.os.trans h.os, k.tape.trans h.tape, k.output.trans h.output, Nat.le_trans h.size k.size, fun i hi hs => (k.block i (Nat.lt_of_lt_of_le hi h.size) hs).trans (h.block i hi hs)⟩
theorem of_below (h : Below w.heap.size w w') : Touch lo hi w w' := ⟨h.os, h.tape, h.output, h.size, fun k hk _ => h.block k hk⟩
theorem alloc (h : Touch lo hi w w') (o : Obj) : Touch lo hi w (w'.alloc o) := h.trans (of_below ((Below.refl _ _).alloc (Nat.le_refl _) _))
theorem drew (h : Touch lo hi w w') : Touch lo hi w w'.drew := ⟨h.os, h.tape, h.output, h.size, h.block⟩
/-- A store within the span. -/
theorem setCell (h : Touch lo hi w w') (a : Addr) (u : Value) (h1 : lo ≤ a.block) (h2 : a.block < hi) : Touch lo hi w (w'.setCell a u) :=
  h.trans ⟨rfl, rfl, rfl, by simp, fun k _ hs => by rw [Go.Deep.blk_setCell_other]; omega⟩
/-- A store into a block that was not there. -/
theorem setNew (h : Touch lo hi w w') (a : Addr) (u : Value) (h1 : w.heap.size ≤ a.block) : Touch lo hi w (w'.setCell a u) :=
  ⟨h.os, h.tape, h.output, by simpa using h.size, fun k hk hs => by rw [Go.Deep.blk_setCell_other _ _ _ _ (by omega)]; exact h.block k hk hs⟩
/-- Seen from a base below the span. -/
theorem below {B : Nat} {v : World} (h : Touch lo hi w w') (hv : Below B v w) (hB : B ≤ lo) (hs : B ≤ w.heap.size) : Below B v w' :=
  hv.trans ⟨h.os, h.tape, h.output, h.size, fun k hk => h.block k (by omega) (Or.inl (by omega))⟩
theorem cell (h : Touch lo hi w w') (b o : Nat) (k : Option Nat) (hb : b < w.heap.size) (hs : b < lo ∨ hi ≤ b) : w'.cell? ⟨b, o, k⟩ = w.cell? ⟨b, o, k⟩ := World.cell?_of_block (w := w) (h.block b hb hs)
theorem frozen (h : Touch lo hi w w') (b o : Nat) (k : Option Nat) (hb : b < w.heap.size) (hs : b < lo ∨ hi ≤ b) : w'.frozen? ⟨b, o, k⟩ = w.frozen? ⟨b, o, k⟩ := World.frozen?_of_block (w := w) (h.block b hb hs)
end Touch

/-- A world in which nothing that w had has turned but in a span of blocks. -/
structure Turned (lo hi : Nat) (w : World) where
  at' : World
  turn : Touch lo hi w at'

instance (lo hi : Nat) (w : World) : Nonempty (Turned lo hi w) := ⟨⟨w, Touch.refl _ _ _⟩⟩

namespace Turned
variable {lo hi : Nat} {w : World}
theorem cell_lo (x : Turned lo hi w) (b o : Nat) (k : Option Nat) (h : b < w.heap.size) (hs : b < lo) : x.at'.cell? ⟨b, o, k⟩ = w.cell? ⟨b, o, k⟩ := x.turn.cell b o k h (Or.inl hs)
theorem cell_hi (x : Turned lo hi w) (b o : Nat) (k : Option Nat) (h : b < w.heap.size) (hs : hi ≤ b) : x.at'.cell? ⟨b, o, k⟩ = w.cell? ⟨b, o, k⟩ := x.turn.cell b o k h (Or.inr hs)
theorem frozen_lo (x : Turned lo hi w) (b o : Nat) (k : Option Nat) (h : b < w.heap.size) (hs : b < lo) : x.at'.frozen? ⟨b, o, k⟩ = w.frozen? ⟨b, o, k⟩ := x.turn.frozen b o k h (Or.inl hs)
theorem frozen_hi (x : Turned lo hi w) (b o : Nat) (k : Option Nat) (h : b < w.heap.size) (hs : hi ≤ b) : x.at'.frozen? ⟨b, o, k⟩ = w.frozen? ⟨b, o, k⟩ := x.turn.frozen b o k h (Or.inr hs)
theorem lt (x : Turned lo hi w) (b : Nat) (h : b < w.heap.size) : b < x.at'.heap.size := Nat.lt_of_lt_of_le h x.turn.size
theorem le (x : Turned lo hi w) (b : Nat) (h : b ≤ w.heap.size) : b ≤ x.at'.heap.size := Nat.le_trans h x.turn.size
/-- The world itself. -/
def none (lo hi : Nat) (w : World) : Turned lo hi w := ⟨w, Touch.refl _ _ _⟩
/-- Each turned world of a turned one. -/
def on (x : Turned lo hi w) {w' : World} (h : Touch lo hi x.at' w') : Turned lo hi w := ⟨w', x.turn.trans h⟩
/-- A later world of a turned one. -/
def late (x : Turned lo hi w) (y : Later x.at') : Turned lo hi w := ⟨y.at', x.turn.trans (Touch.of_below y.below)⟩
end Turned

/-- A contract that turns nothing, met in a turned world. -/
theorem turned_of {P : Program} {f : FuncId} {args : Array Value} {lo hi : Nat} {w : World} {v : Value} (x : Turned lo hi w) (h : Calls P f args x.at' (Ret x.at' v)) :
    Calls P f args x.at' fun e w'' => e = .returned v ∧ ∃ y : Turned lo hi w, w'' = y.at' :=
  h.mono fun _ _ ⟨he, y, hy⟩ => ⟨he, x.late y, by rw [hy]; rfl⟩
end Go.Proofs.YtfomephgallpmaaDoor
