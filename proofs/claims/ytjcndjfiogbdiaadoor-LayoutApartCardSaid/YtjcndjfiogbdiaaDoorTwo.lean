/-
  What is known all along of a world in which two variables lie.
  Conditions: none; plain lemmas.
-/
import Derived.Test.YtjcndjfiogbdiaaDoorLater
namespace Go.Proofs.YtjcndjfiogbdiaaDoor
open Go.RowKit
attribute [local go_sem] Later.cell Later.frozen Later.lt Later.le
set_option linter.unusedVariables false

/-- What is known all along of a world in which two variables lie. -/
structure Two (w : World) (b1 b2 : Nat) (w' : World) : Prop where
  bel : Below w.heap.size w w'
  s0 : w.heap.size ≤ b1
  s1 : b1 < w'.heap.size
  s2 : b2 < w'.heap.size

section
variable {w W : World} {b1 b2 : Nat} {e0 e1 e2 f0 f1 : Value}
theorem Two.later (h : W.cell? ⟨b1, 0, none⟩ = some e0 ∧ W.cell? ⟨b1, 1, none⟩ = some e1 ∧ W.cell? ⟨b1, 2, none⟩ = some e2 ∧ W.cell? ⟨b2, 0, none⟩ = some f0 ∧ W.cell? ⟨b2, 1, none⟩ = some f1 ∧ Two w b1 b2 W) (y : Later W) :
    y.at'.cell? ⟨b1, 0, none⟩ = some e0 ∧ y.at'.cell? ⟨b1, 1, none⟩ = some e1 ∧ y.at'.cell? ⟨b1, 2, none⟩ = some e2 ∧ y.at'.cell? ⟨b2, 0, none⟩ = some f0 ∧ y.at'.cell? ⟨b2, 1, none⟩ = some f1 ∧ Two w b1 b2 y.at' := by
  obtain ⟨h0, h1, h2, h3, h4, hh⟩ := h
  exact ⟨(y.cell _ _ _ hh.s1).trans h0, (y.cell _ _ _ hh.s1).trans h1, (y.cell _ _ _ hh.s1).trans h2, (y.cell _ _ _ hh.s2).trans h3, (y.cell _ _ _ hh.s2).trans h4,
    ⟨hh.bel.trans (y.below.mono hh.bel.size), hh.s0, y.lt _ hh.s1, y.lt _ hh.s2⟩⟩
theorem Two.alloc (h : W.cell? ⟨b1, 0, none⟩ = some e0 ∧ W.cell? ⟨b1, 1, none⟩ = some e1 ∧ W.cell? ⟨b1, 2, none⟩ = some e2 ∧ W.cell? ⟨b2, 0, none⟩ = some f0 ∧ W.cell? ⟨b2, 1, none⟩ = some f1 ∧ Two w b1 b2 W) (o : Obj) :
    (W.alloc o).cell? ⟨b1, 0, none⟩ = some e0 ∧ (W.alloc o).cell? ⟨b1, 1, none⟩ = some e1 ∧ (W.alloc o).cell? ⟨b1, 2, none⟩ = some e2 ∧ (W.alloc o).cell? ⟨b2, 0, none⟩ = some f0 ∧ (W.alloc o).cell? ⟨b2, 1, none⟩ = some f1 ∧ Two w b1 b2 (W.alloc o) :=
  Two.later h ⟨_, (Below.refl _ _).alloc (Nat.le_refl _) o⟩
theorem Two.drew (h : W.cell? ⟨b1, 0, none⟩ = some e0 ∧ W.cell? ⟨b1, 1, none⟩ = some e1 ∧ W.cell? ⟨b1, 2, none⟩ = some e2 ∧ W.cell? ⟨b2, 0, none⟩ = some f0 ∧ W.cell? ⟨b2, 1, none⟩ = some f1 ∧ Two w b1 b2 W) :
    W.drew.cell? ⟨b1, 0, none⟩ = some e0 ∧ W.drew.cell? ⟨b1, 1, none⟩ = some e1 ∧ W.drew.cell? ⟨b1, 2, none⟩ = some e2 ∧ W.drew.cell? ⟨b2, 0, none⟩ = some f0 ∧ W.drew.cell? ⟨b2, 1, none⟩ = some f1 ∧ Two w b1 b2 W.drew :=
  Two.later h ⟨_, (Below.refl _ _).drew⟩
theorem Two.begin {c0 c1 c2 l0 l1 : Value} {T1 T2 : TypeId} (x1 : Later (w.alloc (.cells #[c0, c1, c2] T1))) :
    (x1.at'.alloc (.cells #[l0, l1] T2)).cell? ⟨w.heap.size, 0, none⟩ = some c0 ∧ (x1.at'.alloc (.cells #[l0, l1] T2)).cell? ⟨w.heap.size, 1, none⟩ = some c1 ∧ (x1.at'.alloc (.cells #[l0, l1] T2)).cell? ⟨w.heap.size, 2, none⟩ = some c2 ∧ (x1.at'.alloc (.cells #[l0, l1] T2)).cell? ⟨x1.at'.heap.size, 0, none⟩ = some l0 ∧ (x1.at'.alloc (.cells #[l0, l1] T2)).cell? ⟨x1.at'.heap.size, 1, none⟩ = some l1 ∧ Two w w.heap.size x1.at'.heap.size (x1.at'.alloc (.cells #[l0, l1] T2)) := by
  have y1 : w.heap.size < x1.at'.heap.size := x1.lt _ (by simp)
  refine ⟨?_, ?_, ?_, by simp, by simp, ⟨(x1.boxed).alloc (by omega) _, Nat.le_refl _, by simp; omega, by simp⟩⟩
  all_goals
    rw [World.cell?_alloc_past _ _ _ y1, x1.cell _ _ _ (by simp)]
    simp
theorem twoBelow {c0 c1 c2 c3 c4 : Prop} (h : c0 ∧ c1 ∧ c2 ∧ c3 ∧ c4 ∧ Two w b1 b2 W) : Below w.heap.size w W := h.2.2.2.2.2.bel
theorem twoTold {c0 c1 c2 c3 c4 : Prop} (h : c0 ∧ c1 ∧ c2 ∧ c3 ∧ c4 ∧ Two w b1 b2 W) : b1 < W.heap.size ∧ b2 < W.heap.size := ⟨h.2.2.2.2.2.s1, h.2.2.2.2.2.s2⟩
end
end Go.Proofs.YtjcndjfiogbdiaaDoor
