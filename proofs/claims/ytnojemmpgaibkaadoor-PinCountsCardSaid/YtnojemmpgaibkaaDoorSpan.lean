/-
  What a step of a machine on plain cells comes to in memory.
  Conditions: none; definitions and plain lemmas.
-/
import Derived.Test.YtnojemmpgaibkaaDoorFs
import Derived.Test.YtnojemmpgaibkaaDoorLayStartsMath
namespace Go.Proofs.YtnojemmpgaibkaaDoor
open Go.RowKit

/-- The blocks that a step of a machine at k may turn. -/
def spanS (A : PAt) (k : Nat) : Nat → Prop := fun b => (A.lo ≤ b ∧ b < A.hi) ∨ b = k
theorem spanS_in {A : PAt} {k : Nat} : ∀ b, A.lo ≤ b → b < A.hi → spanS A k b := fun _ h1 h2 => Or.inl ⟨h1, h2⟩
theorem spanS_self {A : PAt} {k : Nat} : spanS A k k := Or.inr rfl
theorem spanS_not {A : PAt} {k b : Nat} (h1 : b < A.lo ∨ A.hi ≤ b) (h2 : b ≠ k) : ¬ spanS A k b := by rintro (h | h) <;> omega
/-- A call that may turn plain cells and the machine at k: the machine lies there as L behind it. -/
def SRet (A : PAt) (k : Nat) (w : World) (v : Value) (L : List Value) (ws bs : List Int) (e : Ending) (w' : World) : Prop :=
  e = .returned v ∧ Moved (spanS A k) w w' ∧ (∃ n, Mem w' A ws bs n) ∧ Fs w' k L
theorem HasHead.moved {S : Nat → Prop} {w w' : World} (h : HasHead w) (m : Moved S w w') (h0 : ¬ S 1) (h1 : ¬ S 2) : HasHead w' :=
  ⟨Nat.lt_of_lt_of_le h.lt0 m.size, Nat.lt_of_lt_of_le h.lt1 m.size, (m.cell _ _ _ h.lt0 h0).trans h.c0, (m.cell _ _ _ h.lt0 h0).trans h.c1, (m.cell _ _ _ h.lt1 h1).trans h.c2, (m.cell _ _ _ h.lt1 h1).trans h.c3⟩
end Go.Proofs.YtnojemmpgaibkaaDoor
