/-
  What a step of a machine comes to in memory.
  Conditions: none; definitions and plain lemmas.
-/
import Derived.Test.YtfomephgallpmaaDoorStMath
import Derived.Test.YtfomephgallpmaaDoorFs
import Derived.Test.YtfomephgallpmaaDoorLayStartsMath
namespace Go.Proofs.YtfomephgallpmaaDoor
open Go.RowKit

/-- A call that may turn plain cells and the machine at k: the machine lies there as L behind it. -/
def SRet (A : PAt) (k : Nat) (w : World) (v : Value) (L : List Value) (ws bs : List Int) (e : Ending) (w' : World) : Prop :=
  e = .returned v ∧ Moved (spanS A k) w w' ∧ (∃ n, Mem w' A ws bs n) ∧ Fs w' k L

theorem HasHead.moved {S : Nat → Prop} {w w' : World} (h : HasHead w) (m : Moved S w w') (h0 : ¬ S 1) (h1 : ¬ S 2) : HasHead w' :=
  ⟨Nat.lt_of_lt_of_le h.lt0 m.size, Nat.lt_of_lt_of_le h.lt1 m.size, (m.cell _ _ _ h.lt0 h0).trans h.c0, (m.cell _ _ _ h.lt0 h0).trans h.c1, (m.cell _ _ _ h.lt1 h1).trans h.c2, (m.cell _ _ _ h.lt1 h1).trans h.c3⟩

/-- What a machine's step stands on. -/
structure Seat (w : World) (A : PAt) (k : Nat) (t s : Int) : Prop where
  hF : HasHead w
  g0 : 1 < A.lo
  g1 : 2 < A.lo
  k0 : 1 ≠ k
  k1 : 2 ≠ k
  hk : A.hi ≤ k
  t0 : 1 ≤ t
  t4 : t ≤ 4
  s0 : 1 ≤ s
  s64 : s ≤ 64
theorem Seat.moved {w w' : World} {A : PAt} {k : Nat} {t s : Int} (h : Seat w A k t s) (m : Moved (spanS A k) w w') : Seat w' A k t s :=
  { h with hF := h.hF.moved m (spanS_not (Or.inl h.g0) h.k0) (spanS_not (Or.inl h.g1) h.k1) }
end Go.Proofs.YtfomephgallpmaaDoor
