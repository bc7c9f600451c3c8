/-
  What the loop of the document's own put carries, for layer 7.
  Conditions: none; statements over lists, and over rows that a call owns.
-/
import Derived.Test.YtlcegnehlhakdaaRefPutMath
namespace Go.Proofs.Ytlcegnehlhakdaa
open Go.RowKit Go.Maps Go
attribute [local go_sem] Later.cell Later.frozen Later.lt Later.le
set_option linter.unusedVariables false
set_option linter.unusedSimpArgs false
set_option maxRecDepth 4000

def stepT (x : Th) (s : List Th × Bool) (y : Th) : List Th × Bool :=
  if s.2 = false ∧ x.o.h ≤ y.o.h then ((if y.o.h = x.o.h then s.1 ++ [x] else s.1 ++ [x] ++ [y]), true)
  else ((if y.o.h = x.o.h then s.1 else s.1 ++ [y]), s.2)
theorem stepT_map (x y : Th) (s : List Th × Bool) : ((stepT x s y).1.map (·.o), (stepT x s y).2) = stepO x.o (s.1.map (·.o), s.2) y.o := by
  unfold stepT stepO
  by_cases c : s.2 = false ∧ x.o.h ≤ y.o.h
  · rw [if_pos c, if_pos c]
    by_cases e : y.o.h = x.o.h
    · simp [e]
    · simp [e]
  · rw [if_neg c, if_neg c]
    by_cases e : y.o.h = x.o.h
    · simp [e]
    · simp [e]
theorem foldT_map (x : Th) : ∀ (l : List Th) (s : List Th × Bool), ((l.foldl (stepT x) s).1.map (·.o), (l.foldl (stepT x) s).2) = (l.map (·.o)).foldl (stepO x.o) (s.1.map (·.o), s.2)
  | [], _ => rfl
  | y :: r, s => by
    rw [List.foldl_cons, List.map_cons, List.foldl_cons, ← stepT_map]
    exact foldT_map x r _
theorem foldT_mem (x : Th) : ∀ (l : List Th) (s : List Th × Bool), ∀ z ∈ (l.foldl (stepT x) s).1, z = x ∨ z ∈ l ∨ z ∈ s.1
  | [], s, z, hz => .inr (.inr hz)
  | y :: r, s, z, hz => by
    rw [List.foldl_cons] at hz
    rcases foldT_mem x r _ z hz with h | h | h
    · exact .inl h
    · exact .inr (.inl (by simp [h]))
    · unfold stepT at h
      split at h
      · simp only at h
        split at h
        · simp at h; rcases h with h | h
          · exact .inr (.inr h)
          · exact .inl h
        · simp at h; rcases h with h | h | h
          · exact .inr (.inr h)
          · exact .inl h
          · exact .inr (.inl (by simp [h]))
      · simp only at h
        split at h
        · exact .inr (.inr h)
        · simp at h; rcases h with h | h
          · exact .inr (.inr h)
          · exact .inr (.inl (by simp [h]))
theorem foldT_take (x : Th) {l : List Th} {i : Nat} (hi : i < l.length) (s : List Th × Bool) : (l.take (i + 1)).foldl (stepT x) s = stepT x ((l.take i).foldl (stepT x) s) (l[i]!) := by
  rw [List.take_add_one, List.foldl_append, getElem!_pos l i hi]
  simp [hi]
theorem Ths.later {w : World} {base : Nat} {v : Value} {l : List Th} (h : Ths w base v l) (x : Later w) : Ths x.at' base v l := by
  unfold Ths at *
  exact World.ownsRow.kept h (row := Option.none) ⟨x.below.os, x.below.tape, x.below.output, x.below.size, fun k hk _ => x.below.block k hk⟩ (by cases v.ownBlock <;> simp)
/-- The loop's relation. -/
def PutRel (V : World) (base : Nat) (l : List Th) (x : Th) (b0 : Bool) (v5 v6 v7 : Value) (wr : World) : Prop :=
  ∃ (i : Nat) (out : List Th) (b : Bool), i ≤ l.length ∧ v7 = .int .i64 i ∧ v6 = .bool b ∧ (l.take i).foldl (stepT x) ([], b0) = (out, b) ∧ out.length + (if b then 0 else 1) ≤ i + 1 ∧ Snc V wr ∧ Ths wr base v5 out
/-- What put answers. -/
def PutRet (w : World) (l : List Th) (x : Th) (en : Ending) (w' : World) : Prop :=
  ∃ v l', en = .returned v ∧ l'.map (·.o) = putF x.o (l.map (·.o)) ∧ (∀ z ∈ l', z = x ∨ z ∈ l) ∧ ∃ y : Later w, w' = y.at' ∧ Ths y.at' w.heap.size v l'

end Go.Proofs.Ytlcegnehlhakdaa
