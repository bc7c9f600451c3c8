/-
  An array's cells, each of its own type.
  Conditions: none; a lemma over the library's own notions.
-/
import Derived.Test.YtnahjnbhmlomcaaDoorLaw
namespace Go.Proofs.YtnahjnbhmlomcaaDoor
open Go.ChangeShapes Go.WideShapes Go.ChangeAt Go.RowKit
section
variable {P : Program} {w : World} {r : Reach} {b : Nat} {t : TypeId} {v : Value}
theorem okcellsA {n : Nat} {e : TypeId} {ts : List TypeId} (ht : P.underlying t = some (.array n e)) (hts : P.cellTypes P.depth t = some ts) (hn : P.cellsOf t = ts.length) (h : Value.okWide P w r b t v) :
    ∃ cs : List Value, v = .agg cs.toArray ∧ cs.length = ts.length ∧ ∀ (i : Nat) (u : TypeId) (x : Value), ts[i]? = some u → cs[i]? = some x → Cell.okWide P w r b u x := by
  simp only [Value.okWide, ht] at h
  obtain ⟨cs, rfl, hsz, ts', h1, _, h3⟩ := h
  rw [hts] at h1
  obtain rfl := Option.some.inj h1
  refine ⟨cs.toList, by simp, by simp [hsz, hn], fun i u x hu hx => ?_⟩
  have hi : i < ts.length := (List.getElem?_eq_some_iff.1 hu).1
  obtain ⟨u', h4, h5⟩ := h3 i x (by simpa using hx)
  rw [Nat.mod_eq_of_lt hi, hu] at h4
  obtain rfl := Option.some.inj h4
  exact h5
end
end Go.Proofs.YtnahjnbhmlomcaaDoor
