/-
  Picks that come in with two machines' places: a slice of numbers in a struct, opened.
  Conditions: none; lemmas over the library's own notions and the program's table of types.
-/
import Derived.Test.YtnojemmpgaibkaaDoorLaw
import Derived.Test.YtnojemmpgaibkaaDoorProg
import Derived.Deep.Slices
namespace Go.Proofs.YtnojemmpgaibkaaDoor
open Go.ChangeShapes Go.WideShapes Go.ChangeAt Go.RowKit Go.Deep
set_option linter.unusedVariables false
set_option maxRecDepth 100000

/-- Numbers as they lie. -/
def NumP (W : World) (p : Option Addr) (l : List Int) : Prop := l ≠ [] → ∃ b off, p = some ⟨b, off, none⟩ ∧ b < W.heap.size ∧ ∀ i, i < l.length → W.cell? ⟨b, off + i, none⟩ = some (.int .i64 (l.getD i 0))

section
variable {H : Type} {enc : TypeId × Value → H} {W : World} {base : Nat} {sp : Nat → Bool} {hd : Bool}
theorem c_int : Tryd.prog.cellsOf 3 = 1 := by kernel_rfl
theorem c_nums : Tryd.prog.cellsOf 22 = 1 := by kernel_rfl
/-- A slice of numbers that came in. -/
theorem nums_of_trod {fuel : Nat} {v : Value} {x : DataW H × List MemPlace} (h : DataW.trod enc Tryd.prog W base sp hd fuel 22 [v] = some x) :
    ∃ (p : Option Addr) (cap : Nat) (l : List Int), v = .slice p l.length cap ∧ l.length ≤ maxLen ∧ l.length ≤ cap ∧ cap ≤ maxLen ∧ NumP W p l := by
  rcases open_slice Tryd.underlying22 h with ⟨hcs, _⟩ | ⟨a, len, cap, m, n, D, Pl, hcs, _, hl, hm, hmm, _, hi⟩
  · simp only [List.cons.injEq, and_true] at hcs
    subst hcs
    exact ⟨none, 0, [], rfl, by simp, by simp, by simp, fun h => absurd rfl h⟩
  · simp only [List.cons.injEq, and_true] at hcs
    subst hcs
    have hml : len ≤ m := by rw [hmm]; split <;> omega
    obtain ⟨f, hf⟩ := choose_lt (α := Int) (n := m) (p := fun i e => W.cell? (a.add i) = some (.int .i64 e)) fun i him => by
      obtain ⟨cs', h1, h2⟩ := hi i him
      obtain ⟨_, hsz, h3⟩ := World.cells?_some h1
      rw [c_int] at h3 hsz
      obtain ⟨e, he, _, _⟩ := DataW.trod_int Tryd.underlying3 h2
      subst he
      exact ⟨e, by have := h3 0 (by omega); simpa [Go.Deep.add_add] using this⟩
    refine ⟨some a, cap, (List.range len).map f, by simp, by simp; omega, by simpa using hl, hm, fun hne => ?_⟩
    have hlen : 0 < len := by
      rcases Nat.eq_zero_or_pos len with h | h
      · subst h; simp at hne
      · exact h
    obtain ⟨b, off, spot⟩ := a
    have hspot : spot = none := by simpa [Addr.add] using World.cell?_spot (hf 0 (by omega))
    subst hspot
    refine ⟨b, off, rfl, ?_⟩
    have hc : ∀ i, i < len → W.cell? ⟨b, off + i, none⟩ = some (.int .i64 (f i)) := fun i hi => by
      have := hf i (by omega)
      rwa [Go.WideShapes.add_plain] at this
    have hlt : b < W.heap.size := World.block_lt_of_cell? W ⟨b, off + 0, none⟩ (hc 0 hlen)
    refine ⟨hlt, fun i hi => ?_⟩
    rw [List.length_map, List.length_range] at hi
    rw [hc i hi]
    simp [hi]
end
end Go.Proofs.YtnojemmpgaibkaaDoor
