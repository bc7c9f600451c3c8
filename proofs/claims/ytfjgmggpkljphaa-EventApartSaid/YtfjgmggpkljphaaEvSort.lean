/-
  What sorting and striking what is twice come to, as plain lists; a row of numbers behind them.
  Conditions: none; statements over lists, and over rows that a call owns.
-/
import Derived.Test.YtfjgmggpkljphaaIntRow
import Derived.Test.YtfjgmggpkljphaaEvMathD
import Derived.Lib.SlicesCompact
import Derived.Sort.OwnSortedInts
namespace Go.Proofs.Ytfjgmggpkljphaa
open Go.RowKit Go.Lib Go.Sort
set_option linter.unusedVariables false

theorem compactUp_mem (d : Array Int) : ∀ m, m ≤ d.size → ∀ x, x ∈ compactUpTo d m ↔ ∃ j, j < m ∧ d[j]! = x
  | 0, _, x => by simp [compactUpTo]
  | m + 1, h, x => by
    rw [compactUpTo_succ, List.mem_append, compactUp_mem d m (by omega)]
    cases hk : keeps d m
    · have hk' : ¬ (m = 0 ∨ d[m]! ≠ d[m - 1]!) := by simpa [keeps] using hk
      simp only [Bool.false_eq_true, if_false, List.not_mem_nil, or_false]
      constructor
      · rintro ⟨j, hj, e⟩; exact ⟨j, by omega, e⟩
      · rintro ⟨j, hj, e⟩
        by_cases c : j = m
        · subst c
          refine ⟨j - 1, by omega, ?_⟩
          rw [← e]
          exact (Decidable.not_not.1 fun h2 => hk' (.inr h2)).symm
        · exact ⟨j, by omega, e⟩
    · simp only [if_true, List.mem_singleton]
      constructor
      · rintro (⟨j, hj, e⟩ | rfl)
        · exact ⟨j, by omega, e⟩
        · exact ⟨m, by omega, rfl⟩
      · rintro ⟨j, hj, e⟩
        by_cases c : j = m
        · subst c; exact .inr e.symm
        · exact .inl ⟨j, by omega, e⟩
theorem compactUp_rise (d : Array Int) (hs : ∀ i j, i ≤ j → j < d.size → d[i]! ≤ d[j]!) : ∀ m, m ≤ d.size → Rise (compactUpTo d m)
  | 0, _ => by simp [compactUpTo, Rise]
  | m + 1, h => by
    have ih := compactUp_rise d hs m (by omega)
    rw [compactUpTo_succ]
    cases hk : keeps d m
    · simpa using ih
    · have hk' : m = 0 ∨ d[m]! ≠ d[m - 1]! := by simpa [keeps] using hk
      simp only [if_true]
      refine List.pairwise_append.2 ⟨ih, by simp, fun x hx y hy => ?_⟩
      obtain rfl : y = d[m]! := by simpa using hy
      obtain ⟨j, hj, rfl⟩ := (compactUp_mem d m (by omega) x).1 hx
      rcases hk' with rfl | hne
      · omega
      · have h1 := hs j (m - 1) (by omega) (by omega)
        have h2 := hs (m - 1) m (by omega) (by omega)
        omega
/-- Numbers that are sorted, and each kept once. -/
theorem compact_sorted (l : List Int) : Rise (compact (l.mergeSort fun x y => decide (x ≤ y))) ∧ ∀ x, x ∈ compact (l.mergeSort fun x y => decide (x ≤ y)) ↔ x ∈ l := by
  have hp := List.mergeSort_perm l fun x y => decide (x ≤ y)
  have hs : (l.mergeSort fun x y => decide (x ≤ y)).Pairwise (fun x y => decide (x ≤ y) = true) :=
    List.pairwise_mergeSort (le := fun x y : Int => decide (x ≤ y)) (fun a b c h1 h2 => by simp only [decide_eq_true_eq] at *; omega) (fun a b => by simp only [Bool.or_eq_true, decide_eq_true_eq]; omega) l
  generalize (l.mergeSort fun x y => decide (x ≤ y)) = s at hp hs
  have hmono : ∀ i j, i ≤ j → j < s.toArray.size → s.toArray[i]! ≤ s.toArray[j]! := fun i j hij hj => by
    have hj' : j < s.length := by simpa using hj
    have hi' : i < s.length := by omega
    rw [getElem!_pos s.toArray i (by simpa using hi'), getElem!_pos s.toArray j hj]
    by_cases e : i = j
    · subst e; exact Int.le_refl _
    · have := (List.pairwise_iff_getElem.1 hs) i j hi' hj' (by omega)
      simpa using this
  refine ⟨compactUp_rise _ hmono _ (by simp), fun x => ?_⟩
  unfold compact
  rw [compactUp_mem _ _ (by simp)]
  constructor
  · rintro ⟨j, hj, e⟩
    rw [getElem!_pos s.toArray j (by simpa using hj)] at e
    rw [← hp.mem_iff, ← e]
    simp
  · intro hx
    rw [← hp.mem_iff] at hx
    obtain ⟨j, hj, e⟩ := List.getElem_of_mem hx
    exact ⟨j, hj, by rw [getElem!_pos s.toArray j (by simpa using hj)]; simpa using e⟩
theorem hands_sorted (l : List Ev) : compact ((l.map hOf).mergeSort fun x y => decide (x ≤ y)) = hands l := by
  obtain ⟨h1, h2⟩ := compact_sorted (l.map hOf)
  refine rise_ext h1 (hands_rise l) fun x => ?_
  rw [h2, hands_mem]
  simp

/-- Behind slices.Compact the slice that is cut owns what is kept. -/
theorem ownsRow_cut {w : World} {base g cap q : Nat} {e : TypeId} {cur : Array Value} {A : List Int} {n : Nat} {Z : List Int} (hn : A.length + Z.length = n) (hbase : base ≤ g) (hb : w.heap[g]? = some (.cells cur e (0, 0)))
    (h1 : n ≤ cap) (h2 : cap ≤ maxLen) (h3 : cur.size = cap * 1) :
    (putRow (Value.int .i64) (Sort.ahead w q) g 0 (A ++ Z).toArray).ownsRow base e 1 (.slice (some ⟨g, 0, none⟩) A.length cap) A.length (A.map (Value.int .i64)) := by
  have hh : (putRow (Value.int .i64) (Sort.ahead w q) g 0 (A ++ Z).toArray).heap[g]? = some (.cells (putCells (Value.int .i64) 0 (A ++ Z).toArray cur) e (0, 0)) := by
    simp [putRow, mapBlock, Sort.ahead, Array.getElem?_modify, hb, onCells]
  refine ⟨by simp, .inr ⟨g, cap, _, rfl, hbase, hh, by omega, h2, by simp [putCells, h3], ?_⟩⟩
  have ht := take_putCellsI cur (A ++ Z) (by rw [List.length_append]; omega)
  have := congrArg (List.take A.length) ht
  rw [List.take_take, List.length_append, Nat.min_eq_left (by omega), List.map_append, List.take_left' (by simp)] at this
  rw [Nat.mul_one]
  exact this
theorem below_put {w : World} {base g q : Nat} (hg : base ≤ g) {V : World} (hV : Below base V w) (d : Array Int) : Below base V (putRow (Value.int .i64) (Sort.ahead w q) g 0 d) := by
  refine hV.trans ⟨rfl, rfl, rfl, by simp [putRow, mapBlock, Sort.ahead], fun k hk => ?_⟩
  have : g ≠ k := by omega
  simp [putRow, mapBlock, Sort.ahead, Array.getElem?_modify, this]
end Go.Proofs.Ytfjgmggpkljphaa
