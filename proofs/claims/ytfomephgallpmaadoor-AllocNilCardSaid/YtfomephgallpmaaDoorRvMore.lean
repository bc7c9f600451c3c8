/-
  More of what is known all along a statement: rows that come to be kept; a machine's steps that turn words and bytes; starts of a layout.
  Conditions: none; plain lemmas.
-/
import Derived.Test.YtfomephgallpmaaDoorRv
namespace Go.Proofs.YtfomephgallpmaaDoor
open Go.RowKit
set_option linter.unusedVariables false
set_option linter.unusedSimpArgs false

namespace Rv
variable {w W W' : World} {A : PAt} {t s : Int} {ws bs ws' bs' : List Int} {K : List (Nat × List Value)} {k : Nat} {l : List Value}
/-- A row more is kept. -/
theorem add (h : Rv w A t s ws bs K W) (hf : Fs W k l) (hk : A.hi ≤ k) : Rv w A t s ws bs ((k, l) :: K) W := by
  refine { h with keep := ?_ }
  intro p hp
  rcases List.mem_cons.1 hp with rfl | hp
  · exact ⟨hf, hk⟩
  · exact h.keep p hp
/-- Steps of a machine that is no row that is kept. -/
theorem turns (h : Rv w A t s ws bs K W) (hk : A.hi ≤ k) (hK : ∀ p ∈ K, p.1 ≠ k) (m : Moved (spanS A k) W W') (hm : ∃ n, Mem W' A ws' bs' n) : Rv w A t s ws' bs' K W' := by
  have hlo := h.lo
  have hlh := h.lohi
  exact { h with bel := m.below h.bel h.bel.size fun b hb => spanS_not (Or.inl (by omega)) (by omega), mem := hm, keep := fun p hp => ⟨(h.keep p hp).1.moved m (spanS_not (Or.inr (h.keep p hp).2) (hK p hp)), (h.keep p hp).2⟩ }
theorem hi_le (h : Rv w A t s ws bs K W) : A.hi ≤ W.heap.size := by
  obtain ⟨n, hm⟩ := h.mem
  exact hm.hs
theorem begin (hE : HasFields w) (hlo : w.heap.size ≤ A.lo) (hB : Below w.heap.size w W) {n : Int} (hM : Mem W A ws bs n) (h : 1 ≤ t ∧ t ≤ 4 ∧ 1 ≤ s ∧ s ≤ 64) : Rv w A t s ws bs [] W :=
  ⟨hB, hE, ⟨n, hM⟩, hlo, fun p hp => absurd hp (by simp), h.1, h.2.1, h.2.2.1, h.2.2.2⟩
/-- What is kept, with less. -/
theorem sub {K' : List (Nat × List Value)} (h : Rv w A t s ws bs K W) (hK : ∀ p ∈ K', p ∈ K) : Rv w A t s ws bs K' W := { h with keep := fun p hp => h.keep p (hK p hp) }
end Rv

/-- The words of a start, known in full. -/
theorem words_of (t s : Int) (l : List Int) (hn : (l.length : Int) = wordsN t s) (hv : ∀ j : Fin l.length, stV t s (fun _ => 0) ((j.val : Nat) : Int) = l[j.val]'j.isLt) (ws : List Int) (hl : (ws.length : Int) = wordsN t s) (ha : ∀ y, atI ws y = stV t s (fun _ => 0) y) : ws = l := by
  have h11 : ws.length = l.length := by omega
  refine List.ext_getElem h11 fun i h1 h2 => ?_
  have h := ha i
  rw [atI_nat, show ws.getD i 0 = ws[i] from by simp [h1]] at h
  rw [h]
  exact hv ⟨i, h2⟩
end Go.Proofs.YtfomephgallpmaaDoor
