/-
  Two own rows of the same numbers are the same, if they have any or none.
  Conditions: none.
-/
import Derived.Test.YtlidoicpfomfcaaDoorStSt
import Derived.Test.YtlidoicpfomfcaaDoorStArg
namespace Go.Proofs.YtlidoicpfomfcaaDoor
open Go.RowKit
attribute [local go_sem] Later.cell Later.frozen Later.lt Later.le
set_option linter.unusedVariables false

theorem Same_none (p1 p2 : Option Addr) (c1 c2 : Nat) (w : World) : Calls Tryd.prog 17 #[.slice p1 0 c1, .slice p2 0 c2] w (Ret w (.bool true)) := by
  go_enter Tryd.func17, Tryd.ntmps17
  go_wp2
  go_loopw [5] (fun i wr => i = .int .i64 0 ∧ wr = w) (fun i _ => 0)
  case atStart => exact ⟨rfl, rfl⟩
  case round =>
    obtain ⟨rfl, rfl⟩ := hrel
    go_wp2
    go_ret
    exact Ret.mk rfl (Below.refl _ _)
theorem Same_ints {w : World} {b1 b2 : Nat} {v1 v2 : Value} {l : List Int} (h1 : Ints w b1 v1 l) (h2 : Ints w b2 v2 l) (hn : l.length ≤ 1000000) : Calls Tryd.prog 17 #[v1, v2] w (Ret w (.bool true)) := by
  by_cases hl : l = []
  · subst hl
    obtain ⟨p1, c1, rfl⟩ := ints_len h1
    obtain ⟨p2, c2, rfl⟩ := ints_len h2
    exact Same_none p1 p2 c1 c2 w
  · obtain ⟨g1, c1, rfl, _, l1, k1⟩ := h1.open' hl
    obtain ⟨g2, c2, rfl, _, l2, k2⟩ := h2.open' hl
    exact Same_rows (fun j => l.getD j 0) l.length g1 c1 g2 c2 w hn l1 l2 k1 k2
theorem freeF_len (t s : Int) (ws : List Int) : ∀ (f : Nat) (v : Int), (freeF t s ws f v).length ≤ f
  | 0, _ => Nat.le_refl _
  | f + 1, v => by
    unfold freeF
    split
    · simpa using freeF_len t s ws f _
    · simp
theorem freeL_len (t s : Int) (ws : List Int) : (freeL t s ws).length ≤ s.toNat := by
  unfold freeL
  split
  · exact freeF_len _ _ _ _ _
  · simp

section
variable {w W W' : World} {X : At4} {a s t s0 s1 : Int} {ws : List Int} {P : Nat → Pr}
theorem St4.cellr (h : St4 w X a s t s0 s1 ws P W) {n : Nat} (hn : n < 4) : W.cell? ⟨X.r, n, none⟩ = some (.pointer (some ⟨(P n).x, 0, none⟩)) := by
  have h4 : n = 0 ∨ n = 1 ∨ n = 2 ∨ n = 3 := by omega
  rcases h4 with rfl | rfl | rfl | rfl
  · exact h.fr.at' 0 rfl
  · exact h.fr.at' 1 rfl
  · exact h.fr.at' 2 rfl
  · exact h.fr.at' 3 rfl
/-- What the last line does: both tell the same slots. -/
theorem st4_free (h : St4 w X a s t s0 s1 ws P W) : Calls Tryd.prog 18 #[ifc X.A, .agg #[.int .i64 t, .int .i64 s]] W fun e W' => ∃ v, e = .returned v ∧ St4 w X a s t s0 s1 ws P W' ∧ Ints W' W.heap.size v (freeL t s ws) := by
  obtain ⟨n, hM⟩ := h.env.mem
  obtain ⟨m, hR⟩ := h.env.rm
  obtain ⟨-, -, -, a0, a64, b0, b4⟩ := mayC_iff.1 h.env.may
  refine (Free_any h.env.hF h.env.g0 h.env.g1 hM b0 b4 a0 a64 h.env.wd).mono fun e W' ⟨v, he, ht, hm, hi⟩ => ⟨v, he, ?_, hi⟩
  have hmv : Moved (fun b => X.A.lo ≤ b ∧ b < X.A.hi) W W' := Moved.of_touch ht fun b h1 h2 => ⟨h1, h2⟩
  exact h.cells hmv (fun b k => Or.inl k) { h.env with hF := h.env.hF.touch ht h.env.g0 h.env.g1, mem := hm, rm := ⟨m, hR.moved hmv (by have := h.env.pA; omega) (by have := h.env.qA; omega)⟩ } rfl
theorem st4_rfree (h : St4 w X a s t s0 s1 ws P W) : Calls Tryd.prog 19 #[.agg #[.int .i64 a, .int .i64 s, .int .i64 t], .pointer (some ⟨X.p, 0, none⟩)] W fun e W' => ∃ v, e = .returned v ∧ Below W.heap.size W W' ∧ St4 w X a s t s0 s1 ws P W' ∧ Ints W' W.heap.size v (freeL t s ws) := by
  obtain ⟨m, hR⟩ := h.env.rm
  exact (refFree_any h.env.may hR h.wl h.env.wd).mono fun e W' ⟨v, he, hb, hi⟩ => ⟨v, he, hb, h.below hb, hi⟩
theorem Ints.below {w w' : World} {base : Nat} {v : Value} {l : List Int} (h : Ints w base v l) (hb : Below w.heap.size w w') : Ints w' base v l := h.later ⟨w', hb⟩
end
end Go.Proofs.YtlidoicpfomfcaaDoor
