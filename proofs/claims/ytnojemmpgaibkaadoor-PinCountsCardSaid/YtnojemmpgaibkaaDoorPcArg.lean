/-
  Picks that come in, as they are read: a slice of them, opened.
  Conditions: none; lemmas over the library's own notions and the program's table of types.
-/
import Derived.Test.YtnojemmpgaibkaaDoorLaw
import Derived.Test.YtnojemmpgaibkaaDoorProg
import Derived.Deep.Slices
namespace Go.Proofs.YtnojemmpgaibkaaDoor
open Go.ChangeShapes Go.WideShapes Go.ChangeAt Go.RowKit Go.Deep
set_option linter.unusedVariables false
set_option maxRecDepth 100000

/-- A pick: of which machine; and what comes in the place of one that has ended. -/
structure Pk where
  stp : Bool
  pick : Int
  un : Bool
  i : Int
  to' : Int
instance : Inhabited Pk := ⟨⟨false, 0, false, 0, 0⟩⟩
def pkCells (e : Pk) : List Value := [.bool e.stp, .int .i64 e.pick, .bool e.un, .int .i64 e.i, .int .i64 e.to']
def pkAt (l : List Pk) (i : Nat) : Pk := l.getD i default
/-- Picks as they lie. -/
def PksP (W : World) (p : Option Addr) (l : List Pk) : Prop := l ≠ [] → ∃ b off, p = some ⟨b, off, none⟩ ∧ b < W.heap.size ∧ ∀ i, i < l.length → W.cell? ⟨b, off + i * 5, none⟩ = some (.bool (pkAt l i).stp) ∧ W.cell? ⟨b, off + i * 5 + 1, none⟩ = some (.int .i64 (pkAt l i).pick) ∧ W.cell? ⟨b, off + i * 5 + 2, none⟩ = some (.bool (pkAt l i).un) ∧ W.cell? ⟨b, off + i * 5 + 3, none⟩ = some (.int .i64 (pkAt l i).i) ∧ W.cell? ⟨b, off + i * 5 + 4, none⟩ = some (.int .i64 (pkAt l i).to')

section
variable {H : Type} {enc : TypeId × Value → H} {W : World} {base : Nat} {sp : Nat → Bool} {hd : Bool}
theorem c_int : Tryd.prog.cellsOf 3 = 1 := by kernel_rfl
theorem c_bool : Tryd.prog.cellsOf 4 = 1 := by kernel_rfl
theorem c_pk : Tryd.prog.cellsOf 66 = 5 := by kernel_rfl

theorem pk_of_trod {fuel : Nat} {cs : List Value} {x : DataW H × List MemPlace} (h : DataW.trod enc Tryd.prog W base sp hd fuel 66 cs = some x) : ∃ e : Pk, cs = pkCells e := by
  obtain ⟨xs, n, _, _, hl, hx, hf⟩ := DataW.trod_struct Tryd.underlying66 h
  rw [c_pk] at hl
  match cs, hl with
  | [c0, c1, c2, c3, c4], _ =>
  match xs, hx with
  | [y0, y1, y2, y3, y4], _ =>
  have h0 : DataW.trod enc Tryd.prog W base sp hd n 4 (([c0, c1, c2, c3, c4].drop 0).take (Tryd.prog.cellsOf 4)) = some y0 := hf 0 _ rfl
  rw [c_bool] at h0
  replace h0 : DataW.trod enc Tryd.prog W base sp hd n 4 [c0] = some y0 := h0
  have h1 : DataW.trod enc Tryd.prog W base sp hd n 3 (([c0, c1, c2, c3, c4].drop 1).take (Tryd.prog.cellsOf 3)) = some y1 := hf 1 _ rfl
  rw [c_int] at h1
  replace h1 : DataW.trod enc Tryd.prog W base sp hd n 3 [c1] = some y1 := h1
  have h2 : DataW.trod enc Tryd.prog W base sp hd n 4 (([c0, c1, c2, c3, c4].drop 2).take (Tryd.prog.cellsOf 4)) = some y2 := hf 2 _ rfl
  rw [c_bool] at h2
  replace h2 : DataW.trod enc Tryd.prog W base sp hd n 4 [c2] = some y2 := h2
  have h3 : DataW.trod enc Tryd.prog W base sp hd n 3 (([c0, c1, c2, c3, c4].drop 3).take (Tryd.prog.cellsOf 3)) = some y3 := hf 3 _ rfl
  rw [c_int] at h3
  replace h3 : DataW.trod enc Tryd.prog W base sp hd n 3 [c3] = some y3 := h3
  have h4 : DataW.trod enc Tryd.prog W base sp hd n 3 (([c0, c1, c2, c3, c4].drop 4).take (Tryd.prog.cellsOf 3)) = some y4 := hf 4 _ rfl
  rw [c_int] at h4
  replace h4 : DataW.trod enc Tryd.prog W base sp hd n 3 [c4] = some y4 := h4
  obtain ⟨a0, e0, _⟩ := DataW.trod_bool Tryd.underlying4 h0
  obtain ⟨a1, e1, _, _⟩ := DataW.trod_int Tryd.underlying3 h1
  obtain ⟨a2, e2, _⟩ := DataW.trod_bool Tryd.underlying4 h2
  obtain ⟨a3, e3, _, _⟩ := DataW.trod_int Tryd.underlying3 h3
  obtain ⟨a4, e4, _, _⟩ := DataW.trod_int Tryd.underlying3 h4
  simp only [List.cons.injEq, and_true] at e0 e1 e2 e3 e4
  subst e0 e1 e2 e3 e4
  exact ⟨⟨a0, a1, a2, a3, a4⟩, rfl⟩
/-- A slice of picks that came in. -/
theorem pks_of_trod {fuel : Nat} {v : Value} {x : DataW H × List MemPlace} (h : DataW.trod enc Tryd.prog W base sp hd fuel 55 [v] = some x) :
    ∃ (p : Option Addr) (cap : Nat) (l : List Pk), v = .slice p l.length cap ∧ l.length ≤ maxLen ∧ l.length ≤ cap ∧ cap ≤ maxLen ∧ PksP W p l := by
  rcases open_slice Tryd.underlying55 h with ⟨hcs, _⟩ | ⟨a, len, cap, m, n, D, Pl, hcs, _, hl, hm, hmm, _, hi⟩
  · simp only [List.cons.injEq, and_true] at hcs
    subst hcs
    exact ⟨none, 0, [], rfl, by simp, by simp, by simp, fun h => absurd rfl h⟩
  · simp only [List.cons.injEq, and_true] at hcs
    subst hcs
    have hml : len ≤ m := by rw [hmm]; split <;> omega
    obtain ⟨f, hf⟩ := choose_lt (α := Pk) (n := m) (p := fun i e => ∀ j, j < 5 → W.cell? (a.add (i * 5 + j)) = (pkCells e)[j]?) fun i him => by
      obtain ⟨cs', h1, h2⟩ := hi i him
      obtain ⟨e, rfl⟩ := pk_of_trod h2
      obtain ⟨_, _, h3⟩ := World.cells?_some h1
      rw [c_pk] at h3
      exact ⟨e, fun j hj => by rw [← h3 j hj, Go.Deep.add_add]⟩
    refine ⟨some a, cap, (List.range len).map f, by simp, by simp; omega, by simpa using hl, hm, fun hne => ?_⟩
    have hlen : 0 < len := by
      rcases Nat.eq_zero_or_pos len with h | h
      · subst h; simp at hne
      · exact h
    obtain ⟨b, off, spot⟩ := a
    have hspot : spot = none := by simpa [Addr.add] using World.cell?_spot (hf 0 (by omega) 0 (by omega))
    subst hspot
    refine ⟨b, off, rfl, ?_⟩
    have hev : ∀ i, i < len → pkAt ((List.range len).map f) i = f i := fun i hi => by simp [pkAt, hi]
    have hc : ∀ i j, i < len → j < 5 → W.cell? ⟨b, off + i * 5 + j, none⟩ = (pkCells (pkAt ((List.range len).map f) i))[j]? := fun i j hi hj => by
      rw [hev i hi, ← hf i (by omega) j hj, Go.WideShapes.add_plain, Nat.add_assoc]
    have hlt : b < W.heap.size := World.block_lt_of_cell? W ⟨b, off + 0 * 5 + 0, none⟩ ((hc 0 0 hlen (by omega)).trans rfl)
    refine ⟨hlt, fun i hi => ?_⟩
    rw [List.length_map, List.length_range] at hi
    exact ⟨hc i 0 hi (by omega), hc i 1 hi (by omega), hc i 2 hi (by omega), hc i 3 hi (by omega), hc i 4 hi (by omega)⟩
end
end Go.Proofs.YtnojemmpgaibkaaDoor
