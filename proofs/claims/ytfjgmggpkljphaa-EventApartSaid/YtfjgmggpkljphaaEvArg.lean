/-
  Events that come in, as they are read: a slice of them, opened.
  Conditions: none; lemmas over the library's own notions and the program's table of types.
-/
import Derived.Test.YtfjgmggpkljphaaEvLive
import Derived.Test.YtfjgmggpkljphaaLaw
import Derived.Deep.Slices
namespace Go.Proofs.Ytfjgmggpkljphaa
open Go.ChangeShapes Go.WideShapes Go.ChangeAt Go.RowKit Go.Deep
set_option linter.unusedVariables false
set_option maxRecDepth 100000

section
variable {H : Type} {enc : TypeId × Value → H} {W : World} {base : Nat} {sp : Nat → Bool} {hd : Bool}
theorem c_int : Try.prog.cellsOf 3 = 1 := by kernel_rfl
theorem c_bool : Try.prog.cellsOf 4 = 1 := by kernel_rfl
theorem c_errno : Try.prog.cellsOf 33 = 1 := by kernel_rfl
theorem c_op : Try.prog.cellsOf 39 = 4 := by kernel_rfl
theorem c_res : Try.prog.cellsOf 35 = 2 := by kernel_rfl
theorem c_ev : Try.prog.cellsOf 77 = 8 := by kernel_rfl

theorem op_of_trod {fuel : Nat} {cs : List Value} {x : DataW H × List MemPlace} (h : DataW.trod enc Try.prog W base sp hd fuel 39 cs = some x) : ∃ d h o n : Int, cs = [.int .i64 d, .int .i64 h, .int .i64 o, .int .i64 n] := by
  obtain ⟨xs, n, _, _, hl, hx, hf⟩ := DataW.trod_struct Try.underlying39 h
  rw [c_op] at hl
  match cs, hl with
  | [c0, c1, c2, c3], _ =>
  match xs, hx with
  | [y0, y1, y2, y3], _ =>
  have h0 : DataW.trod enc Try.prog W base sp hd n 3 (([c0, c1, c2, c3].drop 0).take (Try.prog.cellsOf 3)) = some y0 := hf 0 _ rfl
  rw [c_int] at h0
  replace h0 : DataW.trod enc Try.prog W base sp hd n 3 [c0] = some y0 := h0
  have h1 : DataW.trod enc Try.prog W base sp hd n 3 (([c0, c1, c2, c3].drop 1).take (Try.prog.cellsOf 3)) = some y1 := hf 1 _ rfl
  rw [c_int] at h1
  replace h1 : DataW.trod enc Try.prog W base sp hd n 3 [c1] = some y1 := h1
  have h2 : DataW.trod enc Try.prog W base sp hd n 3 (([c0, c1, c2, c3].drop 2).take (Try.prog.cellsOf 3)) = some y2 := hf 2 _ rfl
  rw [c_int] at h2
  replace h2 : DataW.trod enc Try.prog W base sp hd n 3 [c2] = some y2 := h2
  have h3 : DataW.trod enc Try.prog W base sp hd n 3 (([c0, c1, c2, c3].drop 3).take (Try.prog.cellsOf 3)) = some y3 := hf 3 _ rfl
  rw [c_int] at h3
  replace h3 : DataW.trod enc Try.prog W base sp hd n 3 [c3] = some y3 := h3
  obtain ⟨a0, e0, _, _⟩ := DataW.trod_int Try.underlying3 h0
  obtain ⟨a1, e1, _, _⟩ := DataW.trod_int Try.underlying3 h1
  obtain ⟨a2, e2, _, _⟩ := DataW.trod_int Try.underlying3 h2
  obtain ⟨a3, e3, _, _⟩ := DataW.trod_int Try.underlying3 h3
  simp only [List.cons.injEq, and_true] at e0 e1 e2 e3
  subst e0 e1 e2 e3
  exact ⟨a0, a1, a2, a3, rfl⟩
theorem res_of_trod {fuel : Nat} {cs : List Value} {x : DataW H × List MemPlace} (h : DataW.trod enc Try.prog W base sp hd fuel 35 cs = some x) : ∃ c r : Int, cs = [.int .i64 c, .int .i64 r] := by
  obtain ⟨xs, n, _, _, hl, hx, hf⟩ := DataW.trod_struct Try.underlying35 h
  rw [c_res] at hl
  match cs, hl with
  | [c0, c1], _ =>
  match xs, hx with
  | [y0, y1], _ =>
  have h0 : DataW.trod enc Try.prog W base sp hd n 33 (([c0, c1].drop 0).take (Try.prog.cellsOf 33)) = some y0 := hf 0 _ rfl
  rw [c_errno] at h0
  replace h0 : DataW.trod enc Try.prog W base sp hd n 33 [c0] = some y0 := h0
  have h1 : DataW.trod enc Try.prog W base sp hd n 3 (([c0, c1].drop 1).take (Try.prog.cellsOf 3)) = some y1 := hf 1 _ rfl
  rw [c_int] at h1
  replace h1 : DataW.trod enc Try.prog W base sp hd n 3 [c1] = some y1 := h1
  obtain ⟨a0, e0, _, _⟩ := DataW.trod_int Try.underlying33 h0
  obtain ⟨a1, e1, _, _⟩ := DataW.trod_int Try.underlying3 h1
  simp only [List.cons.injEq, and_true] at e0 e1
  subst e0 e1
  exact ⟨a0, a1, rfl⟩
theorem ev_of_trod {fuel : Nat} {cs : List Value} {x : DataW H × List MemPlace} (h : DataW.trod enc Try.prog W base sp hd fuel 77 cs = some x) : ∃ e : Ev, cs = evCells e := by
  obtain ⟨xs, n, _, _, hl, hx, hf⟩ := DataW.trod_struct Try.underlying77 h
  rw [c_ev] at hl
  match cs, hl with
  | [c0, c1, c2, c3, c4, c5, c6, c7], _ =>
  match xs, hx with
  | [y0, y1, y2, y3], _ =>
  have h0 : DataW.trod enc Try.prog W base sp hd n 3 (([c0, c1, c2, c3, c4, c5, c6, c7].drop 0).take (Try.prog.cellsOf 3)) = some y0 := hf 0 _ rfl
  rw [c_int] at h0
  replace h0 : DataW.trod enc Try.prog W base sp hd n 3 [c0] = some y0 := h0
  have h1 : DataW.trod enc Try.prog W base sp hd n 4 (([c0, c1, c2, c3, c4, c5, c6, c7].drop 1).take (Try.prog.cellsOf 4)) = some y1 := hf 1 _ rfl
  rw [c_bool] at h1
  replace h1 : DataW.trod enc Try.prog W base sp hd n 4 [c1] = some y1 := h1
  have h2 : DataW.trod enc Try.prog W base sp hd n 39 (([c0, c1, c2, c3, c4, c5, c6, c7].drop 2).take (Try.prog.cellsOf 39)) = some y2 := hf 2 _ rfl
  rw [c_op] at h2
  replace h2 : DataW.trod enc Try.prog W base sp hd n 39 [c2, c3, c4, c5] = some y2 := h2
  have h3 : DataW.trod enc Try.prog W base sp hd n 35 (([c0, c1, c2, c3, c4, c5, c6, c7].drop 6).take (Try.prog.cellsOf 35)) = some y3 := hf 3 _ rfl
  rw [c_res] at h3
  replace h3 : DataW.trod enc Try.prog W base sp hd n 35 [c6, c7] = some y3 := h3
  obtain ⟨a0, e0, _, _⟩ := DataW.trod_int Try.underlying3 h0
  obtain ⟨a1, e1, _⟩ := DataW.trod_bool Try.underlying4 h1
  obtain ⟨a2, a3, a4, a5, e2⟩ := op_of_trod h2
  obtain ⟨a6, a7, e3⟩ := res_of_trod h3
  simp only [List.cons.injEq, and_true] at e0 e1 e2 e3
  obtain ⟨e2, e3', e4, e5⟩ := e2
  obtain ⟨e6, e7⟩ := e3
  subst e0 e1 e2 e3' e4 e5 e6 e7
  exact ⟨⟨a0, a1, a2, a3, a4, a5, a6, a7⟩, rfl⟩
instance : Inhabited Ev := ⟨Ev.zero⟩
/-- A slice of events that came in. -/
theorem evs_of_trod {fuel : Nat} {v : Value} {x : DataW H × List MemPlace} (h : DataW.trod enc Try.prog W base sp hd fuel 57 [v] = some x) :
    ∃ (p : Option Addr) (cap : Nat) (l : List Ev), v = .slice p l.length cap ∧ l.length ≤ maxLen ∧ l.length ≤ cap ∧ cap ≤ maxLen ∧ EvsP W p l := by
  rcases open_slice Try.underlying57 h with ⟨hcs, _⟩ | ⟨a, len, cap, m, n, D, Pl, hcs, _, hl, hm, hmm, _, hi⟩
  · simp only [List.cons.injEq, and_true] at hcs
    subst hcs
    exact ⟨none, 0, [], rfl, by simp, by simp, by simp, fun h => absurd rfl h⟩
  · simp only [List.cons.injEq, and_true] at hcs
    subst hcs
    have hml : len ≤ m := by rw [hmm]; split <;> omega
    obtain ⟨f, hf⟩ := choose_lt (α := Ev) (n := m) (p := fun i e => ∀ j, j < 8 → W.cell? (a.add (i * 8 + j)) = (evCells e)[j]?) fun i him => by
      obtain ⟨cs', h1, h2⟩ := hi i him
      obtain ⟨e, rfl⟩ := ev_of_trod h2
      obtain ⟨_, _, h3⟩ := World.cells?_some h1
      rw [c_ev] at h3
      exact ⟨e, fun j hj => by rw [← h3 j hj, Go.Deep.add_add]⟩
    refine ⟨some a, cap, (List.range len).map f, by simp, by simp; omega, by simpa using hl, hm, fun hne => ?_⟩
    have hlen : 0 < len := by
      rcases Nat.eq_zero_or_pos len with h | h
      · subst h; simp at hne
      · exact h
    obtain ⟨b, off, spot⟩ := a
    have hspot : spot = none := by simpa [Addr.add] using World.cell?_spot (hf 0 (by omega) 0 (by omega))
    subst hspot
    refine ⟨b, off, rfl, ?_⟩
    have hev : ∀ i, i < len → evAt ((List.range len).map f) i = f i := fun i hi => by simp [evAt, hi]
    have hc : ∀ i j, i < len → j < 8 → W.cell? ⟨b, off + i * 8 + j, none⟩ = (evCells (evAt ((List.range len).map f) i))[j]? := fun i j hi hj => by
      rw [hev i hi, ← hf i (by omega) j hj, Go.WideShapes.add_plain, Nat.add_assoc]
    have hlt : b < W.heap.size := World.block_lt_of_cell? W ⟨b, off + 0 * 8 + 0, none⟩ ((hc 0 0 hlen (by omega)).trans rfl)
    refine ⟨hlt, ?_, ?_, ?_, ?_, ?_, ?_, ?_, ?_⟩ <;> intro i hi <;> rw [List.length_map, List.length_range] at hi
    · exact hc i 0 hi (by omega)
    · exact hc i 1 hi (by omega)
    · exact hc i 2 hi (by omega)
    · exact hc i 3 hi (by omega)
    · exact hc i 4 hi (by omega)
    · exact hc i 5 hi (by omega)
    · exact hc i 6 hi (by omega)
    · exact hc i 7 hi (by omega)
end
end Go.Proofs.Ytfjgmggpkljphaa
