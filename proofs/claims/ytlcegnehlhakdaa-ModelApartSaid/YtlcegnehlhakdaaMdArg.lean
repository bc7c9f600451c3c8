/-
  Calls that come in, as they are read, for layer 7: a slice of them, opened.
  Conditions: none; lemmas over the library's own notions and the program's table of types.
-/
import Derived.Test.YtlcegnehlhakdaaRefTryAny
import Derived.Test.YtlcegnehlhakdaaLaw
import Derived.Deep.Slices
namespace Go.Proofs.Ytlcegnehlhakdaa
open Go.ChangeShapes Go.WideShapes Go.ChangeAt Go.RowKit Go.Deep
set_option linter.unusedVariables false
set_option maxRecDepth 100000

/-- A call: an op, a result, and whether the map's own is taken. -/
structure Ca where
  d : Int
  h : Int
  off : Int
  n : Int
  c : Int
  r : Int
  own : Bool
instance : Inhabited Ca := ⟨⟨0, 0, 0, 0, 0, 0, false⟩⟩
def caCells (e : Ca) : List Value := [.int .i64 e.d, .int .i64 e.h, .int .i64 e.off, .int .i64 e.n, .int .i64 e.c, .int .i64 e.r, .bool e.own]
def caAt (l : List Ca) (i : Nat) : Ca := l.getD i default
/-- Its numbers are numbers of the program's. -/
def CaW (e : Ca) : Prop := (Lit.int .i64 e.d).wf = true ∧ (Lit.int .i64 e.h).wf = true ∧ (Lit.int .i64 e.off).wf = true ∧ (Lit.int .i64 e.n).wf = true ∧ (Lit.int .i64 e.c).wf = true ∧ (Lit.int .i64 e.r).wf = true
/-- Calls as they lie. -/
def CaP (W : World) (p : Option Addr) (l : List Ca) : Prop := l ≠ [] → ∃ b off, p = some ⟨b, off, none⟩ ∧ b < W.heap.size ∧ ∀ i, i < l.length → CaW (caAt l i) ∧ ∀ j, j < 7 → W.cell? ⟨b, off + i * 7 + j, none⟩ = (caCells (caAt l i))[j]?

section
variable {H : Type} {enc : TypeId × Value → H} {W : World} {base : Nat} {sp : Nat → Bool} {hd : Bool}
theorem c_int : Try.prog.cellsOf 3 = 1 := by kernel_rfl
theorem c_bool : Try.prog.cellsOf 4 = 1 := by kernel_rfl
theorem c_errno : Try.prog.cellsOf 33 = 1 := by kernel_rfl
theorem c_op : Try.prog.cellsOf 39 = 4 := by kernel_rfl
theorem c_res : Try.prog.cellsOf 35 = 2 := by kernel_rfl
theorem c_ca : Try.prog.cellsOf 41 = 7 := by kernel_rfl

theorem op_of_trod {fuel : Nat} {cs : List Value} {x : DataW H × List MemPlace} (h : DataW.trod enc Try.prog W base sp hd fuel 39 cs = some x) : ∃ d h o n : Int, cs = [.int .i64 d, .int .i64 h, .int .i64 o, .int .i64 n] ∧ (Lit.int .i64 d).wf = true ∧ (Lit.int .i64 h).wf = true ∧ (Lit.int .i64 o).wf = true ∧ (Lit.int .i64 n).wf = true := by
  obtain ⟨xs, n, _, _, hl, hx, hf⟩ := DataW.trod_struct Try.underlying39 h
  rw [c_op] at hl
  match cs, hl with
  | [c0, c1, c2, c3], _ =>
  match xs, hx with
  | [y0, y1, y2, y3], _ =>
  have h0 : DataW.trod enc Try.prog W base sp hd n 3 (([c0, c1, c2, c3].drop 0).take (Try.prog.cellsOf 3)) = some y0 := hf 0 _ rfl
  rw [c_int] at h0
  replace h0 : DataW.trod enc Try.prog W base sp hd n 3 [c0] = some y0 := h0
  have h1 : DataW.trod enc Try.prog W base sp hd n 3 (([c0, c1, c2, c3].drop 1).take (Try.prog.cellsOf 3)) = some y1 := hf 1 _ rfl
  rw [c_int] at h1
  replace h1 : DataW.trod enc Try.prog W base sp hd n 3 [c1] = some y1 := h1
  have h2 : DataW.trod enc Try.prog W base sp hd n 3 (([c0, c1, c2, c3].drop 2).take (Try.prog.cellsOf 3)) = some y2 := hf 2 _ rfl
  rw [c_int] at h2
  replace h2 : DataW.trod enc Try.prog W base sp hd n 3 [c2] = some y2 := h2
  have h3 : DataW.trod enc Try.prog W base sp hd n 3 (([c0, c1, c2, c3].drop 3).take (Try.prog.cellsOf 3)) = some y3 := hf 3 _ rfl
  rw [c_int] at h3
  replace h3 : DataW.trod enc Try.prog W base sp hd n 3 [c3] = some y3 := h3
  obtain ⟨a0, e0, _, w0⟩ := DataW.trod_int Try.underlying3 h0
  obtain ⟨a1, e1, _, w1⟩ := DataW.trod_int Try.underlying3 h1
  obtain ⟨a2, e2, _, w2⟩ := DataW.trod_int Try.underlying3 h2
  obtain ⟨a3, e3, _, w3⟩ := DataW.trod_int Try.underlying3 h3
  simp only [List.cons.injEq, and_true] at e0 e1 e2 e3
  subst e0 e1 e2 e3
  exact ⟨a0, a1, a2, a3, rfl, w0, w1, w2, w3⟩
theorem res_of_trod {fuel : Nat} {cs : List Value} {x : DataW H × List MemPlace} (h : DataW.trod enc Try.prog W base sp hd fuel 35 cs = some x) : ∃ c r : Int, cs = [.int .i64 c, .int .i64 r] ∧ (Lit.int .i64 c).wf = true ∧ (Lit.int .i64 r).wf = true := by
  obtain ⟨xs, n, _, _, hl, hx, hf⟩ := DataW.trod_struct Try.underlying35 h
  rw [c_res] at hl
  match cs, hl with
  | [c0, c1], _ =>
  match xs, hx with
  | [y0, y1], _ =>
  have h0 : DataW.trod enc Try.prog W base sp hd n 33 (([c0, c1].drop 0).take (Try.prog.cellsOf 33)) = some y0 := hf 0 _ rfl
  rw [c_errno] at h0
  replace h0 : DataW.trod enc Try.prog W base sp hd n 33 [c0] = some y0 := h0
  have h1 : DataW.trod enc Try.prog W base sp hd n 3 (([c0, c1].drop 1).take (Try.prog.cellsOf 3)) = some y1 := hf 1 _ rfl
  rw [c_int] at h1
  replace h1 : DataW.trod enc Try.prog W base sp hd n 3 [c1] = some y1 := h1
  obtain ⟨a0, e0, _, w0⟩ := DataW.trod_int Try.underlying33 h0
  obtain ⟨a1, e1, _, w1⟩ := DataW.trod_int Try.underlying3 h1
  simp only [List.cons.injEq, and_true] at e0 e1
  subst e0 e1
  exact ⟨a0, a1, rfl, w0, w1⟩
theorem ca_of_trod {fuel : Nat} {cs : List Value} {x : DataW H × List MemPlace} (h : DataW.trod enc Try.prog W base sp hd fuel 41 cs = some x) : ∃ e : Ca, cs = caCells e ∧ CaW e := by
  obtain ⟨xs, n, _, _, hl, hx, hf⟩ := DataW.trod_struct Try.underlying41 h
  rw [c_ca] at hl
  match cs, hl with
  | [c0, c1, c2, c3, c4, c5, c6], _ =>
  match xs, hx with
  | [y0, y1, y2], _ =>
  have h0 : DataW.trod enc Try.prog W base sp hd n 39 (([c0, c1, c2, c3, c4, c5, c6].drop 0).take (Try.prog.cellsOf 39)) = some y0 := hf 0 _ rfl
  rw [c_op] at h0
  replace h0 : DataW.trod enc Try.prog W base sp hd n 39 [c0, c1, c2, c3] = some y0 := h0
  have h1 : DataW.trod enc Try.prog W base sp hd n 35 (([c0, c1, c2, c3, c4, c5, c6].drop 4).take (Try.prog.cellsOf 35)) = some y1 := hf 1 _ rfl
  rw [c_res] at h1
  replace h1 : DataW.trod enc Try.prog W base sp hd n 35 [c4, c5] = some y1 := h1
  have h2 : DataW.trod enc Try.prog W base sp hd n 4 (([c0, c1, c2, c3, c4, c5, c6].drop 6).take (Try.prog.cellsOf 4)) = some y2 := hf 2 _ rfl
  rw [c_bool] at h2
  replace h2 : DataW.trod enc Try.prog W base sp hd n 4 [c6] = some y2 := h2
  obtain ⟨a0, a1, a2, a3, e0, w0, w1, w2, w3⟩ := op_of_trod h0
  obtain ⟨a4, a5, e1, w4, w5⟩ := res_of_trod h1
  obtain ⟨a6, e2, _⟩ := DataW.trod_bool Try.underlying4 h2
  simp only [List.cons.injEq, and_true] at e0 e1 e2
  obtain ⟨q0, q1, q2, q3⟩ := e0
  obtain ⟨q4, q5⟩ := e1
  subst q0 q1 q2 q3 q4 q5 e2
  exact ⟨⟨a0, a1, a2, a3, a4, a5, a6⟩, rfl, w0, w1, w2, w3, w4, w5⟩
/-- A slice of calls that came in. -/
theorem cas_of_trod {fuel : Nat} {v : Value} {x : DataW H × List MemPlace} (h : DataW.trod enc Try.prog W base sp hd fuel 22 [v] = some x) :
    ∃ (p : Option Addr) (cap : Nat) (l : List Ca), v = .slice p l.length cap ∧ l.length ≤ maxLen ∧ l.length ≤ cap ∧ cap ≤ maxLen ∧ CaP W p l := by
  rcases open_slice Try.underlying22 h with ⟨hcs, _⟩ | ⟨a, len, cap, m, n, D, Pl, hcs, _, hl, hm, hmm, _, hi⟩
  · simp only [List.cons.injEq, and_true] at hcs
    subst hcs
    exact ⟨none, 0, [], rfl, by simp, by simp, by simp, fun h => absurd rfl h⟩
  · simp only [List.cons.injEq, and_true] at hcs
    subst hcs
    have hml : len ≤ m := by rw [hmm]; split <;> omega
    obtain ⟨f, hf⟩ := choose_lt (α := Ca) (n := m) (p := fun i e => CaW e ∧ ∀ j, j < 7 → W.cell? (a.add (i * 7 + j)) = (caCells e)[j]?) fun i him => by
      obtain ⟨cs', h1, h2⟩ := hi i him
      obtain ⟨e, rfl, hw⟩ := ca_of_trod h2
      obtain ⟨_, _, h3⟩ := World.cells?_some h1
      rw [c_ca] at h3
      exact ⟨e, hw, fun j hj => by rw [← h3 j hj, Go.Deep.add_add]⟩
    refine ⟨some a, cap, (List.range len).map f, by simp, by simp; omega, by simpa using hl, hm, fun hne => ?_⟩
    have hlen : 0 < len := by
      rcases Nat.eq_zero_or_pos len with h | h
      · subst h; simp at hne
      · exact h
    obtain ⟨b, off, spot⟩ := a
    have hspot : spot = none := by simpa [Addr.add] using World.cell?_spot ((hf 0 (by omega)).2 0 (by omega))
    subst hspot
    refine ⟨b, off, rfl, ?_⟩
    have hev : ∀ i, i < len → caAt ((List.range len).map f) i = f i := fun i hi => by simp [caAt, hi]
    have hc : ∀ i j, i < len → j < 7 → W.cell? ⟨b, off + i * 7 + j, none⟩ = (caCells (caAt ((List.range len).map f) i))[j]? := fun i j hi hj => by
      rw [hev i hi, ← (hf i (by omega)).2 j hj, Go.WideShapes.add_plain, Nat.add_assoc]
    have hlt : b < W.heap.size := World.block_lt_of_cell? W ⟨b, off + 0 * 7 + 0, none⟩ ((hc 0 0 hlen (by omega)).trans rfl)
    refine ⟨hlt, fun i hi => ?_⟩
    have hi' : i < len := by simpa using hi
    exact ⟨by rw [hev i hi']; exact (hf i (by omega)).1, fun j hj => hc i j hi' hj⟩
end
end Go.Proofs.Ytlcegnehlhakdaa
