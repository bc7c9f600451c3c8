/-
  A row of events that a call makes of its own by append.
  Conditions: none; plain lemmas.
-/
import Derived.Test.YtfjgmggpkljphaaEvLive
import Derived.Test.YtfjgmggpkljphaaRowMore
namespace Go.Proofs.Ytfjgmggpkljphaa
open Go.RowKit
set_option linter.unusedVariables false

theorem info_ev : (Try.prog.info? 77).map (fun i => (i.zero, i.size, i.bytes)) = some (some (.agg #[.int .i64 0, .bool false, .int .i64 0, .int .i64 0, .int .i64 0, .int .i64 0, .int .i64 0, .int .i64 0]), 8, 64) := by kernel_rfl
/-- The value owns these events, in a block from base on. -/
def EvRow (w : World) (base : Nat) (v : Value) (l : List Ev) : Prop := w.ownsRow base 77 8 v l.length (evsCells l)
theorem evsCells_app (l k : List Ev) : evsCells (l ++ k) = evsCells l ++ evsCells k := by simp [evsCells]
theorem evsCells_len (l : List Ev) : (evsCells l).length = l.length * 8 := by
  induction l with
  | nil => rfl
  | cons x l ih =>
    have e : evsCells (x :: l) = evCells x ++ evsCells l := by simp [evsCells]
    rw [e, List.length_append, ih, List.length_cons]
    simp [evCells]; omega
theorem evsCells_one (l : List Ev) : ∀ u ∈ evsCells l, u.oneCell' = true := by
  intro u hu
  simp only [evsCells, List.mem_flatMap] at hu
  obtain ⟨x, _, hu⟩ := hu
  simp only [evCells, List.mem_cons, List.not_mem_nil, or_false] at hu
  rcases hu with rfl | rfl | rfl | rfl | rfl | rfl | rfl | rfl <;> rfl
theorem evsCells_at : ∀ (l : List Ev) (q r : Nat), q < l.length → r < 8 → (evsCells l)[q * 8 + r]? = (evCells (evAt l q))[r]?
  | [], q, r, h, _ => by simp at h
  | x :: l, 0, r, h, hr => by
    have e : evsCells (x :: l) = evCells x ++ evsCells l := by simp [evsCells]
    rw [e, Nat.zero_mul, Nat.zero_add, List.getElem?_append_left (by simpa [evCells] using hr)]
    rfl
  | x :: l, q + 1, r, h, hr => by
    have e : evsCells (x :: l) = evCells x ++ evsCells l := by simp [evsCells]
    have hl : (evCells x).length = 8 := rfl
    rw [e, List.getElem?_append_right (by rw [hl]; omega), hl, show (q + 1) * 8 + r - 8 = q * 8 + r by omega, evsCells_at l q r (by simpa using h) hr]
    rfl
theorem EvsAt.at {w : World} {b off : Nat} {l : List Ev} (h : EvsAt w b off l) : ∀ j u, (evsCells l)[j]? = some u → w.cell? ((⟨b, off, none⟩ : Addr).add j) = some u := fun j u hu => by
  have hj : j < l.length * 8 := by rw [← evsCells_len]; exact (List.getElem?_eq_some_iff.1 hu).1
  obtain ⟨q, r, hr, rfl⟩ : ∃ q r, r < 8 ∧ j = q * 8 + r := ⟨j / 8, j % 8, Nat.mod_lt _ (by omega), by omega⟩
  have hq : q < l.length := by omega
  rw [evsCells_at l q r hq hr] at hu
  rw [Addr.add_lit, ← Nat.add_assoc]
  match r, hr, hu with
  | 0, _, hu => exact (h.c0 q hq).trans hu
  | 1, _, hu => exact (h.c1 q hq).trans hu
  | 2, _, hu => exact (h.c2 q hq).trans hu
  | 3, _, hu => exact (h.c3 q hq).trans hu
  | 4, _, hu => exact (h.c4 q hq).trans hu
  | 5, _, hu => exact (h.c5 q hq).trans hu
  | 6, _, hu => exact (h.c6 q hq).trans hu
  | 7, _, hu => exact (h.c7 q hq).trans hu
/-- What an append of events that came in asks. -/
theorem EvsP.news {w : World} {p : Option Addr} {l : List Ev} (h : EvsP w p l) : (p = none → l.length = 0) ∧ ∀ ad, p = some ad → ∀ j u, (evsCells l)[j]? = some u → w.cell? (ad.add j) = some u := by
  by_cases hl : l = []
  · subst hl
    exact ⟨fun _ => rfl, fun ad _ j u hu => by simp [evsCells] at hu⟩
  · obtain ⟨b, off, rfl, hE⟩ := h hl
    exact ⟨fun e => by simp at e, fun ad e => by obtain rfl := Option.some.inj e; exact hE.at⟩
theorem EvRow.nil (w : World) (base : Nat) : EvRow w base (.slice none 0 0) [] := World.ownsRow_nil _ _ _ _
theorem EvRow.app {w : World} {base : Nat} {v : Value} {l k : List Ev} (h : w.ownsRow base 77 8 v (l.length + k.length) (evsCells l ++ evsCells k)) : EvRow w base v (l ++ k) := by
  unfold EvRow
  rw [List.length_append, evsCells_app]
  exact h
theorem EvRow.sliceP {w : World} {base : Nat} {v : Value} {l : List Ev} (h : EvRow w base v l) : ∃ p c, v = .slice p l.length c ∧ EvsP w p l := by
  have h' := h
  rcases h.2 with ⟨hv, h0⟩ | ⟨g, cap, cur, rfl, hg, hh, _, _, _, _⟩
  · exact ⟨none, 0, by rw [hv, h0], fun hl => absurd (List.eq_nil_of_length_eq_zero h0) hl⟩
  · refine ⟨_, cap, rfl, fun hl => ⟨g, 0, rfl, evsAt_cells (Array.getElem?_eq_some_iff.1 hh).1 fun j u hu => ?_⟩⟩
    have := World.ownsRow.cells h' (g := g) rfl j u hu
    rwa [Addr.add_lit, Nat.zero_add] at this
/-- What an append of numbers asks. -/
theorem IntsP.news {w : World} {p : Option Addr} {l : List Int} (h : IntsP w p l) : (p = none → l.length = 0) ∧ ∀ ad, p = some ad → ∀ j u, (l.map (Value.int .i64))[j]? = some u → w.cell? (ad.add j) = some u := by
  refine ⟨fun e => ?_, fun ad e j u hu => ?_⟩
  · rcases Nat.eq_zero_or_pos l.length with h0 | h0
    · exact h0
    · obtain ⟨g, e2, _⟩ := h 0 h0
      rw [e] at e2; cases e2
  · have hj : j < l.length := by
      have := (List.getElem?_eq_some_iff.1 hu).1
      simpa using this
    obtain ⟨g, e2, _, hc⟩ := h j hj
    rw [e] at e2
    obtain rfl := Option.some.inj e2
    rw [Addr.add_lit, Nat.zero_add, hc]
    simpa [hj] using hu
theorem ints_one (l : List Int) : ∀ u ∈ l.map (Value.int .i64), u.oneCell' = true := by
  intro u hu
  obtain ⟨x, _, rfl⟩ := List.mem_map.1 hu
  rfl
theorem Ints.app {w : World} {base : Nat} {v : Value} {l k : List Int} (h : w.ownsRow base 3 1 v (l.length + k.length) (l.map (Value.int .i64) ++ k.map (Value.int .i64))) : Ints w base v (l ++ k) := by
  unfold Ints
  rw [List.length_append, List.map_append]
  exact h
end Go.Proofs.Ytfjgmggpkljphaa
