/-
  The sample answers of layer 8.
  Conditions: that the program's functions answer as the document says (Has8).
-/
import Derived.Test.YtfjgmggpkljphaaEvHas
import Derived.Test.YtfjgmggpkljphaaIntSame
namespace Go.Proofs.Ytfjgmggpkljphaa
open Go.RowKit
attribute [local go_sem] Later.cell Later.frozen Later.lt Later.le
set_option linter.unusedVariables false

/-- An event, as it lies in memory. -/
def evCells (x : Ev) : List Value := [.int .i64 x.th, .bool x.bk, .int .i64 x.d, .int .i64 x.h, .int .i64 x.o, .int .i64 x.n, .int .i64 x.c, .int .i64 x.r]
def evsCells (l : List Ev) : List Value := l.flatMap evCells
theorem evsCells_get : ∀ (l : List Ev) (j i : Nat) (u : Value), j < l.length → (evCells (evAt l j))[i]? = some u → (evsCells l)[j * 8 + i]? = some u
  | [], j, i, u, hj, _ => by simp at hj
  | x :: l, 0, i, u, _, hu => by
    show (evCells x ++ evsCells l)[0 * 8 + i]? = some u
    have hi : i < (evCells x).length := (List.getElem?_eq_some_iff.1 hu).1
    rw [Nat.zero_mul, Nat.zero_add, List.getElem?_append_left hi]
    exact hu
  | x :: l, j + 1, i, u, hj, hu => by
    show (evCells x ++ evsCells l)[(j + 1) * 8 + i]? = some u
    rw [List.getElem?_append_right (by simp [evCells]; omega)]
    have e : (j + 1) * 8 + i - (evCells x).length = j * 8 + i := by simp [evCells]; omega
    rw [e]
    exact evsCells_get l j i u (by simpa using hj) (by simpa [evAt] using hu)
/-- Cells that hold the events, from the start of a block. -/
theorem evsAt_cells {w : World} {g : Nat} {l : List Ev} (hg : g < w.heap.size) (h : ∀ j u, (evsCells l)[j]? = some u → w.cell? ⟨g, j, none⟩ = some u) : EvsAt w g 0 l := by
  have e : ∀ j i u, j < l.length → (evCells (evAt l j))[i]? = some u → w.cell? ⟨g, 0 + j * 8 + i, none⟩ = some u := fun j i u hj hu => by
    rw [Nat.zero_add]
    exact h _ _ (evsCells_get l j i u hj hu)
  exact ⟨hg, fun i hi => e i 0 _ hi rfl, fun i hi => e i 1 _ hi rfl, fun i hi => e i 2 _ hi rfl, fun i hi => e i 3 _ hi rfl, fun i hi => e i 4 _ hi rfl, fun i hi => e i 5 _ hi rfl, fun i hi => e i 6 _ hi rfl, fun i hi => e i 7 _ hi rfl⟩
theorem evsAt_new (w : World) (T : TypeId) (l : List Ev) : EvsAt (w.alloc (.cells (evsCells l).toArray T)) w.heap.size 0 l :=
  evsAt_cells (by simp) fun j u hu => by
    rw [World.cell?_alloc_new]
    simpa using hu

def L4 : List Ev := [⟨1, false, 2, 7, 0, 0, 0, 0⟩, ⟨0, false, 1, 5, 0, 0, 0, 0⟩, ⟨1, true, 0, 0, 0, 0, 0, 9⟩, ⟨1, false, 2, 7, 0, 0, 0, 0⟩]
def L1 : List Ev := [⟨0, true, 0, 0, 0, 0, 0, 0⟩]
theorem L4_calls : callsOf L4 = [⟨1, 2, 7, 0, 0, 0, 9, true, 0, 2⟩, ⟨0, 1, 5, 0, 0, 0, 0, false, 1, 4⟩, ⟨1, 2, 7, 0, 0, 0, 0, false, 3, 4⟩] := by kernel_rfl
theorem L4_hist : histE L4 = 0 := by kernel_rfl
theorem L1_calls : callsOf L1 = [] := by kernel_rfl
theorem L1_hist : histE L1 = 2 := by kernel_rfl
theorem L4_hands : hands L4 = [5, 7, 9] := by kernel_rfl

def C3 : List Cl := [⟨1, 2, 7, 0, 0, 0, 9, true, 0, 2⟩, ⟨0, 1, 5, 0, 0, 0, 0, false, 1, 4⟩, ⟨1, 2, 7, 0, 0, 0, 0, false, 3, 4⟩]
theorem live_cells {w : World} {g : Nat} (h : ClsAt w g C3) :
    (w.cell? ⟨g, 0, none⟩ = some (.int .i64 1) ∧ w.cell? ⟨g, 1, none⟩ = some (.int .i64 2) ∧ w.cell? ⟨g, 2, none⟩ = some (.int .i64 7) ∧ w.cell? ⟨g, 3, none⟩ = some (.int .i64 0) ∧ w.cell? ⟨g, 4, none⟩ = some (.int .i64 0) ∧ w.cell? ⟨g, 5, none⟩ = some (.int .i64 0) ∧ w.cell? ⟨g, 6, none⟩ = some (.int .i64 9) ∧ w.cell? ⟨g, 7, none⟩ = some (.bool true) ∧ w.cell? ⟨g, 8, none⟩ = some (.int .i64 0) ∧ w.cell? ⟨g, 9, none⟩ = some (.int .i64 2)) ∧
    (w.cell? ⟨g, 10, none⟩ = some (.int .i64 0) ∧ w.cell? ⟨g, 11, none⟩ = some (.int .i64 1) ∧ w.cell? ⟨g, 12, none⟩ = some (.int .i64 5) ∧ w.cell? ⟨g, 13, none⟩ = some (.int .i64 0) ∧ w.cell? ⟨g, 14, none⟩ = some (.int .i64 0) ∧ w.cell? ⟨g, 15, none⟩ = some (.int .i64 0) ∧ w.cell? ⟨g, 16, none⟩ = some (.int .i64 0) ∧ w.cell? ⟨g, 17, none⟩ = some (.bool false) ∧ w.cell? ⟨g, 18, none⟩ = some (.int .i64 1) ∧ w.cell? ⟨g, 19, none⟩ = some (.int .i64 4)) ∧
    (w.cell? ⟨g, 20, none⟩ = some (.int .i64 1) ∧ w.cell? ⟨g, 21, none⟩ = some (.int .i64 2) ∧ w.cell? ⟨g, 22, none⟩ = some (.int .i64 7) ∧ w.cell? ⟨g, 23, none⟩ = some (.int .i64 0) ∧ w.cell? ⟨g, 24, none⟩ = some (.int .i64 0) ∧ w.cell? ⟨g, 25, none⟩ = some (.int .i64 0) ∧ w.cell? ⟨g, 26, none⟩ = some (.int .i64 0) ∧ w.cell? ⟨g, 27, none⟩ = some (.bool false) ∧ w.cell? ⟨g, 28, none⟩ = some (.int .i64 3) ∧ w.cell? ⟨g, 29, none⟩ = some (.int .i64 4)) :=
  ⟨⟨h 0 0 _ (by decide) rfl, h 0 1 _ (by decide) rfl, h 0 2 _ (by decide) rfl, h 0 3 _ (by decide) rfl, h 0 4 _ (by decide) rfl, h 0 5 _ (by decide) rfl, h 0 6 _ (by decide) rfl, h 0 7 _ (by decide) rfl, h 0 8 _ (by decide) rfl, h 0 9 _ (by decide) rfl⟩,
   ⟨h 1 0 _ (by decide) rfl, h 1 1 _ (by decide) rfl, h 1 2 _ (by decide) rfl, h 1 3 _ (by decide) rfl, h 1 4 _ (by decide) rfl, h 1 5 _ (by decide) rfl, h 1 6 _ (by decide) rfl, h 1 7 _ (by decide) rfl, h 1 8 _ (by decide) rfl, h 1 9 _ (by decide) rfl⟩,
   ⟨h 2 0 _ (by decide) rfl, h 2 1 _ (by decide) rfl, h 2 2 _ (by decide) rfl, h 2 3 _ (by decide) rfl, h 2 4 _ (by decide) rfl, h 2 5 _ (by decide) rfl, h 2 6 _ (by decide) rfl, h 2 7 _ (by decide) rfl, h 2 8 _ (by decide) rfl, h 2 9 _ (by decide) rfl⟩⟩
/-- The row of the sample's calls, seen later. -/
theorem live_row {T : TypeId} {w u : World} {base : Nat} {v : Value} (h : Cls T w base v C3) (hb : Below w.heap.size w u) : ∃ g c, v = .slice (some ⟨g, 0, none⟩) 3 c ∧ g < u.heap.size ∧ ClsAt u g C3 := by
  obtain ⟨p, c, e, hs⟩ := h.shape
  obtain ⟨g, rfl, _, hg, hat⟩ := hs (by decide)
  exact ⟨g, c, e, Nat.lt_of_lt_of_le hg hb.size, hat.below hg hb⟩
theorem live_l4 (H8 : Has8) {w : World} {p : Option Addr} {cap : Nat} (hE : EvsP w p L4) : Calls Try.prog 36 #[.slice p 4 cap] w (ClsRet 72 w C3 0) := by
  have h := H8.calls p cap L4 w hE (by decide)
  rw [L4_calls, L4_hist] at h
  exact h
theorem live_l1 (H8 : Has8) {w : World} {p : Option Addr} {cap : Nat} (hE : EvsP w p L1) : Calls Try.prog 36 #[.slice p 1 cap] w (ClsRet 72 w [] 2) := by
  have h := H8.calls p cap L1 w hE (by decide)
  rw [L1_calls, L1_hist] at h
  exact h
theorem live_ck (H8 : Has8) {w : World} {p : Option Addr} {cap : Nat} (hE : EvsP w p L4) : Calls Try.prog 40 #[.slice p 4 cap] w (Ret w (.int .i64 0)) := by
  have h := H8.check p cap L4 w hE (by decide)
  rw [L4_hist] at h
  exact h
theorem live_hd (H8 : Has8) {w : World} {p : Option Addr} {cap : Nat} (hE : EvsP w p L4) : Calls Try.prog 42 #[.slice p 4 cap] w (IntsRet w [5, 7, 9]) := by
  have h := H8.handles p cap L4 w hE (by decide)
  rw [L4_hands] at h
  exact h
theorem live_b1 (H8 : Has8) (w : World) : Calls Try.prog 44 #[.agg #[.int .i64 1, .int .i64 2, .int .i64 7, .int .i64 0, .int .i64 0, .int .i64 0, .int .i64 9, .bool true, .int .i64 0, .int .i64 2], .agg #[.int .i64 1, .int .i64 2, .int .i64 7, .int .i64 0, .int .i64 0, .int .i64 0, .int .i64 0, .bool false, .int .i64 3, .int .i64 4]] w (Ret w (.bool true)) := H8.before ⟨1, 2, 7, 0, 0, 0, 9, true, 0, 2⟩ ⟨1, 2, 7, 0, 0, 0, 0, false, 3, 4⟩ w
theorem live_b2 (H8 : Has8) (w : World) : Calls Try.prog 44 #[.agg #[.int .i64 1, .int .i64 2, .int .i64 7, .int .i64 0, .int .i64 0, .int .i64 0, .int .i64 9, .bool true, .int .i64 0, .int .i64 2], .agg #[.int .i64 0, .int .i64 1, .int .i64 5, .int .i64 0, .int .i64 0, .int .i64 0, .int .i64 0, .bool false, .int .i64 1, .int .i64 4]] w (Ret w (.bool false)) := H8.before ⟨1, 2, 7, 0, 0, 0, 9, true, 0, 2⟩ ⟨0, 1, 5, 0, 0, 0, 0, false, 1, 4⟩ w
theorem live_b3 (H8 : Has8) (w : World) : Calls Try.prog 44 #[.agg #[.int .i64 0, .int .i64 1, .int .i64 5, .int .i64 0, .int .i64 0, .int .i64 0, .int .i64 0, .bool false, .int .i64 1, .int .i64 4], .agg #[.int .i64 1, .int .i64 2, .int .i64 7, .int .i64 0, .int .i64 0, .int .i64 0, .int .i64 0, .bool false, .int .i64 3, .int .i64 4]] w (Ret w (.bool false)) := H8.before ⟨0, 1, 5, 0, 0, 0, 0, false, 1, 4⟩ ⟨1, 2, 7, 0, 0, 0, 0, false, 3, 4⟩ w

/-- The sample's row of handles, as it was made. -/
theorem row579 (w : World) (T : TypeId) : IntsP (w.alloc (.cells #[.int .i64 5, .int .i64 7, .int .i64 9] T)) (some ⟨w.heap.size, 0, none⟩) [5, 7, 9] := fun j hj => by
  refine ⟨w.heap.size, rfl, by simp, ?_⟩
  rw [World.cell?_alloc_new]
  match j, hj with
  | 0, _ | 1, _ | 2, _ => rfl

theorem Ints.slice' {w : World} {base : Nat} {v : Value} {l : List Int} (n : Nat) (hn : l.length = n) (h : Ints w base v l) : ∃ p c, v = .slice p n c ∧ IntsP w p l := by
  subst hn
  exact h.slice
theorem liveK {V w' : World} {g : Nat} (h : ClsAt V g C3) (hg : g < V.heap.size) (hS : Since' V w') : (w'.cell? ⟨g, 0, none⟩ = some (.int .i64 1) ∧ w'.cell? ⟨g, 1, none⟩ = some (.int .i64 2) ∧ w'.cell? ⟨g, 2, none⟩ = some (.int .i64 7) ∧ w'.cell? ⟨g, 3, none⟩ = some (.int .i64 0) ∧ w'.cell? ⟨g, 4, none⟩ = some (.int .i64 0) ∧ w'.cell? ⟨g, 5, none⟩ = some (.int .i64 0) ∧ w'.cell? ⟨g, 6, none⟩ = some (.int .i64 9) ∧ w'.cell? ⟨g, 7, none⟩ = some (.bool true) ∧ w'.cell? ⟨g, 8, none⟩ = some (.int .i64 0) ∧ w'.cell? ⟨g, 9, none⟩ = some (.int .i64 2) ∧ w'.cell? ⟨g, 10, none⟩ = some (.int .i64 0) ∧ w'.cell? ⟨g, 11, none⟩ = some (.int .i64 1) ∧ w'.cell? ⟨g, 12, none⟩ = some (.int .i64 5) ∧ w'.cell? ⟨g, 13, none⟩ = some (.int .i64 0) ∧ w'.cell? ⟨g, 14, none⟩ = some (.int .i64 0) ∧ w'.cell? ⟨g, 15, none⟩ = some (.int .i64 0) ∧ w'.cell? ⟨g, 16, none⟩ = some (.int .i64 0) ∧ w'.cell? ⟨g, 17, none⟩ = some (.bool false) ∧ w'.cell? ⟨g, 18, none⟩ = some (.int .i64 1) ∧ w'.cell? ⟨g, 19, none⟩ = some (.int .i64 4) ∧ w'.cell? ⟨g, 20, none⟩ = some (.int .i64 1) ∧ w'.cell? ⟨g, 21, none⟩ = some (.int .i64 2) ∧ w'.cell? ⟨g, 22, none⟩ = some (.int .i64 7) ∧ w'.cell? ⟨g, 23, none⟩ = some (.int .i64 0) ∧ w'.cell? ⟨g, 24, none⟩ = some (.int .i64 0) ∧ w'.cell? ⟨g, 25, none⟩ = some (.int .i64 0) ∧ w'.cell? ⟨g, 26, none⟩ = some (.int .i64 0) ∧ w'.cell? ⟨g, 27, none⟩ = some (.bool false) ∧ w'.cell? ⟨g, 28, none⟩ = some (.int .i64 3) ∧ w'.cell? ⟨g, 29, none⟩ = some (.int .i64 4)) ∧ Since' V w' := by
  obtain ⟨⟨a0, a1, a2, a3, a4, a5, a6, a7, a8, a9⟩, ⟨b0, b1, b2, b3, b4, b5, b6, b7, b8, b9⟩, ⟨c0, c1, c2, c3, c4, c5, c6, c7, c8, c9⟩⟩ := live_cells (h.below hg hS)
  exact ⟨⟨a0, a1, a2, a3, a4, a5, a6, a7, a8, a9, b0, b1, b2, b3, b4, b5, b6, b7, b8, b9, c0, c1, c2, c3, c4, c5, c6, c7, c8, c9⟩, hS⟩
theorem EvsP.since {V w' : World} {p : Option Addr} {l : List Ev} (h : EvsP V p l) (hS : Since' V w') : EvsP w' p l := h.below hS
theorem iSame3 {p1 p2 : Option Addr} {c1 c2 : Nat} {w : World} (h1 : IntsP w p1 [5, 7, 9]) (h2 : IntsP w p2 [5, 7, 9]) :
    Calls Try.prog 25 #[.slice p1 3 c1, .slice p2 3 c2] w (Ret w (.bool true)) := iSame_any rfl (by decide) h1 h2
theorem Since'.of {A V w' : World} (h : Below A.heap.size A V) (hS : Since' V w') : Below A.heap.size A w' := h.trans (Below.mono hS h.size)
theorem sinceK {A : Prop} {V w' : World} (h : A ∧ Since' V w') : Since' V w' := h.2

end Go.Proofs.Ytfjgmggpkljphaa
