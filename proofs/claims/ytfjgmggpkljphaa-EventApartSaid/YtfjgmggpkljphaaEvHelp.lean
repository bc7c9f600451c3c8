/-
  What the document's own Before and Same, and the statements' own helpers, answer for layer 8.
  Conditions: none, or that rows of calls lie in memory.
-/
import Derived.Test.YtfjgmggpkljphaaEvCalls
import Derived.Test.YtfjgmggpkljphaaIntRow
import Derived.Deep.RegionHeld3
import Derived.OwnWalk
namespace Go.Proofs.Ytfjgmggpkljphaa
open Go.RowKit
attribute [local go_sem] Later.cell Later.frozen Later.lt Later.le
set_option linter.unusedVariables false

/-- A call, as it is handed on. -/
def clV (x : Cl) : Value := .agg (clCells x).toArray
theorem told_any (x : Cl) (w : World) : Calls Try.prog 65 #[clV x] w (Ret w (clV x)) := by
  obtain ⟨th, d, h, o, n, c, r, dn, fr, to⟩ := x
  show Calls Try.prog 65 #[.agg #[.int .i64 th, .int .i64 d, .int .i64 h, .int .i64 o, .int .i64 n, .int .i64 c, .int .i64 r, .bool dn, .int .i64 fr, .int .i64 to]] w (Ret w (.agg #[.int .i64 th, .int .i64 d, .int .i64 h, .int .i64 o, .int .i64 n, .int .i64 c, .int .i64 r, .bool dn, .int .i64 fr, .int .i64 to]))
  go_enter Try.func65, Try.ntmps65
  go_wp2
  refine bodyPost_ret (v := .agg #[.int .i64 th, .int .i64 d, .int .i64 h, .int .i64 o, .int .i64 n, .int .i64 c, .int .i64 r, .bool dn, .int .i64 fr, .int .i64 to]) (by simp [results, Try.results65, go_sem]) rfl (Ret.mk rfl ?_)
  exact ((Below.refl _ _).alloc (Nat.le_refl _) _).alloc (by simp) _
theorem own_any (x : Cl) (w : World) : Calls Try.prog 45 #[clV x] w (Ret w (clV x)) := by
  obtain ⟨th, d, h, o, n, c, r, dn, fr, to⟩ := x
  show Calls Try.prog 45 #[.agg #[.int .i64 th, .int .i64 d, .int .i64 h, .int .i64 o, .int .i64 n, .int .i64 c, .int .i64 r, .bool dn, .int .i64 fr, .int .i64 to]] w (Ret w (.agg #[.int .i64 th, .int .i64 d, .int .i64 h, .int .i64 o, .int .i64 n, .int .i64 c, .int .i64 r, .bool dn, .int .i64 fr, .int .i64 to]))
  go_enter Try.func45, Try.ntmps45
  go_wp2
  refine bodyPost_ret (v := .agg #[.int .i64 th, .int .i64 d, .int .i64 h, .int .i64 o, .int .i64 n, .int .i64 c, .int .i64 r, .bool dn, .int .i64 fr, .int .i64 to]) (by simp [results, Try.results45, go_sem]) rfl (Ret.mk rfl ?_)
  exact ((Below.refl _ _).alloc (Nat.le_refl _) _).alloc (by simp) _
/-- Whether one is before another. -/
def clBefore (a b : Cl) : Bool := a.done && decide (a.to < b.fr)
theorem rBefore_any (a b : Cl) (w : World) : Calls Try.prog 46 #[clV a, clV b] w (Ret w (.bool (clBefore a b))) := by
  obtain ⟨th, d, h, o, n, c, r, dn, fr, to⟩ := a
  obtain ⟨th2, d2, h2, o2, n2, c2, r2, dn2, fr2, to2⟩ := b
  show Calls Try.prog 46 #[.agg #[.int .i64 th, .int .i64 d, .int .i64 h, .int .i64 o, .int .i64 n, .int .i64 c, .int .i64 r, .bool dn, .int .i64 fr, .int .i64 to], .agg #[.int .i64 th2, .int .i64 d2, .int .i64 h2, .int .i64 o2, .int .i64 n2, .int .i64 c2, .int .i64 r2, .bool dn2, .int .i64 fr2, .int .i64 to2]] w (Ret w (.bool (dn && decide (to < fr2))))
  go_enter Try.func46, Try.ntmps46
  cases dn
  · go_wp2
    go_ret
    exact Ret.mk rfl (((Below.refl _ _).alloc (Nat.le_refl _) _).alloc (by simp) _)
  · by_cases hlt : to < fr2
    · go_wp2
      go_ret
      exact Ret.mk (by simp [hlt]) (((Below.refl _ _).alloc (Nat.le_refl _) _).alloc (by simp) _)
    · go_wp2
      go_ret
      exact Ret.mk (by simp [hlt]) (((Below.refl _ _).alloc (Nat.le_refl _) _).alloc (by simp) _)

instance : Inhabited Cl := ⟨⟨0, 0, 0, 0, 0, 0, 0, false, 0, 0⟩⟩
/-- Calls lie there, one behind the other. -/
def ClsAt (w : World) (g : Nat) (l : List Cl) : Prop := ∀ j i u, j < l.length → (clCells (l.getD j default))[i]? = some u → w.cell? ⟨g, j * 10 + i, none⟩ = some u
theorem clsCells_get : ∀ (l : List Cl) (j i : Nat) (u : Value), j < l.length → (clCells (l.getD j default))[i]? = some u → (clsCells l)[j * 10 + i]? = some u
  | [], j, i, u, hj, _ => by simp at hj
  | x :: l, 0, i, u, _, hu => by
    show (clCells x ++ clsCells l)[0 * 10 + i]? = some u
    have hi : i < (clCells x).length := (List.getElem?_eq_some_iff.1 hu).1
    rw [Nat.zero_mul, Nat.zero_add, List.getElem?_append_left hi]
    exact hu
  | x :: l, j + 1, i, u, hj, hu => by
    show (clCells x ++ clsCells l)[(j + 1) * 10 + i]? = some u
    rw [List.getElem?_append_right (by simp [clCells]; omega)]
    have e : (j + 1) * 10 + i - (clCells x).length = j * 10 + i := by simp [clCells]; omega
    rw [e]
    exact clsCells_get l j i u (by simpa using hj) (by simpa using hu)
/-- What the value looks like, with any call or none. -/
theorem Cls.shape {T : TypeId} {w : World} {base : Nat} {v : Value} {l : List Cl} (h : Cls T w base v l) :
    ∃ p c, v = .slice p l.length c ∧ (l ≠ [] → ∃ g, p = some ⟨g, 0, none⟩ ∧ base ≤ g ∧ g < w.heap.size ∧ ClsAt w g l) := by
  have h' := h
  rcases h.2 with ⟨hv, h0⟩ | ⟨g, cap, cur, rfl, hg, hh, _, _, _, _⟩
  · exact ⟨none, 0, by rw [hv, h0], fun hl => absurd (List.eq_nil_of_length_eq_zero h0) hl⟩
  · refine ⟨_, cap, rfl, fun _ => ⟨g, rfl, hg, (Array.getElem?_eq_some_iff.1 hh).1, fun j i u hj hu => ?_⟩⟩
    have := World.ownsRow.cells h' (g := g) rfl (j * 10 + i) u (clsCells_get l j i u hj hu)
    rwa [Addr.add_lit, Nat.zero_add] at this
theorem ClsAt.below {w w' : World} {g : Nat} {l : List Cl} (h : ClsAt w g l) (hg : g < w.heap.size) (hb : Below w.heap.size w w') : ClsAt w' g l := fun j i u hj hu => (hb.cell (p := ⟨g, j * 10 + i, none⟩) hg).trans (h j i u hj hu)
end Go.Proofs.Ytfjgmggpkljphaa
