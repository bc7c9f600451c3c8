/-
  The document's own plain cells, as they lie; what their calls do.
  Conditions: none but that such cells lie there.
-/
import Derived.Test.YtlidoicpfomfcaaDoorPlainCas
import Derived.Test.YtlidoicpfomfcaaDoorFs
namespace Go.Proofs.YtlidoicpfomfcaaDoor
open Go.RowKit
set_option linter.unusedVariables false

/-- The document's plain cells with these words lie at p, their words at q. -/
structure RMem (w : World) (p q : Nat) (bv : Value) (ws : List Int) (n : Int) : Prop where
  fp : Fs w p [.slice (some ⟨q, 0, none⟩) ws.length ws.length, bv, .int .i64 n]
  row : w.rowIs q 3 ws.length (fun i => .int .i64 (ws.getD i 0))
  pq : p ≠ q
  lq : q < w.heap.size
  ml : ws.length ≤ 4096
/-- The blocks that their calls may turn. -/
def rSpan (p q : Nat) : Nat → Prop := fun b => b = p ∨ b = q
theorem rSpan_not {p q b : Nat} (h1 : b ≠ p) (h2 : b ≠ q) : ¬ rSpan p q b := by rintro (h | h) <;> omega

namespace RMem
variable {S : Nat → Prop} {w w' : World} {p q : Nat} {bv : Value} {ws : List Int} {n : Int}
theorem of_block (h : RMem w p q bv ws n) (hz : w.heap.size ≤ w'.heap.size) (h1 : w'.heap[p]? = w.heap[p]?) (h2 : w'.heap[q]? = w.heap[q]?) : RMem w' p q bv ws n :=
  ⟨h.fp.of_block hz h1, h.row.of_block h2, h.pq, Nat.lt_of_lt_of_le h.lq hz, h.ml⟩
theorem moved (h : RMem w p q bv ws n) (m : Moved S w w') (h1 : ¬ S p) (h2 : ¬ S q) : RMem w' p q bv ws n := h.of_block m.size (m.block p h.fp.lt h1) (m.block q h.lq h2)
theorem below {B : Nat} (h : RMem w p q bv ws n) (hb : Below B w w') (h1 : p < B) (h2 : q < B) : RMem w' p q bv ws n := h.of_block hb.size (hb.block p h1) (hb.block q h2)
theorem later (h : RMem w p q bv ws n) (x : Later w) : RMem x.at' p q bv ws n := h.below x.below h.fp.lt h.lq
theorem drew (h : RMem w p q bv ws n) : RMem w.drew p q bv ws n := h.of_block (Nat.le_refl _) rfl rfl
theorem alloc (h : RMem w p q bv ws n) (o : Obj) : RMem (w.alloc o) p q bv ws n := h.below ((Below.refl _ _).alloc (Nat.le_refl _) _) h.fp.lt h.lq
theorem setN (h : RMem w p q bv ws n) (m : Int) : RMem (w.setCell ⟨p, 2, none⟩ (.int .i64 m)) p q bv ws m :=
  ⟨h.fp.set 2 (by simp) _, h.row.setOther (by simpa using h.pq.symm) _, h.pq, by simpa using h.lq, h.ml⟩
theorem setW (h : RMem w p q bv ws n) (i : Nat) (hi : i < ws.length) (v : Int) : RMem (w.setCell ⟨q, i, none⟩ (.int .i64 v)) p q bv (ws.set i v) n :=
  ⟨by rw [List.length_set]; exact h.fp.other _ _ h.pq.symm, by
    have := h.row.set i (.int .i64 v)
    rw [List.length_set]
    refine this.congr fun j hj => ?_
    by_cases e : j = i
    · subst e; simp [hj]
    · simp [e, Ne.symm e], h.pq, by simpa using h.lq, by simpa using h.ml⟩
end RMem

/-- What a call answers that may turn the document's plain cells, and nothing else of what was there. -/
def RRet (p q : Nat) (bv : Value) (w : World) (v : Value) (ws : List Int) (e : Ending) (w' : World) : Prop :=
  e = .returned v ∧ Moved (rSpan p q) w w' ∧ ∃ n, RMem w' p q bv ws n

section
variable {w : World} {p q : Nat} {bv : Value} {ws : List Int} {n : Int}
theorem rLoad_any (i : Int) (h : RMem w p q bv ws n) : Calls Tryd.prog 73 #[.pointer (some ⟨p, 0, none⟩), .int .i64 i] w (RRet p q bv w (.int .i64 (atI ws i)) ws) := by
  have h1 := h.setN (wrap64 (n + 1))
  have ht : Moved (rSpan p q) w (w.setCell ⟨p, 2, none⟩ (.int .i64 (wrap64 (n + 1)))) := (Moved.refl _ _).setCell _ _ (Or.inl rfl)
  have c2 : w.cell? ⟨p, 2, none⟩ = some (.int .i64 n) := h.fp.at' 2 rfl
  have f2 := h.fp.fz 2
  have c0 : (w.setCell ⟨p, 2, none⟩ (.int .i64 (wrap64 (n + 1)))).cell? ⟨p, 0, none⟩ = some (.slice (some ⟨q, 0, none⟩) ws.length ws.length) := h1.fp.at' 0 rfl
  have hml := h.ml
  cases k : inI ws i
  · rw [atI_no k]
    have hk := inI_no k
    by_cases i0 : i < 0
    · clear k hk
      go_enter Tryd.func73, Tryd.ntmps73
      go_wp2
      go_ret
      exact ⟨rfl, ht, _, h1⟩
    · have i1 : (ws.length : Int) ≤ i := by omega
      clear k hk
      go_enter Tryd.func73, Tryd.ntmps73
      go_wp2
      go_ret
      exact ⟨rfl, ht, _, h1⟩
  · rw [atI_in k]
    obtain ⟨k0, k1⟩ := inI_iff.1 k
    obtain ⟨j, rfl⟩ := Int.eq_ofNat_of_zero_le k0
    rw [Int.toNat_natCast]
    have hj : j < ws.length := by omega
    have hx : (w.setCell ⟨p, 2, none⟩ (.int .i64 (wrap64 (n + 1)))).cell? ⟨q, j, none⟩ = some (.int .i64 (ws.getD j 0)) := h1.row.cell hj
    generalize ws.getD j 0 = x at hx ⊢
    clear k
    go_enter Tryd.func73, Tryd.ntmps73
    go_wp2
    go_ret
    exact ⟨rfl, ht, _, h1⟩
theorem rStore_any (i v : Int) (h : RMem w p q bv ws n) : Calls Tryd.prog 14 #[.pointer (some ⟨p, 0, none⟩), .int .i64 i, .int .i64 v] w (RRet p q bv w (.tuple #[]) (setI ws i v)) := by
  have h1 := h.setN (wrap64 (n + 1))
  have ht : Moved (rSpan p q) w (w.setCell ⟨p, 2, none⟩ (.int .i64 (wrap64 (n + 1)))) := (Moved.refl _ _).setCell _ _ (Or.inl rfl)
  have c2 : w.cell? ⟨p, 2, none⟩ = some (.int .i64 n) := h.fp.at' 2 rfl
  have f2 := h.fp.fz 2
  have c0 : (w.setCell ⟨p, 2, none⟩ (.int .i64 (wrap64 (n + 1)))).cell? ⟨p, 0, none⟩ = some (.slice (some ⟨q, 0, none⟩) ws.length ws.length) := h1.fp.at' 0 rfl
  have hml := h.ml
  cases k : inI ws i
  · rw [setI_no k]
    have hk := inI_no k
    by_cases i0 : i < 0
    · have i0' : ¬ 0 ≤ i := by omega
      clear k hk
      go_enter Tryd.func14, Tryd.ntmps14
      go_wp2
      go_end0
      exact ⟨rfl, ht, _, h1⟩
    · have i0' : 0 ≤ i := by omega
      have i1 : ¬ i < (ws.length : Int) := by omega
      clear k hk i0
      go_enter Tryd.func14, Tryd.ntmps14
      go_wp2
      go_end0
      exact ⟨rfl, ht, _, h1⟩
  · rw [setI_in k]
    obtain ⟨k0, k1⟩ := inI_iff.1 k
    obtain ⟨j, rfl⟩ := Int.eq_ofNat_of_zero_le k0
    rw [Int.toNat_natCast]
    have hj : j < ws.length := by omega
    have hx : (w.setCell ⟨p, 2, none⟩ (.int .i64 (wrap64 (n + 1)))).cell? ⟨q, j, none⟩ = some (.int .i64 (ws.getD j 0)) := h1.row.cell hj
    have hf := h1.row.frozen j
    have h2 := h1.setW j hj v
    have ht2 := ht.setCell ⟨q, j, none⟩ (.int .i64 v) (Or.inr rfl)
    generalize ws.getD j 0 = x at hx
    clear k
    go_enter Tryd.func14, Tryd.ntmps14
    go_wp2
    go_end0
    exact ⟨rfl, ht2, _, h2⟩
theorem rCas_any (i o v : Int) (h : RMem w p q bv ws n) : Calls Tryd.prog 57 #[.pointer (some ⟨p, 0, none⟩), .int .i64 i, .int .i64 o, .int .i64 v] w (RRet p q bv w (.bool (casB ws i o)) (casW ws i o v)) := by
  have h1 := h.setN (wrap64 (n + 1))
  have ht : Moved (rSpan p q) w (w.setCell ⟨p, 2, none⟩ (.int .i64 (wrap64 (n + 1)))) := (Moved.refl _ _).setCell _ _ (Or.inl rfl)
  have c2 : w.cell? ⟨p, 2, none⟩ = some (.int .i64 n) := h.fp.at' 2 rfl
  have f2 := h.fp.fz 2
  have c0 : (w.setCell ⟨p, 2, none⟩ (.int .i64 (wrap64 (n + 1)))).cell? ⟨p, 0, none⟩ = some (.slice (some ⟨q, 0, none⟩) ws.length ws.length) := h1.fp.at' 0 rfl
  have hml := h.ml
  cases k : inI ws i
  · have e : casB ws i o = false := by unfold casB; rw [k]; rfl
    rw [casW_no e, e]
    have hk := inI_no k
    clear e
    by_cases i0 : i < 0
    · clear k hk
      go_enter Tryd.func57, Tryd.ntmps57
      go_wp2
      go_ret
      exact ⟨rfl, ht, _, h1⟩
    · have i1 : (ws.length : Int) ≤ i := by omega
      clear k hk
      go_enter Tryd.func57, Tryd.ntmps57
      go_wp2
      go_ret
      exact ⟨rfl, ht, _, h1⟩
  · obtain ⟨k0, k1⟩ := inI_iff.1 k
    have ea : atI ws i = ws.getD i.toNat 0 := atI_in k
    obtain ⟨j, rfl⟩ := Int.eq_ofNat_of_zero_le k0
    rw [Int.toNat_natCast] at ea
    have hj : j < ws.length := by omega
    have hx : (w.setCell ⟨p, 2, none⟩ (.int .i64 (wrap64 (n + 1)))).cell? ⟨q, j, none⟩ = some (.int .i64 (ws.getD j 0)) := h1.row.cell hj
    have hf := h1.row.frozen j
    by_cases hd : ws.getD j 0 = o
    · have e : casB ws j o = true := by unfold casB; rw [k, ea]; simpa using hd
      have h2 := h1.setW j hj v
      have ht2 := ht.setCell ⟨q, j, none⟩ (.int .i64 v) (Or.inr rfl)
      rw [casW_yes e, e, setI_in k, Int.toNat_natCast]
      rw [hd] at hx
      clear k e ea hd
      go_enter Tryd.func57, Tryd.ntmps57
      go_wp2
      go_ret
      exact ⟨rfl, ht2, _, h2⟩
    · have e : casB ws j o = false := by unfold casB; rw [k, ea]; simpa using hd
      rw [casW_no e, e]
      generalize ws.getD j 0 = x at hx hd
      clear k e ea
      go_enter Tryd.func57, Tryd.ntmps57
      go_wp2
      go_ret
      exact ⟨rfl, ht, _, h1⟩
end
end Go.Proofs.YtlidoicpfomfcaaDoor
