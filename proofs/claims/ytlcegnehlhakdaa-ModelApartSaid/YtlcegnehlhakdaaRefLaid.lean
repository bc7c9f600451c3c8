/-
  The document's own map of layer 7 with other objects laid in; it stands so.
  Conditions: none; lemmas over rows that a call owns.
-/
import Derived.Test.YtlcegnehlhakdaaRefPutT
namespace Go.Proofs.Ytlcegnehlhakdaa
open Go.RowKit Go.Maps Go
attribute [local go_sem] Later.cell Later.frozen Later.lt Later.le
set_option linter.unusedVariables false
set_option linter.unusedSimpArgs false
set_option maxRecDepth 4000

theorem thsC_at : ∀ {l : List Th} {j : Nat}, j < l.length → (thsC l)[j * 3]? = some (.int .i64 (l[j]!).o.h) ∧ (thsC l)[j * 3 + 1]? = some (.slice (l[j]!).q (l[j]!).o.bs.length (l[j]!).c) ∧ (thsC l)[j * 3 + 2]? = some (.int .i64 (l[j]!).o.pins)
  | [], _, h => by simp at h
  | x :: r, 0, _ => ⟨rfl, rfl, rfl⟩
  | x :: r, j + 1, h => by
    have hj : j < r.length := by simpa using h
    obtain ⟨a, b, c⟩ := thsC_at hj
    have e : (x :: r)[j + 1]! = r[j]! := by
      rw [getElem!_pos _ (j + 1) h, getElem!_pos _ j hj]
      simp
    rw [e]
    have s : ∀ m, (thsC (x :: r))[(j + 1) * 3 + m]? = (thsC r)[j * 3 + m]? := fun m => by
      have : thsC (x :: r) = [.int .i64 x.o.h, .slice x.q x.o.bs.length x.c, .int .i64 x.o.pins] ++ thsC r := by simp [thsC, thC]
      rw [this, List.getElem?_append_right (by simp; omega)]
      congr 1
      simp
      omega
    exact ⟨(s 0).trans a, (s 1).trans b, (s 2).trans c⟩
theorem thsC_len (l : List Th) : (thsC l).length = l.length * 3 := by
  induction l with
  | nil => rfl
  | cons x r ih =>
    have : thsC (x :: r) = [.int .i64 x.o.h, .slice x.q x.o.bs.length x.c, .int .i64 x.o.pins] ++ thsC r := by simp [thsC, thC]
    rw [this, List.length_append, ih]
    simp
    omega
theorem RefAt.laid {w W : World} {k : Nat} {S : St} {v : Value} {l' : List Th} (hR : RefAt w k S) (hS : Snc w W) (ho : Ths W w.heap.size v l') (hby : ∀ x ∈ l', IRow W x.q (intsOf x.o.bs)) :
    RefAt (W.setCell ⟨k, 0, none⟩ v) k ⟨l'.map (·.o), S.T⟩ ∧ NT (some k) w (W.setCell ⟨k, 0, none⟩ v) := by
  obtain ⟨l, e, p, c, p', c', hb, h1, h2, h3⟩ := hR
  have hk : k < w.heap.size := (Array.getElem?_eq_some_iff.1 hb).1
  have hbW := (hS.block k hk).trans hb
  have hnt2 : NT (some k) W (W.setCell ⟨k, 0, none⟩ v) := ⟨by simp, fun b cs T fr hb' hT hkb => by
    have hne : ¬ k = b := fun e => hkb (by rw [e])
    simp [World.setCell, Array.getElem?_modify, hne], fun kk e => by
    obtain rfl := Option.some.inj e
    exact ⟨rfl, rfl, rfl, fun b hb' hne => by simp [World.setCell, Array.getElem?_modify, Ne.symm hne]⟩⟩
  have hnt : NT (some k) w (W.setCell ⟨k, 0, none⟩ v) := ⟨Nat.le_trans (Below.size hS) (by simp), fun b cs T fr hb' hT hkb => by
    have hne : ¬ k = b := fun e => hkb (by rw [e])
    have := hS.block b (Array.getElem?_eq_some_iff.1 hb').1
    rw [← this]
    simp [World.setCell, Array.getElem?_modify, hne], fun kk e => by
    obtain rfl := Option.some.inj e
    exact ⟨hS.os, hS.tape, hS.output, fun b hb' hne => by rw [← hS.block b hb']; simp [World.setCell, Array.getElem?_modify, Ne.symm hne]⟩⟩
  have hkk : ∀ b, some k = some b → ∃ cs fr, w.heap[b]? = some (.cells cs 31 fr) := fun b e => by
    obtain rfl := Option.some.inj e
    exact ⟨_, _, hb⟩
  have hkW : ∀ b, some k = some b → ∃ cs fr, W.heap[b]? = some (.cells cs 31 fr) := fun b e => by
    obtain rfl := Option.some.inj e
    exact ⟨_, _, hbW⟩
  have hi3 := h3.nt hnt hkk
  have hi := fun x hx => (hby x hx).nt hnt2 hkW
  rcases ho.2 with ⟨rfl, h0⟩ | ⟨g, cap, cur, rfl, hg, hh, hnc, hcm, hcs, htk⟩
  · have hl : l' = [] := List.eq_nil_of_length_eq_zero h0
    subst hl
    refine ⟨⟨[], rfl, none, 0, p', c', ?_, fun j hj => by simp at hj, hi, hi3⟩, hnt⟩
    simp [World.setCell, Array.getElem?_modify, hbW]
  · refine ⟨⟨l', rfl, some ⟨g, 0, none⟩, cap, p', c', ?_, fun j hj => ⟨g, cur, rfl, ?_, ?_⟩, hi, hi3⟩, hnt⟩
    · simp [World.setCell, Array.getElem?_modify, hbW]
    · have hne : ¬ k = g := by omega
      simp [World.setCell, Array.getElem?_modify, hne, hh]
    · obtain ⟨a, b, d⟩ := thsC_at hj
      have key : ∀ m v, m < l'.length * 3 → (thsC l')[m]? = some v → cur[m]? = some v := fun m v hm hv => by
        have := congrArg (fun z : List Value => z[m]?) htk
        rw [List.getElem?_take_of_lt hm, hv] at this
        simpa using this
      exact ⟨key _ _ (by omega) a, key _ _ (by omega) b, key _ _ (by omega) d⟩
end Go.Proofs.Ytlcegnehlhakdaa
