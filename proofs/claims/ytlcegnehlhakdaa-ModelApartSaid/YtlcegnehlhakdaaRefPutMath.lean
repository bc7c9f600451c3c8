/-
  What the document's own put comes to, as plain lists, for layer 7.
  Conditions: none; statements over lists.
-/
import Derived.Test.YtlcegnehlhakdaaRefTell
namespace Go.Proofs.Ytlcegnehlhakdaa
open Go.RowKit Go.Maps Go
set_option linter.unusedVariables false
set_option linter.unusedSimpArgs false

/-- One round of put: what is laid so far, and whether the new one is. -/
def stepO (x : Ob) (s : List Ob × Bool) (y : Ob) : List Ob × Bool :=
  if s.2 = false ∧ x.h ≤ y.h then ((if y.h = x.h then s.1 ++ [x] else s.1 ++ [x] ++ [y]), true)
  else ((if y.h = x.h then s.1 else s.1 ++ [y]), s.2)
def endO (x : Ob) (s : List Ob × Bool) : List Ob := if s.2 then s.1 else s.1 ++ [x]
def putF (x : Ob) (L : List Ob) : List Ob := endO x (L.foldl (stepO x) ([], x.bs.isEmpty))
theorem fold_laid (x : Ob) : ∀ (L out : List Ob), L.foldl (stepO x) (out, true) = (out ++ delO L x.h, true)
  | [], out => by simp [delO]
  | y :: r, out => by
    rw [List.foldl_cons]
    by_cases e : y.h = x.h
    · have : stepO x (out, true) y = (out, true) := by simp [stepO, e]
      rw [this, fold_laid x r]
      simp [delO, e]
    · have : stepO x (out, true) y = (out ++ [y], true) := by simp [stepO, e]
      rw [this, fold_laid x r]
      simp [delO, e]
theorem insO_low {x : Ob} : ∀ {L : List Ob}, (∀ y ∈ L, x.h < y.h) → insO x L = x :: L
  | [], _ => rfl
  | y :: r, h => by simp [insO, h y (by simp)]
theorem fold_free (x : Ob) : ∀ (L out : List Ob), L.Pairwise (fun x y => x.h < y.h) → endO x (L.foldl (stepO x) (out, false)) = out ++ insO x (delO L x.h)
  | [], out, _ => by simp [endO, delO, insO]
  | y :: r, out, hp => by
    obtain ⟨h1, h2⟩ := List.pairwise_cons.1 hp
    rw [List.foldl_cons]
    by_cases hle : x.h ≤ y.h
    · by_cases e : y.h = x.h
      · have : stepO x (out, false) y = (out ++ [x], true) := by simp [stepO, e]
        rw [this, fold_laid]
        have hd : delO (y :: r) x.h = delO r x.h := by simp [delO, e]
        rw [hd, insO_low (fun z hz => by have := h1 z (mem_delO.1 hz).1; omega)]
        simp [endO]
      · have : stepO x (out, false) y = (out ++ [x] ++ [y], true) := by simp [stepO, e, hle]
        rw [this, fold_laid]
        have hd : delO (y :: r) x.h = y :: delO r x.h := by simp [delO, e]
        have hlt : x.h < y.h := by omega
        rw [hd]
        simp [endO, insO, hlt]
    · have e : ¬ y.h = x.h := by omega
      have : stepO x (out, false) y = (out ++ [y], false) := by simp [stepO, e, hle]
      rw [this, fold_free x r _ h2]
      have hd : delO (y :: r) x.h = y :: delO r x.h := by simp [delO, e]
      have hlt : ¬ x.h < y.h := by omega
      rw [hd]
      simp [insO, hlt]
/-- With bytes: one more, or another one; without: it is gone. -/
theorem putF_put {x : Ob} {L : List Ob} (hL : L.Pairwise (fun x y => x.h < y.h)) (hx : x.bs ≠ []) : putF x L = putO L x := by
  unfold putF
  have : x.bs.isEmpty = false := by simpa using hx
  rw [this, fold_free x L [] hL]
  rfl
theorem putF_del {x : Ob} {L : List Ob} (hx : x.bs = []) : putF x L = delO L x.h := by
  unfold putF
  have : x.bs.isEmpty = true := by simp [hx]
  rw [this, fold_laid]
  simp [endO]
theorem fold_take (x : Ob) {L : List Ob} {i : Nat} (hi : i < L.length) (s : List Ob × Bool) : (L.take (i + 1)).foldl (stepO x) s = stepO x ((L.take i).foldl (stepO x) s) (L[i]!) := by
  rw [List.take_add_one, List.foldl_append, getElem!_pos L i hi]
  simp [hi]

/-! ### Rows of things that a call owns -/
def thC (x : Th) : List Value := [.int .i64 x.o.h, .slice x.q x.o.bs.length x.c, .int .i64 x.o.pins]
def thsC (l : List Th) : List Value := l.flatMap thC
def Ths (W : World) (base : Nat) (v : Value) (l : List Th) : Prop := W.ownsRow base 70 3 v l.length (thsC l)
theorem Ths.nil (w : World) (base : Nat) : Ths w base (.slice none 0 0) [] := World.ownsRow_nil _ _ _ _
theorem thsC_app (a b : List Th) : thsC (a ++ b) = thsC a ++ thsC b := by simp [thsC]
theorem Ths.app1 {V w w4 : World} {base : Nat} {l : List Th} {x : Th} {v v' : Value} {o : Obj} (hS : Snc V w) (hV : V.heap.size ≤ base) (hown : Ths w base v l) (hg : (w.alloc o).grownBy w4 v.ownBlock)
    (hO : w4.ownsRow base 70 3 v' (l.length + 1) (thsC l ++ thC x)) : Snc V w4 ∧ Ths w4 base v' (l ++ [x]) := by
  refine ⟨Below.grown (Snc.alloc hS o) hg (Below.size (Snc.alloc hS o)) fun k hk => by have := (World.ownsRow.lt hown k hk).1; omega, ?_⟩
  unfold Ths
  rw [List.length_append, thsC_app]
  have e : thsC [x] = thC x := by simp [thsC]
  rw [e]
  exact hO
theorem info_thing : (Try.prog.info? 70).map (fun i => (i.zero, i.size, i.bytes)) = some (some (.agg #[.int .i64 0, .slice none 0 0, .int .i64 0]), 3, 40) := by kernel_rfl
end Go.Proofs.Ytlcegnehlhakdaa
