/-
  Three machines that pin and unpin one object, in memory; a row of what each does.
  Conditions: none but that the tables read as they are laid.
-/
import Derived.Test.YtnojemmpgaibkaaDoorPcMath
namespace Go.Proofs.YtnojemmpgaibkaaDoor
open Go.RowKit
set_option linter.unusedVariables false
set_option linter.unusedSimpArgs false

def updN {α : Type} (f : Nat → α) (n : Nat) (x : α) : Nat → α := fun i => if i = n then x else f i
section
variable {α : Type} {f : Nat → α} {n i : Nat} {x : α}
theorem updN_same : updN f n x n = x := if_pos rfl
theorem updN_other (h : i ≠ n) : updN f n x i = f i := if_neg h
end
def three {α : Type} (g : α → Value) (f : Nat → α) : List Value := [g (f 0), g (f 1), g (f 2)]
theorem three_set {α : Type} (g : α → Value) (f : Nat → α) {n : Nat} (hn : n < 3) (x : α) : (three g f).set n (g x) = three g (updN f n x) := by
  have : n = 0 ∨ n = 1 ∨ n = 2 := by omega
  rcases this with rfl | rfl | rfl <;> rfl
theorem three_at {α : Type} (g : α → Value) (f : Nat → α) {n : Nat} (hn : n < 3) : (three g f)[n]? = some (g (f n)) := by
  have : n = 0 ∨ n = 1 ∨ n = 2 := by omega
  rcases this with rfl | rfl | rfl <;> rfl
def ptrV (k : Nat) : Value := .pointer (some ⟨k, 0, none⟩)
/-- Three machines, but for machine x (3: none). -/
structure Pc (W0 : World) (A : PAt) (p : Int) (bs : List Int) (rb ub : Nat) (kp : Nat → Nat) (M : Nat → Pm) (u : Nat → Bool) (x : Nat) (W : World) : Prop where
  rv : Rv W0 A 1 1 (wpX (wP p)) bs [] W
  p0 : 0 ≤ p
  p7 : p ≤ 7
  row : Fs W rb (three ptrV kp)
  ur : Fs W ub (three Value.bool u)
  m : ∀ n, n < 3 → n ≠ x → Fs W (kp n) (pmL 1 1 (M n)) ∧ Pi (M n) ∧ (M n).un = u n
  hk : ∀ n, n < 3 → A.hi ≤ kp n ∧ kp n ≠ rb ∧ kp n ≠ ub
  kd : ∀ n i, n < 3 → i < 3 → n ≠ i → kp n ≠ kp i
  rA : A.hi ≤ rb
  uA : A.hi ≤ ub
  ru : rb ≠ ub
section
variable {W0 W W' : World} {A : PAt} {p : Int} {bs : List Int} {rb ub x : Nat} {kp : Nat → Nat} {M : Nat → Pm} {u : Nat → Bool}
theorem Pc.below (h : Pc W0 A p bs rb ub kp M u x W) (hb : Below W.heap.size W W') : Pc W0 A p bs rb ub kp M u x W' :=
  { h with rv := h.rv.below hb, row := h.row.below hb h.row.lt, ur := h.ur.below hb h.ur.lt, m := fun n hn hx => ⟨(h.m n hn hx).1.below hb (h.m n hn hx).1.lt, (h.m n hn hx).2⟩ }
theorem Pc.touch (h : Pc W0 A p bs rb ub kp M u x W) (hr : Rv W0 A 1 1 (wpX (wP p)) bs [] W') (ht : Touch A.lo A.hi W W') : Pc W0 A p bs rb ub kp M u x W' :=
  { h with rv := hr, row := h.row.touch ht (Or.inr h.rA), ur := h.ur.touch ht (Or.inr h.uA), m := fun n hn hx => ⟨(h.m n hn hx).1.touch ht (Or.inr (h.hk n hn).1), (h.m n hn hx).2⟩ }
theorem Pc.step (h : Pc W0 A p bs rb ub kp M u 3 W) {n : Nat} (hn : n < 3) :
    Calls Tryd.prog 32 #[.pointer (some ⟨kp n, 0, none⟩), ifc A] W fun e W' => ∃ c d, e = .returned (.tuple #[.agg #[.int .i64 c, .int .i64 0], .bool d]) ∧
      ((d = false ∧ c = 0 ∧ ∃ M' : Nat → Pm, Pc W0 A p bs rb ub kp M' u 3 W') ∨ (d = true ∧ ¬ c = 0 ∧ Pc W0 A p bs rb ub kp M u n W') ∨ (d = true ∧ c = 0 ∧ u n = true ∧ Pc W0 A (p - 1) bs rb ub kp M u n W') ∨ (d = true ∧ c = 0 ∧ u n = false ∧ Pc W0 A (p + 1) bs rb ub kp M u n W')) := by
  obtain ⟨hf, hp, hu⟩ := h.m n hn (by omega)
  have hs := pc_step hp h.p0 h.p7
  have hst : 0 ≤ (M n).step ∧ (M n).step ≤ 2 := by rcases hp.st with e | e <;> omega
  refine (rvpStep (c := (pmT (M n) (pmO 1 1 (M n) (wpX (wP p)))).1) (d := (pmT (M n) (pmO 1 1 (M n) (wpX (wP p)))).2) h.rv (h.hk n hn).1 (fun p hp => absurd hp (by simp)) hf hst rfl rfl rfl).mono ?_
  rintro e W' ⟨he, hr, hf', hm⟩
  refine ⟨_, _, he, ?_⟩
  generalize pmO 1 1 (M n) (wpX (wP p)) = M' at *
  generalize pmW 1 1 (M n) (wpX (wP p)) = ws' at *
  have hrow := h.row.moved hm (spanS_not (Or.inr h.rA) (Ne.symm (h.hk n hn).2.1))
  have hur := h.ur.moved hm (spanS_not (Or.inr h.uA) (Ne.symm (h.hk n hn).2.2))
  have hoth : ∀ i, i < 3 → i ≠ n → Fs W' (kp i) (pmL 1 1 (M i)) ∧ Pi (M i) ∧ (M i).un = u i := fun i hi hin => by
    obtain ⟨a, b, c⟩ := h.m i hi (by omega)
    exact ⟨a.moved hm (spanS_not (Or.inr (h.hk i hi).1) (h.kd i n hi hn hin)), b, c⟩
  rcases hs with ⟨hd, hc, hw, hpi, hun⟩ | ⟨hd, hc, hw⟩ | ⟨hd, hc, hun, hq, hw⟩ | ⟨hd, hc, hun, hq, hw⟩
  · rw [hw] at hr
    refine Or.inl ⟨hd, hc, updN M n M', { h with rv := hr, row := hrow, ur := hur, m := fun i hi hx => ?_ }⟩
    by_cases e : i = n
    · subst e
      rw [updN_same]
      exact ⟨hf', hpi, hun.trans hu⟩
    · rw [updN_other e]
      exact hoth i hi e
  · rw [hw] at hr
    exact Or.inr (Or.inl ⟨hd, hc, { h with rv := hr, row := hrow, ur := hur, m := hoth }⟩)
  · rw [hw] at hr
    exact Or.inr (Or.inr (Or.inl ⟨hd, hc, hu.symm.trans hun, { h with rv := hr, p0 := by omega, p7 := by have := h.p7; omega, row := hrow, ur := hur, m := hoth }⟩))
  · rw [hw] at hr
    exact Or.inr (Or.inr (Or.inr ⟨hd, hc, hu.symm.trans hun, { h with rv := hr, p0 := by have := h.p0; omega, p7 := by omega, row := hrow, ur := hur, m := hoth }⟩))
theorem Pc.setU (h : Pc W0 A p bs rb ub kp M u x W) (hx : x < 3) (b : Bool) : Pc W0 A p bs rb ub kp M (updN u x b) x (W.setCell ⟨ub, x, none⟩ (.bool b)) := by
  have hS : Moved (fun k => k = ub) W (W.setCell ⟨ub, x, none⟩ (.bool b)) := (Moved.refl _ _).setCell _ _ rfl
  have hlo := h.rv.lo
  have hlh := h.rv.lohi
  have hz := h.rv.bel.size
  have huA := h.uA
  exact { h with
    rv := { h.rv with bel := hS.below h.rv.bel hz (fun k hk e => by subst e; omega), mem := h.rv.mem.imp fun _ m => m.setOther _ _ (Or.inr h.uA), keep := fun p hp => absurd hp (by simp) }
    row := h.row.other _ _ (Ne.symm h.ru)
    ur := by rw [← three_set Value.bool u hx b]; exact h.ur.set x (by simpa [three] using hx) _
    m := fun n hn hnx => ⟨(h.m n hn hnx).1.other _ _ (Ne.symm (h.hk n hn).2.2), (h.m n hn hnx).2.1, by rw [updN_other hnx]; exact (h.m n hn hnx).2.2⟩ }
theorem Pc.anew (h : Pc W0 A p bs rb ub kp M u x W) (hx : x < 3) {k : Nat} (hk : W.heap.size ≤ k) (hb : Below W.heap.size W W') (hf : Fs W' k (pmL 1 1 ⟨true, 0, 0, u x, 1, 0, 0, 0⟩)) :
    Pc W0 A p bs rb ub (updN kp x k) (updN M x ⟨true, 0, 0, u x, 1, 0, 0, 0⟩) u 3 (W'.setCell ⟨rb, x, none⟩ (.pointer (some ⟨k, 0, none⟩))) := by
  have h' := h.below hb
  have hS : Moved (fun k => k = rb) W' (W'.setCell ⟨rb, x, none⟩ (.pointer (some ⟨k, 0, none⟩))) := (Moved.refl _ _).setCell _ _ rfl
  have hlo := h.rv.lo
  have hlh := h.rv.lohi
  have hz := h'.rv.bel.size
  have hrA := h.rA
  have hrl := h.row.lt
  have hul := h.ur.lt
  have hhi := h.rv.hi_le
  exact { h' with
    rv := { h'.rv with bel := hS.below h'.rv.bel hz (fun k hk e => by subst e; omega), mem := h'.rv.mem.imp fun _ m => m.setOther _ _ (Or.inr h.rA), keep := fun p hp => absurd hp (by simp) }
    row := by rw [← three_set ptrV kp hx k]; exact h'.row.set x (by simpa [three] using hx) _
    ur := h'.ur.other _ _ h.ru
    m := fun n hn hnx => by
      by_cases e : n = x
      · subst e
        rw [updN_same, updN_same]
        exact ⟨hf.other _ _ (by show rb ≠ k; omega), pi_new _, rfl⟩
      · rw [updN_other e, updN_other e]
        exact ⟨(h'.m n hn e).1.other _ _ (Ne.symm (h.hk n hn).2.1), (h'.m n hn e).2⟩
    hk := fun n hn => by
      by_cases e : n = x
      · subst e
        rw [updN_same]
        exact ⟨by omega, by omega, by omega⟩
      · rw [updN_other e]
        exact h.hk n hn
    kd := fun n i hn hi hni => by
      by_cases e : n = x
      · by_cases e2 : i = x
        · omega
        · rw [e, updN_same, updN_other e2]
          have := (h.m i hi e2).1.lt
          omega
      · by_cases e2 : i = x
        · rw [e2, updN_same, updN_other e]
          have := (h.m n hn e).1.lt
          omega
        · rw [updN_other e, updN_other e2]
          exact h.kd n i hn hi hni }
theorem Pc.rowAt (h : Pc W0 A p bs rb ub kp M u x W) {n : Nat} (hn : n < 3) : W.cell? ⟨rb, n, none⟩ = some (.pointer (some ⟨kp n, 0, none⟩)) := h.row.at' n (three_at ptrV kp hn)
theorem Pc.uAt (h : Pc W0 A p bs rb ub kp M u x W) {n : Nat} (hn : n < 3) : W.cell? ⟨ub, n, none⟩ = some (.bool (u n)) := h.ur.at' n (three_at Value.bool u hn)
end
end Go.Proofs.YtnojemmpgaibkaaDoor
