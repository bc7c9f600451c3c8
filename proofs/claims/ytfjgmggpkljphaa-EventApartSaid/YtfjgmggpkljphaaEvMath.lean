/-
  Histories, as plain lists: whose turn it is, what answers what, the calls.
  Conditions: none; statements over lists and whole numbers.
-/
import Derived.WalkKit
namespace Go.Proofs.Ytfjgmggpkljphaa
open Go.RowKit

/-- An event: its thread, whether it is an answer, its op, its result. -/
structure Ev where
  th : Int
  bk : Bool
  d : Int
  h : Int
  o : Int
  n : Int
  c : Int
  r : Int
def Ev.zero : Ev := ⟨0, false, 0, 0, 0, 0, 0, 0⟩
/-- A call: its thread, op, result, whether it is done, from where, to where. -/
structure Cl where
  th : Int
  d : Int
  h : Int
  o : Int
  n : Int
  c : Int
  r : Int
  done : Bool
  fr : Int
  to : Int

def evAt (l : List Ev) (i : Nat) : Ev := l.getD i Ev.zero
/-- How many of the first k events are of the thread of event i. -/
def turnTo (l : List Ev) (i : Nat) : Nat → Nat
  | 0 => 0
  | k + 1 => turnTo l i k + (if (evAt l k).th = (evAt l i).th then 1 else 0)
/-- The event behind i that is of its thread. -/
def ansGo (l : List Ev) (i : Nat) : Nat → Nat → Nat
  | _, 0 => l.length
  | k, f + 1 => if k < l.length then (if (evAt l k).th = (evAt l i).th then k else ansGo l i (k + 1) f) else l.length
def ansN (l : List Ev) (i : Nat) : Nat := ansGo l i (i + 1) l.length
/-- What the event that answers event i is to be. -/
structure IsAns (l : List Ev) (i j : Nat) : Prop where
  lt : i < j
  le : j ≤ l.length
  none : ∀ k, i < k → k < j → (evAt l k).th ≠ (evAt l i).th
  same : j < l.length → (evAt l j).th = (evAt l i).th

theorem ansGo_is (l : List Ev) (i : Nat) (hi : i < l.length) : ∀ f k, i < k → k ≤ l.length → l.length ≤ k + f → (∀ q, i < q → q < k → (evAt l q).th ≠ (evAt l i).th) → IsAns l i (ansGo l i k f)
  | 0, k, h1, h2, h3, h4 => by
    unfold ansGo
    exact ⟨hi, Nat.le_refl _, fun q hq hq' => h4 q hq (by omega), fun h => absurd h (Nat.lt_irrefl _)⟩
  | f + 1, k, h1, h2, h3, h4 => by
    unfold ansGo
    by_cases hk : k < l.length
    · rw [if_pos hk]
      by_cases hs : (evAt l k).th = (evAt l i).th
      · rw [if_pos hs]
        exact ⟨h1, h2, h4, fun _ => hs⟩
      · rw [if_neg hs]
        refine ansGo_is l i hi f (k + 1) (by omega) (by omega) (by omega) fun q hq hq' => ?_
        by_cases e : q = k
        · subst e; exact hs
        · exact h4 q hq (by omega)
    · rw [if_neg hk]
      exact ⟨hi, Nat.le_refl _, fun q hq hq' => h4 q hq (by omega), fun h => absurd h (Nat.lt_irrefl _)⟩
theorem ansN_is (l : List Ev) (i : Nat) (hi : i < l.length) : IsAns l i (ansN l i) :=
  ansGo_is l i hi _ _ (Nat.lt_succ_self _) hi (by omega) fun q hq hq' => by omega
theorem IsAns.unique {l : List Ev} {i j j' : Nat} (h : IsAns l i j) (h' : IsAns l i j') : j = j' := by
  rcases Nat.lt_trichotomy j j' with c | c | c
  · exact absurd (h.same (Nat.lt_of_lt_of_le c h'.le)) (h'.none j h.lt c)
  · exact c
  · exact absurd (h'.same (Nat.lt_of_lt_of_le c h.le)) (h.none j' h'.lt c)
theorem ansN_of {l : List Ev} {i j : Nat} (hi : i < l.length) (h : IsAns l i j) : ansN l i = j := (ansN_is l i hi).unique h

def opZ (e : Ev) : Bool := e.d == 0 && e.h == 0 && e.o == 0 && e.n == 0
def rsZ (e : Ev) : Bool := e.c == 0 && e.r == 0
/-- Event i is as it is to be in a history. -/
def okAt (l : List Ev) (i : Nat) : Bool :=
  decide (0 ≤ (evAt l i).th ∧ (evAt l i).th ≤ 3) && ((evAt l i).bk == decide (turnTo l i i % 2 = 1)) && (if (evAt l i).bk then opZ (evAt l i) else rsZ (evAt l i))
/-- A history. -/
def Hist (l : List Ev) : Prop := ∀ i, i < l.length → okAt l i = true

theorem okAt_bk {l : List Ev} {i : Nat} (h : okAt l i = true) : (evAt l i).bk = decide (turnTo l i i % 2 = 1) := by
  unfold okAt at h
  simp only [Bool.and_eq_true, beq_iff_eq] at h
  exact h.1.2
theorem okAt_th {l : List Ev} {i : Nat} (h : okAt l i = true) : 0 ≤ (evAt l i).th ∧ (evAt l i).th ≤ 3 := by
  unfold okAt at h
  simp only [Bool.and_eq_true, decide_eq_true_eq] at h
  exact h.1.1

/-- How many of the first k events are of that thread. -/
theorem turnTo_same {l : List Ev} {i j : Nat} (h : (evAt l i).th = (evAt l j).th) : ∀ k, turnTo l i k = turnTo l j k
  | 0 => rfl
  | k + 1 => by unfold turnTo; rw [turnTo_same h k, h]
theorem turnTo_gap {l : List Ev} {i a : Nat} : ∀ b, a ≤ b → (∀ k, a ≤ k → k < b → (evAt l k).th ≠ (evAt l i).th) → turnTo l i b = turnTo l i a
  | 0, h, _ => by rw [Nat.le_zero.1 h]
  | b + 1, h, hn => by
    by_cases e : a = b + 1
    · rw [e]
    · unfold turnTo
      rw [if_neg (hn b (by omega) (Nat.lt_succ_self _)), turnTo_gap b (by omega) fun k h1 h2 => hn k h1 (by omega)]
      cases a with
      | zero => rfl
      | succ a => simp [turnTo]
/-- The turn of what answers is the next one. -/
theorem turn_ans {l : List Ev} {i j : Nat} (h : IsAns l i j) (hj : j < l.length) : turnTo l j j = turnTo l i i + 1 := by
  have hs := h.same hj
  rw [turnTo_same hs, turnTo_gap (a := i + 1) j h.lt fun k h1 h2 => h.none k (by omega) h2]
  show turnTo l i i + _ = _
  rw [if_pos rfl]
/-- What answers a call is an answer; and the other way round. -/
theorem ans_bk {l : List Ev} (H : Hist l) {i j : Nat} (h : IsAns l i j) (hj : j < l.length) : (evAt l j).bk = !(evAt l i).bk := by
  rw [okAt_bk (H j hj), okAt_bk (H i (Nat.lt_trans h.lt hj)), turn_ans h hj]
  by_cases c : turnTo l i i % 2 = 1
  · rw [decide_eq_true c, decide_eq_false (by omega)]; rfl
  · rw [decide_eq_false c, decide_eq_true (by omega)]; rfl
/-- Of two calls of one thread the first one is answered ahead of the second one. -/
theorem calls_turn {l : List Ev} (H : Hist l) {i k : Nat} (hk : k < l.length) (hik : i < k) (ht : (evAt l i).th = (evAt l k).th) (ai : (evAt l i).bk = false) (ak : (evAt l k).bk = false) : ansN l i < k := by
  have h := ansN_is l i (Nat.lt_trans hik hk)
  rcases Nat.lt_trichotomy (ansN l i) k with c | c | c
  · exact c
  · have := ans_bk H h (by rw [c]; exact hk)
    rw [c, ak, ai] at this
    cases this
  · exact absurd ht.symm (h.none k hik c)

theorem getD_left {α : Type} {l m : List α} {a : Nat} {d : α} (h : a < l.length) : (l ++ m).getD a d = l.getD a d := by simp [List.getElem?_append_left h]
theorem getD_right {α : Type} {l m : List α} {a : Nat} {d : α} (h : l.length ≤ a) : (l ++ m).getD a d = m.getD (a - l.length) d := by simp [List.getElem?_append_right h]

/-- The places of the events that ask, among the first k. -/
def asksTo (l : List Ev) : Nat → List Nat
  | 0 => []
  | k + 1 => asksTo l k ++ (if (evAt l k).bk then [] else [k])
theorem asksTo_mem {l : List Ev} : ∀ {k p : Nat}, p ∈ asksTo l k ↔ p < k ∧ (evAt l p).bk = false
  | 0, p => by simp [asksTo]
  | k + 1, p => by
    unfold asksTo
    rw [List.mem_append, asksTo_mem]
    cases hb : (evAt l k).bk
    · simp only [Bool.false_eq_true, if_false, List.mem_singleton]
      constructor
      · rintro (⟨h1, h2⟩ | rfl)
        · exact ⟨by omega, h2⟩
        · exact ⟨by omega, hb⟩
      · rintro ⟨h1, h2⟩
        by_cases e : p = k
        · exact .inr e
        · exact .inl ⟨by omega, h2⟩
    · simp only [if_true, List.not_mem_nil, or_false]
      constructor
      · rintro ⟨h1, h2⟩; exact ⟨by omega, h2⟩
      · rintro ⟨h1, h2⟩
        refine ⟨?_, h2⟩
        by_cases e : p = k
        · subst e; rw [hb] at h2; cases h2
        · omega
theorem asksTo_sorted {l : List Ev} : ∀ (k a b : Nat), a < b → b < (asksTo l k).length → (asksTo l k).getD a 0 < (asksTo l k).getD b 0
  | 0, a, b, _, hb => by simp [asksTo] at hb
  | k + 1, a, b, hab, hb => by
    unfold asksTo at hb ⊢
    cases hk : (evAt l k).bk
    · rw [hk] at hb
      simp only [Bool.false_eq_true, if_false, List.length_append, List.length_cons, List.length_nil] at hb ⊢
      have ha : a < (asksTo l k).length := by omega
      rw [getD_left ha]
      by_cases e : b < (asksTo l k).length
      · rw [getD_left e]
        exact asksTo_sorted k a b hab e
      · have eb : b = (asksTo l k).length := by omega
        subst eb
        have hm : (asksTo l k).getD a 0 ∈ asksTo l k := by simp [ha]
        have := (asksTo_mem.1 hm).1
        simpa using this
    · rw [hk] at hb
      simp only [if_true, List.append_nil] at hb ⊢
      exact asksTo_sorted k a b hab hb
theorem asksTo_get {l : List Ev} {k a : Nat} (h : a < (asksTo l k).length) : (asksTo l k).getD a 0 < k ∧ (evAt l ((asksTo l k).getD a 0)).bk = false :=
  asksTo_mem.1 (by simp [h])
end Go.Proofs.Ytfjgmggpkljphaa
