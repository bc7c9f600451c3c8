/-
  Histories, as plain lists: what is cut off; two behind one another, of unlike threads.
  Conditions: none; statements over lists and whole numbers.
-/
import Derived.Test.YtfjgmggpkljphaaEvMathB
namespace Go.Proofs.Ytfjgmggpkljphaa
open Go.RowKit

/-! ### Two lists that agree up to a place -/
theorem turnTo_agree {l l' : List Ev} {i : Nat} (hi : evAt l i = evAt l' i) : ∀ k, (∀ p, p < k → evAt l p = evAt l' p) → turnTo l i k = turnTo l' i k
  | 0, _ => rfl
  | k + 1, h => by unfold turnTo; rw [turnTo_agree hi k fun p hp => h p (by omega), h k (Nat.lt_succ_self _), hi]
theorem okAt_agree {l l' : List Ev} {i : Nat} (h : ∀ p, p ≤ i → evAt l p = evAt l' p) : okAt l i = okAt l' i := by
  unfold okAt
  rw [turnTo_agree (h i (Nat.le_refl _)) i fun p hp => h p (Nat.le_of_lt hp), h i (Nat.le_refl _)]
theorem asksTo_agree {l l' : List Ev} : ∀ k, (∀ p, p < k → evAt l p = evAt l' p) → asksTo l k = asksTo l' k
  | 0, _ => rfl
  | k + 1, h => by unfold asksTo; rw [asksTo_agree k fun p hp => h p (by omega), h k (Nat.lt_succ_self _)]
/-- Those of more events are those of fewer, and more. -/
theorem asksTo_more (l : List Ev) (k : Nat) : ∀ n, ∃ r, asksTo l (k + n) = asksTo l k ++ r ∧ ∀ p ∈ r, k ≤ p
  | 0 => ⟨[], by simp, fun p hp => by cases hp⟩
  | n + 1 => by
    obtain ⟨r, hr, hm⟩ := asksTo_more l k n
    refine ⟨r ++ (if (evAt l (k + n)).bk then [] else [k + n]), ?_, fun p hp => ?_⟩
    · show asksTo l (k + n) ++ (if (evAt l (k + n)).bk then [] else [k + n]) = _
      rw [hr, List.append_assoc]
    · rcases List.mem_append.1 hp with h | h
      · exact hm p h
      · split at h
        · cases h
        · have := List.mem_singleton.1 h
          omega

/-! ### A history that is cut off -/
theorem take_at {l : List Ev} {a p : Nat} (h : p < a) : evAt (l.take a) p = evAt l p := by simp [evAt, h]
theorem hist_take {l : List Ev} (H : Hist l) (a : Nat) : Hist (l.take a) := fun i hi => by
  rw [List.length_take] at hi
  rw [okAt_agree (l' := l) fun p hp => take_at (by omega)]
  exact H i (by omega)
theorem asks_take {l : List Ev} {a : Nat} (k : Nat) (hk : k ≤ a) : asksTo (l.take a) k = asksTo l k := asksTo_agree k fun p hp => take_at (by omega)
theorem ans_take {l : List Ev} {a i : Nat} (ha : a ≤ l.length) (hi : i < a) : ansN (l.take a) i = if ansN l i < a then ansN l i else a := by
  have hlen : (l.take a).length = a := by rw [List.length_take]; omega
  have h := ansN_is l i (by omega)
  refine ansN_of (by omega) ?_
  split
  · rename_i c
    exact ⟨h.lt, by omega, fun k h1 h2 => by rw [take_at (by omega), take_at hi]; exact h.none k h1 h2, fun _ => by rw [take_at c, take_at hi]; exact h.same (by omega)⟩
  · rename_i c
    exact ⟨hi, by omega, fun k h1 h2 => by rw [take_at (by omega), take_at hi]; exact h.none k h1 (by omega), fun h2 => absurd h2 (by omega)⟩
/-- Of a history that is cut off the calls are those that began ahead of that. -/
theorem cut_calls {l : List Ev} {a : Nat} (ha : a ≤ l.length) :
    (asksTo (l.take a) (l.take a).length).length ≤ (asksTo l l.length).length ∧
    ∀ i, i < (asksTo l l.length).length → (((asksTo l l.length).getD i 0 < a ↔ i < (asksTo (l.take a) (l.take a).length).length) ∧
      (i < (asksTo (l.take a) (l.take a).length).length → (asksTo (l.take a) (l.take a).length).getD i 0 = (asksTo l l.length).getD i 0)) := by
  have hlen : (l.take a).length = a := by rw [List.length_take]; omega
  rw [hlen, asks_take a (Nat.le_refl _)]
  obtain ⟨r, hr, hm⟩ := asksTo_more l a (l.length - a)
  rw [show a + (l.length - a) = l.length by omega] at hr
  refine ⟨by rw [hr, List.length_append]; omega, fun i hi => ?_⟩
  by_cases c : i < (asksTo l a).length
  · rw [hr, getD_left c]
    exact ⟨⟨fun _ => c, fun _ => (asksTo_get c).1⟩, fun _ => rfl⟩
  · refine ⟨⟨fun h => ?_, fun h => absurd h c⟩, fun h => absurd h c⟩
    rw [hr, getD_right (by omega)] at h
    rw [hr, List.length_append] at hi
    have : r.getD (i - (asksTo l a).length) 0 ∈ r := by
      have hi' : i - (asksTo l a).length < r.length := by omega
      simp [hi']
    have := hm _ this
    omega

/-! ### Two histories behind one another -/
theorem app_left {l k : List Ev} {p : Nat} (h : p < l.length) : evAt (l ++ k) p = evAt l p := getD_left h
theorem app_right {l k : List Ev} (q : Nat) : evAt (l ++ k) (l.length + q) = evAt k q := by
  unfold evAt
  rw [getD_right (by omega), Nat.add_sub_cancel_left]
/-- The two lists' threads are unlike. -/
def Unlike (l k : List Ev) : Prop := ∀ p q, p < l.length → q < k.length → (evAt l p).th ≠ (evAt k q).th
theorem turn_app {l k : List Ev} (U : Unlike l k) {q : Nat} (hq : q < k.length) : ∀ j, j ≤ q → turnTo (l ++ k) (l.length + q) (l.length + j) = turnTo k q j
  | 0, _ => by
    have : ∀ n, n ≤ l.length → turnTo (l ++ k) (l.length + q) n = 0 := fun n => by
      induction n with
      | zero => intro _; rfl
      | succ n ih =>
        intro hn
        show turnTo (l ++ k) (l.length + q) n + _ = 0
        rw [ih (by omega), app_right, app_left (by omega), if_neg (U n q (by omega) hq)]
    exact this l.length (Nat.le_refl _)
  | j + 1, hj => by
    show turnTo (l ++ k) (l.length + q) (l.length + j) + (if (evAt (l ++ k) (l.length + j)).th = (evAt (l ++ k) (l.length + q)).th then 1 else 0) = turnTo k q j + (if (evAt k j).th = (evAt k q).th then 1 else 0)
    rw [turn_app U hq j (by omega), app_right, app_right]
theorem hist_app {l k : List Ev} (H : Hist l) (K : Hist k) (U : Unlike l k) : Hist (l ++ k) := fun i hi => by
  by_cases c : i < l.length
  · rw [okAt_agree (l' := l) fun p hp => app_left (by omega)]
    exact H i c
  · obtain ⟨q, rfl⟩ : ∃ q, i = l.length + q := ⟨i - l.length, by omega⟩
    rw [List.length_append] at hi
    have hq : q < k.length := by omega
    have e : okAt (l ++ k) (l.length + q) = okAt k q := by
      unfold okAt
      rw [turn_app U hq q (Nat.le_refl _), app_right]
    rw [e]
    exact K q hq
/-- What is answered is answered in its own list. -/
theorem ans_app {l k : List Ev} (U : Unlike l k) {i : Nat} (hi : i < l.length) : ansN (l ++ k) i = if ansN l i < l.length then ansN l i else (l ++ k).length := by
  have h := ansN_is l i hi
  refine ansN_of (by rw [List.length_append]; omega) ?_
  split
  · rename_i c
    exact ⟨h.lt, by rw [List.length_append]; omega, fun p h1 h2 => by rw [app_left (by omega), app_left hi]; exact h.none p h1 h2, fun _ => by rw [app_left c, app_left hi]; exact h.same c⟩
  · rename_i c
    refine ⟨by rw [List.length_append]; omega, Nat.le_refl _, fun p h1 h2 => ?_, fun h2 => absurd h2 (Nat.lt_irrefl _)⟩
    rw [app_left hi]
    by_cases cp : p < l.length
    · rw [app_left cp]
      exact h.none p h1 (by omega)
    · obtain ⟨q, rfl⟩ : ∃ q, p = l.length + q := ⟨p - l.length, by omega⟩
      rw [app_right]
      rw [List.length_append] at h2
      exact fun e => U i q hi (by omega) e.symm

/-! ### Handles -/
/-- The handle that an event tells, or asks of. -/
def hOf (e : Ev) : Int := if e.bk then e.r else e.h
/-- One more, in its place. -/
def insGo (h : Int) : List Int → Bool → List Int
  | [], laid => if laid then [] else [h]
  | x :: r, laid => (if !laid && decide (h ≤ x) then [h] else []) ++ ((if x == h then [] else [x]) ++ insGo h r (laid || decide (h ≤ x)))
def ins (h : Int) (l : List Int) : List Int := insGo h l false
def hands (l : List Ev) : List Int := l.foldl (fun s e => ins (hOf e) s) []

/-- Rising, none twice. -/
def Rise (l : List Int) : Prop := l.Pairwise (· < ·)
theorem insGo_laid {h : Int} : ∀ {l : List Int}, (∀ x ∈ l, h ≤ x) → Rise l → insGo h l true = l.filter (fun x => !(x == h))
  | [], _, _ => rfl
  | x :: r, hl, hr => by
    unfold insGo
    rw [show (true || decide (h ≤ x)) = true from rfl, insGo_laid (fun y hy => hl y (List.mem_cons_of_mem _ hy)) (List.pairwise_cons.1 hr).2]
    by_cases e : x == h <;> simp [e]
theorem ins_mem {h y : Int} : ∀ {l : List Int} {laid : Bool}, y ∈ insGo h l laid ↔ (y = h ∧ laid = false) ∨ (y ∈ l ∧ y ≠ h)
  | [], laid => by cases laid <;> simp [insGo]
  | x :: r, laid => by
    unfold insGo
    rw [List.mem_append, List.mem_append, ins_mem]
    cases laid
    · by_cases hx : h ≤ x
      · by_cases e : x = h
        · subst e
          by_cases eyx : y = x
          · simp [eyx]
          · simp [eyx]
        · by_cases ey : y = h
          · subst ey; simp [hx]
          · by_cases eyx : y = x
            · subst eyx; simp [hx, e]
            · simp [hx, e, ey, eyx]
      · have e : ¬ x = h := by omega
        by_cases ey : y = h
        · subst ey; simp [hx, e]
        · by_cases eyx : y = x
          · subst eyx; simp [hx, e]
          · simp [hx, e, ey, eyx]
    · by_cases e : x = h
      · subst e
        by_cases ey : y = x
        · subst ey; simp
        · simp [ey]
      · by_cases ey : y = h
        · subst ey; simp [e, Ne.symm e]
        · by_cases eyx : y = x
          · subst eyx; simp [e]
          · simp [e, ey, eyx]
theorem insGo_rise {h : Int} : ∀ {l : List Int} {laid : Bool}, Rise l → (laid = true → ∀ x ∈ l, h < x) → Rise (insGo h l laid)
  | [], laid, _, _ => by unfold insGo Rise; split <;> simp
  | x :: r, laid, hr, hl => by
    obtain ⟨h1, h2⟩ := List.pairwise_cons.1 hr
    have tl : Rise (insGo h r (laid || decide (h ≤ x))) := insGo_rise h2 fun hb y hy => by
      have := h1 y hy
      cases laid
      · simp at hb; omega
      · exact hl rfl y (List.mem_cons_of_mem _ hy)
    unfold insGo
    have up : ∀ y ∈ insGo h r (laid || decide (h ≤ x)), (laid = false → h < x → h < y) ∧ (y = h ∨ x < y) := fun y hy => by
      rcases ins_mem.1 hy with ⟨rfl, hb⟩ | ⟨hm, hne⟩
      · refine ⟨fun hl' hx => ?_, .inl rfl⟩
        rw [hl'] at hb
        simp at hb
        omega
      · exact ⟨fun _ hx => by have := h1 y hm; omega, .inr (h1 y hm)⟩
    cases laid
    · by_cases hx : h ≤ x
      · by_cases e : x = h
        · subst e
          simp only [Bool.not_false, Bool.true_and, Int.le_refl, decide_true, if_true, beq_self_eq_true, List.nil_append, Bool.false_or]
          refine List.pairwise_cons.2 ⟨fun y hy => ?_, by simpa [Rise] using tl⟩
          rcases ins_mem.1 hy with ⟨rfl, hb⟩ | ⟨hm, hne⟩
          · cases hb
          · exact h1 y hm
        · have hxe : (x == h) = false := by simpa using e
          simp only [Bool.not_false, Bool.true_and, hx, decide_true, if_true, hxe, Bool.false_eq_true, if_false, Bool.false_or, List.cons_append, List.nil_append]
          refine List.pairwise_cons.2 ⟨fun y hy => ?_, List.pairwise_cons.2 ⟨fun y hy => ?_, by simpa [Rise, hx] using tl⟩⟩
          · rcases List.mem_cons.1 hy with rfl | hy
            · omega
            · rcases ins_mem.1 hy with ⟨rfl, hb⟩ | ⟨hm, hne⟩
              · cases hb
              · have := h1 y hm; omega
          · rcases ins_mem.1 hy with ⟨rfl, hb⟩ | ⟨hm, hne⟩
            · cases hb
            · exact h1 y hm
      · have hxe : (x == h) = false := by simp; omega
        simp only [Bool.not_false, Bool.true_and, hx, decide_false, Bool.false_eq_true, if_false, hxe, Bool.false_or, List.cons_append, List.nil_append]
        refine List.pairwise_cons.2 ⟨fun y hy => ?_, by simpa [Rise, hx] using tl⟩
        rcases ins_mem.1 hy with ⟨rfl, hb⟩ | ⟨hm, hne⟩
        · omega
        · exact h1 y hm
    · have hx := hl rfl x (List.mem_cons_self ..)
      have hxe : (x == h) = false := by simp; omega
      simp only [Bool.not_true, Bool.false_and, Bool.false_eq_true, if_false, hxe, Bool.true_or, List.cons_append, List.nil_append]
      refine List.pairwise_cons.2 ⟨fun y hy => ?_, by simpa [Rise] using tl⟩
      rcases ins_mem.1 hy with ⟨rfl, hb⟩ | ⟨hm, hne⟩
      · cases hb
      · exact h1 y hm
end Go.Proofs.Ytfjgmggpkljphaa
