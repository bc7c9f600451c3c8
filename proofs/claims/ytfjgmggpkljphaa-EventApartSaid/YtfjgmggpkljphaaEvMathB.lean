/-
  Histories, as plain lists: how many calls are done; histories cut off, and two behind one another; handles.
  Conditions: none; statements over lists and whole numbers.
-/
import Derived.Test.YtfjgmggpkljphaaEvMath
namespace Go.Proofs.Ytfjgmggpkljphaa
open Go.RowKit

/-- The call that event i asks. -/
def callAt (l : List Ev) (i : Nat) : Cl :=
  { th := (evAt l i).th, d := (evAt l i).d, h := (evAt l i).h, o := (evAt l i).o, n := (evAt l i).n,
    c := if ansN l i < l.length then (evAt l (ansN l i)).c else 0, r := if ansN l i < l.length then (evAt l (ansN l i)).r else 0,
    done := decide (ansN l i < l.length), fr := i, to := ansN l i }
/-- The calls of the first k events. -/
def callsTo (l : List Ev) (k : Nat) : List Cl := (asksTo l k).map (callAt l)
theorem callsTo_succ (l : List Ev) (k : Nat) : callsTo l (k + 1) = callsTo l k ++ (if (evAt l k).bk then [] else [callAt l k]) := by
  show (asksTo l (k + 1)).map (callAt l) = (asksTo l k).map (callAt l) ++ _
  rw [show asksTo l (k + 1) = asksTo l k ++ (if (evAt l k).bk then [] else [k]) from rfl, List.map_append]
  cases (evAt l k).bk <;> rfl
theorem callsTo_len (l : List Ev) (k : Nat) : (callsTo l k).length = (asksTo l k).length := by simp [callsTo]

/-! ### How many are done -/
def cnt (f : Nat → Bool) : Nat → Nat
  | 0 => 0
  | k + 1 => cnt f k + (if f k then 1 else 0)
theorem cnt_congr {f g : Nat → Bool} : ∀ k, (∀ p, p < k → f p = g p) → cnt f k = cnt g k
  | 0, _ => rfl
  | k + 1, h => by unfold cnt; rw [cnt_congr k fun p hp => h p (by omega), h k (Nat.lt_succ_self _)]
theorem cnt_zero {f : Nat → Bool} : ∀ k, (∀ p, p < k → f p = false) → cnt f k = 0
  | 0, _ => rfl
  | k + 1, h => by unfold cnt; rw [cnt_zero k fun p hp => h p (by omega), h k (Nat.lt_succ_self _)]; rfl
theorem cnt_or {f g : Nat → Bool} : ∀ k, (∀ p, p < k → f p = true → g p = false) → cnt (fun p => f p || g p) k = cnt f k + cnt g k
  | 0, _ => rfl
  | k + 1, h => by
    unfold cnt
    rw [cnt_or k fun p hp => h p (by omega)]
    cases hf : f k
    · cases hg : g k <;> simp <;> omega
    · have := h k (Nat.lt_succ_self _) hf
      rw [this]
      simp
      omega
theorem cnt_one {f : Nat → Bool} {q : Nat} : ∀ k, q < k → (∀ p, p < k → f p = decide (p = q)) → cnt f k = 1
  | 0, h, _ => absurd h (Nat.not_lt_zero _)
  | k + 1, h, hf => by
    unfold cnt
    by_cases e : q = k
    · subst e
      rw [cnt_zero q fun p hp => by rw [hf p (by omega)]; simp; omega, hf q (Nat.lt_succ_self _)]
      simp
    · rw [cnt_one k (by omega) fun p hp => hf p (by omega), hf k (Nat.lt_succ_self _), decide_eq_false (fun h => e h.symm)]
      rfl
theorem asks_filter (l : List Ev) (q : Nat → Bool) : ∀ k, ((asksTo l k).filter q).length = cnt (fun p => !(evAt l p).bk && q p) k
  | 0 => rfl
  | k + 1 => by
    unfold asksTo cnt
    rw [List.filter_append, List.length_append, asks_filter l q k]
    cases hb : (evAt l k).bk
    · cases hq : q k <;> simp [hq]
    · simp
theorem asks_len (l : List Ev) (k : Nat) : (asksTo l k).length = cnt (fun p => !(evAt l p).bk) k := by
  have := asks_filter l (fun _ => true) k
  rw [List.filter_eq_self.2 (fun _ _ => rfl)] at this
  simpa using this

/-- An event whose turn is not the first one has one ahead of it that it answers, or that is answered ahead of it: the one next ahead. -/
theorem last_same {l : List Ev} {i : Nat} : ∀ k, 1 ≤ turnTo l i k → ∃ q, q < k ∧ (evAt l q).th = (evAt l i).th ∧ ∀ p, q < p → p < k → (evAt l p).th ≠ (evAt l i).th
  | 0, h => by simp [turnTo] at h
  | k + 1, h => by
    by_cases e : (evAt l k).th = (evAt l i).th
    · exact ⟨k, Nat.lt_succ_self _, e, fun p h1 h2 => by omega⟩
    · unfold turnTo at h
      rw [if_neg e] at h
      obtain ⟨q, h1, h2, h3⟩ := last_same k (by omega)
      exact ⟨q, by omega, h2, fun p h4 h5 => by
        by_cases ep : p = k
        · subst ep; exact e
        · exact h3 p h4 (by omega)⟩
theorem asked {l : List Ev} (H : Hist l) {m : Nat} (hm : m < l.length) (hb : (evAt l m).bk = true) : ∃ q, q < m ∧ (evAt l q).bk = false ∧ ansN l q = m := by
  have h1 := okAt_bk (H m hm)
  rw [hb] at h1
  have h2 : turnTo l m m % 2 = 1 := of_decide_eq_true h1.symm
  obtain ⟨q, hq, hs, hn⟩ := last_same (l := l) (i := m) m (by omega)
  have ha : IsAns l q m := ⟨hq, Nat.le_of_lt hm, fun k h3 h4 => by rw [hs]; exact hn k h3 h4, fun _ => hs.symm⟩
  refine ⟨q, hq, ?_, ansN_of (Nat.lt_trans hq hm) ha⟩
  have h3 := ans_bk H ha hm
  rw [hb] at h3
  simpa using h3.symm
theorem asked_once {l : List Ev} (H : Hist l) {m q q' : Nat} (hm : m < l.length) (hq : q < m) (hq' : q' < m) (aq : (evAt l q).bk = false) (aq' : (evAt l q').bk = false) (e : ansN l q = m) (e' : ansN l q' = m) : q = q' := by
  have i1 := ansN_is l q (Nat.lt_trans hq hm)
  have i2 := ansN_is l q' (Nat.lt_trans hq' hm)
  rw [e] at i1
  rw [e'] at i2
  have hs : (evAt l q).th = (evAt l q').th := (i1.same hm).symm.trans (i2.same hm)
  rcases Nat.lt_trichotomy q q' with c | c | c
  · have := calls_turn H (Nat.lt_trans hq' hm) c hs aq aq'
    omega
  · exact c
  · have := calls_turn H (Nat.lt_trans hq hm) c hs.symm aq' aq
    omega
/-- All events are calls, and answers of what is done. -/
theorem cnt_all {l : List Ev} (H : Hist l) : ∀ m, m ≤ l.length → cnt (fun p => !(evAt l p).bk) m + cnt (fun p => !(evAt l p).bk && decide (ansN l p < m)) m = m
  | 0, _ => rfl
  | m + 1, hm => by
    have hm' : m < l.length := hm
    have ih := cnt_all H m (by omega)
    unfold cnt
    cases hb : (evAt l m).bk
    · have e1 : cnt (fun p => !(evAt l p).bk && decide (ansN l p < m + 1)) m = cnt (fun p => !(evAt l p).bk && decide (ansN l p < m)) m := cnt_congr m fun p hp => by
        cases hp' : (evAt l p).bk
        · have : ansN l p ≠ m := fun e => by
            have h3 := ans_bk H (e ▸ ansN_is l p (Nat.lt_trans hp hm')) hm'
            rw [hb, hp'] at h3
            cases h3
          by_cases c : ansN l p < m
          · simp [c, Nat.lt_succ_of_lt c]
          · have c' : ¬ ansN l p < m + 1 := by omega
            simp [c, c']
        · simp
      have e2 : ¬ ansN l m < m + 1 := by have := (ansN_is l m hm').lt; omega
      rw [e1]
      simp [e2]
      omega
    · obtain ⟨q, hq, aq, eq⟩ := asked H hm' hb
      have e1 : cnt (fun p => !(evAt l p).bk && decide (ansN l p < m + 1)) m = cnt (fun p => !(evAt l p).bk && decide (ansN l p < m)) m + cnt (fun p => !(evAt l p).bk && decide (ansN l p = m)) m := by
        rw [← cnt_or m]
        · refine cnt_congr m fun p hp => ?_
          cases (evAt l p).bk
          · by_cases c : ansN l p < m
            · simp [c, Nat.lt_succ_of_lt c]
            · by_cases c' : ansN l p = m
              · simp [c']
              · have c2 : ¬ ansN l p < m + 1 := by omega
                simp [c, c', c2]
          · simp
        · intro p hp h
          simp only [Bool.and_eq_true, decide_eq_true_eq] at h
          have : ¬ ansN l p = m := by omega
          simp [this]
      have e2 : cnt (fun p => !(evAt l p).bk && decide (ansN l p = m)) m = 1 := cnt_one m hq fun p hp => by
        by_cases c : p = q
        · subst c
          simp [aq, eq]
        · rw [decide_eq_false c]
          cases hp' : (evAt l p).bk
          · have : ¬ ansN l p = m := fun e => c (asked_once H hm' hp hq hp' aq e eq)
            simp [this]
          · simp
      rw [e1, e2]
      simp
      omega
/-- So many calls there are, and so many of them are done: that is all events. -/
theorem calls_count {l : List Ev} (H : Hist l) : (callsTo l l.length).length + ((callsTo l l.length).filter (fun c => c.done)).length = l.length := by
  have h := cnt_all H l.length (Nat.le_refl _)
  have e : ((callsTo l l.length).filter (fun c => c.done)).length = ((asksTo l l.length).filter (fun p => decide (ansN l p < l.length))).length := by
    unfold callsTo
    rw [List.filter_map, List.length_map]
    rfl
  rw [callsTo_len, e, asks_filter, asks_len]
  exact h
end Go.Proofs.Ytfjgmggpkljphaa
