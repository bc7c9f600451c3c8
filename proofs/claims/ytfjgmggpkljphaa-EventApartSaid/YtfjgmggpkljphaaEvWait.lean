/-
  Whose call waits for an answer, and the calls as they are known while events are gone through.
  Conditions: none; statements over lists and whole numbers.
-/
import Derived.Test.YtfjgmggpkljphaaEvCallsB
namespace Go.Proofs.Ytfjgmggpkljphaa
open Go.RowKit
set_option linter.unusedVariables false

/-- By threads: behind how many calls the one stands that waits for an answer; 0: none waits. -/
def wait (l : List Ev) : Nat → Int → Nat
  | 0, _ => 0
  | k + 1, t => if (evAt l k).th = t then (if (evAt l k).bk then 0 else (asksTo l (k + 1)).length) else wait l k t

theorem asksTo_ask {l : List Ev} {k : Nat} (h : (evAt l k).bk = false) : asksTo l (k + 1) = asksTo l k ++ [k] := by
  show asksTo l k ++ _ = _
  rw [h]; rfl
theorem asksTo_bk {l : List Ev} {k : Nat} (h : (evAt l k).bk = true) : asksTo l (k + 1) = asksTo l k := by
  show asksTo l k ++ _ = _
  rw [h]; simp

theorem wait_odd {l : List Ev} : ∀ (k i : Nat), (∀ j, j < k → okAt l j = true) → (0 < wait l k (evAt l i).th ↔ turnTo l i k % 2 = 1)
  | 0, i, _ => by simp [wait, turnTo]
  | k + 1, i, H => by
    have ih := wait_odd k i fun j hj => H j (by omega)
    have hb := okAt_bk (H k (by omega))
    unfold wait turnTo
    by_cases h : (evAt l k).th = (evAt l i).th
    · rw [if_pos h, if_pos h]
      rw [turnTo_same h k] at hb
      cases hk : (evAt l k).bk
      · rw [hk] at hb
        have h1 : ¬ turnTo l i k % 2 = 1 := by simpa using hb.symm
        rw [asksTo_ask hk]
        simp
        omega
      · rw [hk] at hb
        have h1 : turnTo l i k % 2 = 1 := by simpa using hb.symm
        simp
        omega
    · rw [if_neg h, if_neg h]
      exact ih
/-- The call that waits. -/
theorem wait_at {l : List Ev} : ∀ {k p : Nat} {t : Int}, wait l k t = p + 1 →
    p < (asksTo l k).length ∧ (evAt l ((asksTo l k).getD p 0)).th = t ∧ ∀ r, (asksTo l k).getD p 0 < r → r < k → (evAt l r).th ≠ t
  | 0, p, t, h => by simp [wait] at h
  | k + 1, p, t, h => by
    unfold wait at h
    by_cases e : (evAt l k).th = t
    · rw [if_pos e] at h
      cases hk : (evAt l k).bk
      · rw [hk, asksTo_ask hk] at h
        have hp : p = (asksTo l k).length := by simpa using h.symm
        subst hp
        rw [asksTo_ask hk]
        have e2 : (asksTo l k ++ [k]).getD (asksTo l k).length 0 = k := by rw [getD_right (Nat.le_refl _)]; simp
        rw [e2]
        exact ⟨by simp, e, fun r h1 h2 => by omega⟩
      · rw [hk] at h
        simp at h
    · rw [if_neg e] at h
      obtain ⟨h1, h2, h3⟩ := wait_at h
      have h4 : (asksTo l (k + 1)).getD p 0 = (asksTo l k).getD p 0 := getD_left h1
      refine ⟨Nat.lt_of_lt_of_le h1 (by show _ ≤ (asksTo l k ++ _).length; simp), by rw [h4]; exact h2, fun r h5 h6 => ?_⟩
      rw [h4] at h5
      by_cases e6 : r = k
      · subst e6; exact e
      · exact h3 r h5 (by omega)
theorem wait_le (l : List Ev) : ∀ (k : Nat) (t : Int), wait l k t ≤ k
  | 0, _ => Nat.le_refl _
  | k + 1, t => by
    unfold wait
    split
    · split
      · omega
      · exact asksTo_le l (k + 1)
    · exact Nat.le_succ_of_le (wait_le l k t)

/-- The call that event i asks, as far as it is known by the first m events. -/
def callUp (l : List Ev) (m i : Nat) : Cl :=
  if ansN l i < m then ⟨(evAt l i).th, (evAt l i).d, (evAt l i).h, (evAt l i).o, (evAt l i).n, (evAt l (ansN l i)).c, (evAt l (ansN l i)).r, true, i, ansN l i⟩
  else ⟨(evAt l i).th, (evAt l i).d, (evAt l i).h, (evAt l i).o, (evAt l i).n, 0, 0, false, i, l.length⟩
def callsUp (l : List Ev) (m : Nat) : List Cl := (asksTo l m).map (callUp l m)
theorem callsUp_len (l : List Ev) (m : Nat) : (callsUp l m).length = (asksTo l m).length := by simp [callsUp]

theorem callsUp_done {l : List Ev} : callsUp l l.length = callsTo l l.length := by
  unfold callsUp callsTo
  refine List.map_congr_left fun i hi => ?_
  have hil := (asksTo_mem.1 hi).1
  have hle := (ansN_is l i hil).le
  by_cases h : ansN l i < l.length
  · rw [callAt_some rfl h]; simp [callUp, h]
  · rw [callAt_none rfl h]
    have e : ansN l i = l.length := by omega
    simp [callUp, e]
/-- No call is answered by one that asks. -/
theorem ans_not_ask {l : List Ev} {i k : Nat} (hi : i < k) (hk : k < l.length) (oi : okAt l i = true) (ok : okAt l k = true) (ai : (evAt l i).bk = false) (ak : (evAt l k).bk = false) : ansN l i ≠ k := fun e => by
  have hA := ansN_is l i (by omega)
  rw [e] at hA
  have ht := turn_ans hA hk
  have h1 := okAt_bk oi
  have h2 := okAt_bk ok
  rw [ai] at h1
  rw [ak] at h2
  have h3 : ¬ turnTo l i i % 2 = 1 := by simpa using h1.symm
  have h4 : ¬ turnTo l k k % 2 = 1 := by simpa using h2.symm
  omega
/-- One more asks. -/
theorem callsUp_ask {l : List Ev} {k : Nat} (hk : k < l.length) (H : ∀ j, j ≤ k → okAt l j = true) (hb : (evAt l k).bk = false) :
    callsUp l (k + 1) = callsUp l k ++ [⟨(evAt l k).th, (evAt l k).d, (evAt l k).h, (evAt l k).o, (evAt l k).n, 0, 0, false, k, l.length⟩] := by
  unfold callsUp
  rw [asksTo_ask hb, List.map_append]
  congr 1
  · refine List.map_congr_left fun i hi => ?_
    obtain ⟨h1, h2⟩ := asksTo_mem.1 hi
    have hne := ans_not_ask h1 hk (H i (by omega)) (H k (Nat.le_refl _)) h2 hb
    unfold callUp
    by_cases h : ansN l i < k
    · rw [if_pos h, if_pos (by omega)]
    · rw [if_neg h, if_neg (by omega)]
  · have hA := (ansN_is l k hk).lt
    simp [callUp, show ¬ ansN l k < k + 1 by omega]
/-- One more is answered. -/
theorem callsUp_bk {l : List Ev} {k p : Nat} (hk : k < l.length) (hb : (evAt l k).bk = true) (hw : wait l k (evAt l k).th = p + 1) :
    ∃ x : Cl, p < (callsUp l k).length ∧ (callsUp l k)[p]? = some x ∧ callsUp l (k + 1) = (callsUp l k).set p { x with c := (evAt l k).c, r := (evAt l k).r, done := true, to := k } := by
  obtain ⟨h1, h2, h3⟩ := wait_at hw
  have hq := asksTo_get h1
  generalize hqq : (asksTo l k).getD p 0 = q at h2 h3 hq
  have hA : ansN l q = k := ansN_of (by omega) ⟨hq.1, by omega, fun r hr hr' => by rw [h2]; exact h3 r hr hr', fun _ => h2.symm⟩
  have hu : callUp l k q = ⟨(evAt l q).th, (evAt l q).d, (evAt l q).h, (evAt l q).o, (evAt l q).n, 0, 0, false, q, l.length⟩ := by simp [callUp, hA]
  have hu2 : callUp l (k + 1) q = { callUp l k q with c := (evAt l k).c, r := (evAt l k).r, done := true, to := k } := by
    rw [hu]; simp [callUp, hA]
  have hp : (asksTo l k)[p]? = some q := by
    rw [List.getElem?_eq_getElem h1, ← hqq]; simp [h1]
  refine ⟨callUp l k q, by rw [callsUp_len]; exact h1, by simp [callsUp, hp], ?_⟩
  rw [← hu2]
  unfold callsUp
  rw [asksTo_bk hb]
  apply List.ext_getElem?
  intro j
  by_cases hj : j = p
  · subst hj
    rw [List.getElem?_set_self (by simpa using h1)]
    simp [hp]
  · rw [List.getElem?_set_ne (Ne.symm hj)]
    by_cases hjl : j < (asksTo l k).length
    · have hg : (asksTo l k)[j]? = some ((asksTo l k).getD j 0) := by rw [List.getElem?_eq_getElem hjl]; simp [hjl]
      have hq' := asksTo_get hjl
      have hso : j < p → (asksTo l k).getD j 0 < q := fun h => by rw [← hqq]; exact asksTo_sorted k j p h h1
      have hso' : p < j → q < (asksTo l k).getD j 0 := fun h => by rw [← hqq]; exact asksTo_sorted k p j h hjl
      simp only [List.getElem?_map, hg, Option.map_some, Option.some.injEq]
      generalize (asksTo l k).getD j 0 = q' at hq' hso hso'
      have hne : ansN l q' ≠ k := fun e => by
        have hB := ansN_is l q' (by omega)
        rw [e] at hB
        have hs := hB.same hk
        rcases Nat.lt_or_gt_of_ne hj with c | c
        · exact hB.none q (hso c) hq.1 (by rw [h2, hs])
        · exact h3 q' (hso' c) hq'.1 hs.symm
      unfold callUp
      by_cases h : ansN l q' < k
      · rw [if_pos h, if_pos (by omega)]
      · rw [if_neg h, if_neg (by omega)]
    · rw [List.getElem?_eq_none (by simpa using hjl), List.getElem?_eq_none (by simpa using hjl)]
/-- The cells of calls of which one is turned. -/
theorem clsCells_put : ∀ (L : List Cl) (p : Nat) (x : Cl) (c r to : Int), L[p]? = some x →
    ((((clsCells L).set (p * 10 + 5) (.int .i64 c)).set (p * 10 + 6) (.int .i64 r)).set (p * 10 + 7) (.bool true)).set (p * 10 + 9) (.int .i64 to) = clsCells (L.set p { x with c := c, r := r, done := true, to := to })
  | [], p, x, c, r, to, h => by simp at h
  | y :: L, 0, x, c, r, to, h => by
    obtain rfl : y = x := by simpa using h
    rfl
  | y :: L, p + 1, x, c, r, to, h => by
    have ih := clsCells_put L p x c r to (by simpa using h)
    have e : clsCells (y :: L) = clCells y ++ clsCells L := by simp [clsCells]
    have e2 : ∀ M : List Cl, clsCells (y :: M) = clCells y ++ clsCells M := fun M => by simp [clsCells]
    have hl : (clCells y).length = 10 := rfl
    rw [List.set_cons_succ, e, e2 (L.set p _), ← ih]
    have e3 : ∀ (A : List Value) (j : Nat) (v : Value), (clCells y ++ A).set ((p + 1) * 10 + j) v = clCells y ++ A.set (p * 10 + j) v := fun A j v => by
      rw [List.set_append_right _ _ (by rw [hl]; omega), hl, show (p + 1) * 10 + j - 10 = p * 10 + j by omega]
    rw [e3, e3, e3, e3]
end Go.Proofs.Ytfjgmggpkljphaa
