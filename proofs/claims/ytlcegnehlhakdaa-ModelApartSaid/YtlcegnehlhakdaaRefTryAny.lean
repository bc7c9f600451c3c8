/-
  The document's own Try of layer 7, whatever is asked and told.
  Conditions: that its map stands in memory and is a good one; at most 1000 objects, and handles told.
-/
import Derived.Test.YtlcegnehlhakdaaRefTryDo
namespace Go.Proofs.Ytlcegnehlhakdaa
open Go.RowKit Go.Maps Go
set_option linter.unusedVariables false
set_option linter.unusedSimpArgs false

theorem refTry_any {w : World} {k : Nat} {S : St} (hR : RefAt w k S) (hG : Good S) (hN : S.L.length ≤ 1000 ∧ S.T.length ≤ 1000) (d h off n c r : Int) :
    Calls Try.prog 17 #[.pointer (some ⟨k, 0, none⟩), opV d h off n, resV c r] w (fun en w' => en = .returned (.bool (tryB S d h off n c r)) ∧ RefAt w' k (tryS S d h off n c r) ∧ NT (some k) w w') := by
  unfold opV resV
  cases ha : ansH d n
  · by_cases hb : c = 0 ∧ newB S r = true
    · obtain ⟨rfl, hb⟩ := hb
      have e1 : tryB S d h off n 0 r = true := by unfold tryB; rw [ha]; simp [hb]
      have e2 : tryS S d h off n 0 r = newS S n r := by unfold tryS; rw [ha]; simp [hb]
      rw [e1, e2]
      exact refTry_new hR hG hN d h off n r ha hb
    · have e1 : tryB S d h off n c r = if c = 10 ∨ c = 11 then decide (r = 0) else false := by
        unfold tryB
        rw [ha]
        by_cases h10 : c = 10 ∨ c = 11
        · simp [h10]
        · by_cases h0 : c = 0
          · have : newB S r = false := by simpa [h0] using hb
            simp [h0, this]
          · simp [h10, h0]
      have e2 : tryS S d h off n c r = S := by unfold tryS; rw [ha]; simp [hb]
      rw [e1, e2]
      exact refTry_alloc_no hR hG hN d h off n c r ha hb
  · by_cases hb : c = ansE S d h off n ∧ r = ansN' S d h off n ∧ c = 0
    · obtain ⟨hc, rfl, rfl⟩ := hb
      have hd0 : ¬ d = 0 := fun k => by
        have hn : rdB n = false := by simpa [ansH, k] using ha
        simp [ansE, k, hn] at hc
      have hd : ¬ (d < 0 ∨ 5 < d) := fun k => by
        unfold ansE at hc
        rw [if_neg hd0, if_pos k] at hc
        omega
      obtain ⟨x, hx, hEx⟩ : ∃ x, getO S.L h = some x ∧ obE x d off = 0 := by
        unfold ansE at hc
        rw [if_neg hd0, if_neg hd] at hc
        cases hg : getO S.L h with
        | none => rw [hg] at hc; simp at hc
        | some x => rw [hg] at hc; exact ⟨x, rfl, hc.symm⟩
      have e1 : tryB S d h off n 0 (ansN' S d h off n) = true := by unfold tryB; rw [ha]; simp [← hc]
      have e2 : tryS S d h off n 0 (ansN' S d h off n) = doS S d h off n := by unfold tryS; rw [ha]; simp [← hc, hd0]
      rw [e1, e2]
      exact refTry_do hR hG hN.1 d h off n (by omega) hx hEx
    · have e1 : tryB S d h off n c r = (decide (c = ansE S d h off n) && decide (r = ansN' S d h off n)) := by unfold tryB; rw [ha]; rfl
      have e2 : tryS S d h off n c r = S := by
        unfold tryS
        rw [ha, if_pos rfl, if_neg]
        intro e
        simp only [Bool.and_eq_true, decide_eq_true_eq] at e
        exact hb ⟨e.1.1.1, e.1.1.2, e.1.2⟩
      rw [e1, e2]
      exact refTry_op hR hG hN.1 d h off n c r ha hb
end Go.Proofs.Ytlcegnehlhakdaa
