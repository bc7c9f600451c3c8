/-
  The document's own Try of layer 7, where its map stays as it was.
  Conditions: that the map stands in memory and is a good one; at most 1000 objects.
-/
import Derived.Test.YtlcegnehlhakdaaRefTell
import Derived.Laws.StructEq
namespace Go.Proofs.Ytlcegnehlhakdaa
open Go.RowKit Go.Maps Go
attribute [local go_sem] Later.cell Later.frozen Later.lt Later.le
set_option linter.unusedVariables false
set_option linter.unusedSimpArgs false
set_option maxRecDepth 4000

/-- What is known behind a Try that leaves the map as it was. -/
def TryNo (w : World) (k : Nat) (S : St) (b : Bool) (en : Ending) (w' : World) : Prop := en = .returned (.bool b) ∧ RefAt w' k S ∧ NT (some k) w w'
theorem TryNo.later {w : World} {k : Nat} {S : St} {b : Bool} (hR : RefAt w k S) (y : Later w) : TryNo w k S b (.returned (.bool b)) y.at' := ⟨rfl, hR.later y, NT.of_below y.below⟩

set_option maxHeartbeats 2000000 in
theorem refTry_op {w : World} {k : Nat} {S : St} (hR : RefAt w k S) (hG : Good S) (hN : S.L.length ≤ 1000) (d h off n c r : Int) (ha : ansH d n = true) (hno : ¬ (c = ansE S d h off n ∧ r = ansN' S d h off n ∧ c = 0)) :
    Calls Try.prog 17 #[.pointer (some ⟨k, 0, none⟩), .agg #[.int .i64 d, .int .i64 h, .int .i64 off, .int .i64 n], .agg #[.int .i64 c, .int .i64 r]] w (TryNo w k S (decide (c = ansE S d h off n) && decide (r = ansN' S d h off n))) := by
  obtain ⟨B, hB⟩ : ∃ B, B = (w.alloc (.cells #[.int .i64 d, .int .i64 h, .int .i64 off, .int .i64 n] 39)).alloc (.cells #[.int .i64 c, .int .i64 r] 35) := ⟨_, rfl⟩
  have hwB : Below w.heap.size w B := by rw [hB]; exact ((Below.refl _ w).alloc (Nat.le_refl _) _).alloc (by simp) _
  have ca := refAnswer_any (hR.nt (NT.of_below hwB)) hG hN d h off n
  rw [ha] at ca
  unfold opV resV at ca
  generalize ansE S d h off n = E at ca hno ⊢
  generalize ansN' S d h off n = N at ca hno ⊢
  have hsame : ∀ (y : Later B) (o : Obj), RefAt (y.at'.alloc o) k S ∧ NT (some k) w (y.at'.alloc o) := fun y o => by
    have h1 := hwB.trans (y.below.mono (Below.size hwB))
    exact (TryNo.later (b := true) hR ⟨_, h1.alloc (Below.size h1) _⟩).2
  by_cases hc : c = E
  · by_cases hr : r = N
    · have f1 : (E == c) = true := by simpa using hc.symm
      have f2 : (N == r) = true := by simpa using hr.symm
      have h0 : ¬ c = 0 := fun e => hno ⟨hc, hr, e⟩
      have f3 : (c == 0) = false := by simpa using h0
      rw [decide_eq_true hc, decide_eq_true hr]
      subst hB
      clear hc hr h0 hno hR hwB
      go_enter Try.func17, Try.ntmps17
      go_wp2_with (first
        | (go_at_call 14; (with_reducible refine ca.mono ?_); rintro _ _ ⟨rfl, y, rfl⟩))
      go_ret
      exact ⟨rfl, hsame y _⟩
    · have f1 : (E == c) = true := by simpa using hc.symm
      have f2 : (N == r) = false := beq_false_of_ne (fun e => hr e.symm)
      rw [decide_eq_true hc, decide_eq_false hr]
      subst hB
      clear hc hr hno hR hwB
      go_enter Try.func17, Try.ntmps17
      go_wp2_with (first
        | (go_at_call 14; (with_reducible refine ca.mono ?_); rintro _ _ ⟨rfl, y, rfl⟩))
      go_ret
      exact ⟨rfl, hsame y _⟩
  · have f1 : (E == c) = false := beq_false_of_ne (fun e => hc e.symm)
    rw [decide_eq_false hc]
    subst hB
    clear hc hno hR hwB
    go_enter Try.func17, Try.ntmps17
    go_wp2_with (first
      | (go_at_call 14; (with_reducible refine ca.mono ?_); rintro _ _ ⟨rfl, y, rfl⟩))
    go_ret
    exact ⟨rfl, hsame y _⟩
set_option maxHeartbeats 2000000 in
theorem refTry_alloc_no {w : World} {k : Nat} {S : St} (hR : RefAt w k S) (hG : Good S) (hN : S.L.length ≤ 1000 ∧ S.T.length ≤ 1000) (d h off n c r : Int) (ha : ansH d n = false) (hno : ¬ (c = 0 ∧ newB S r = true)) :
    Calls Try.prog 17 #[.pointer (some ⟨k, 0, none⟩), .agg #[.int .i64 d, .int .i64 h, .int .i64 off, .int .i64 n], .agg #[.int .i64 c, .int .i64 r]] w (TryNo w k S (if c = 10 ∨ c = 11 then decide (r = 0) else false)) := by
  obtain ⟨B, hB⟩ : ∃ B, B = (w.alloc (.cells #[.int .i64 d, .int .i64 h, .int .i64 off, .int .i64 n] 39)).alloc (.cells #[.int .i64 c, .int .i64 r] 35) := ⟨_, rfl⟩
  have hwB : Below w.heap.size w B := by rw [hB]; exact ((Below.refl _ w).alloc (Nat.le_refl _) _).alloc (by simp) _
  have ca := refAnswer_any (hR.nt (NT.of_below hwB)) hG hN.1 d h off n
  rw [ha] at ca
  unfold opV resV at ca
  generalize ansE S d h off n = E at ca
  generalize ansN' S d h off n = N at ca
  have hb : ∀ (y : Later B) (o : Obj), Below w.heap.size w (y.at'.alloc o) := fun y o => by
    have h1 := hwB.trans (y.below.mono (Below.size hwB))
    exact h1.alloc (Below.size h1) _
  have hsame : ∀ (y : Later B) (o : Obj), RefAt (y.at'.alloc o) k S ∧ NT (some k) w (y.at'.alloc o) := fun y o => (TryNo.later (b := true) hR ⟨_, hb y o⟩).2
  by_cases h10 : c = 10
  · subst h10
    rw [if_pos (Or.inl rfl)]
    subst hB
    clear hno hwB hb
    go_enter Try.func17, Try.ntmps17
    go_wp2_with (first
      | (go_at_call 14; (with_reducible refine ca.mono ?_); rintro _ _ ⟨rfl, y, rfl⟩))
    go_ret
    exact ⟨by by_cases q : r = 0 <;> simp [q], hsame y _⟩
  · by_cases h11 : c = 11
    · subst h11
      rw [if_pos (Or.inr rfl)]
      subst hB
      clear hno hwB hb
      go_enter Try.func17, Try.ntmps17
      go_wp2_with (first
        | (go_at_call 14; (with_reducible refine ca.mono ?_); rintro _ _ ⟨rfl, y, rfl⟩))
      go_ret
      exact ⟨by by_cases q : r = 0 <;> simp [q], hsame y _⟩
    · rw [if_neg (fun e => e.elim h10 h11)]
      have f10 : (c == 10) = false := by simpa using h10
      have f11 : (c == 11) = false := by simpa using h11
      by_cases h0 : c = 0
      · subst h0
        have hnb : newB S r = false := by simpa using hno
        have ct := fun (y : Later B) (o : Obj) => refTell_any (hR.nt (NT.of_below (hb y o))) hN.2 r
        have hfin : ∀ (y : Later B) (o : Obj) en w', TellRet (y.at'.alloc o) k S r en w' → en = .returned (.bool false) ∧ RefAt w' k S ∧ NT (some k) w w' := fun y o en w' ⟨h1, h2, h3⟩ => by
          rw [hnb] at h1
          rw [if_neg (by rw [hnb]; simp)] at h2
          exact ⟨h1, h2, (NT.of_below (hb y o)).trans h3⟩
        subst hB
        clear hno hwB hb hsame f10 f11 h10 h11
        go_enter Try.func17, Try.ntmps17
        go_wp2_with (first
          | (go_at_call 14; (with_reducible refine ca.mono ?_); rintro _ _ ⟨rfl, y, rfl⟩)
          | (go_at_call 37; (with_reducible refine (ct _ _).mono ?_); rintro en w5 hp; obtain ⟨rfl, hp2⟩ := hfin _ _ _ _ hp))
        go_ret
        exact ⟨rfl, hp2⟩
      · have f0 : (c != 0) = true := by simpa using h0
        subst hB
        clear hno hwB hb h10 h11 h0
        go_enter Try.func17, Try.ntmps17
        go_wp2_with (first
          | (go_at_call 14; (with_reducible refine ca.mono ?_); rintro _ _ ⟨rfl, y, rfl⟩))
        go_ret
        exact ⟨rfl, hsame y _⟩
end Go.Proofs.Ytlcegnehlhakdaa
