/-
  What the statements of layer 7 ask of a map, as plain facts on lists.
  Conditions: that the map is a good one.
-/
import Derived.Test.YtlcegnehlhakdaaMdArg
namespace Go.Proofs.Ytlcegnehlhakdaa
open Go.RowKit
set_option linter.unusedVariables false
set_option linter.unusedSimpArgs false

section
variable {S : St} {L : List Ob} {h off n c r d : Int}
theorem getO_put_self (hL : L.Pairwise (fun x y => x.h < y.h)) (x : Ob) : getO (putO L x) x.h = some x := getO_of (putO_up x hL) (mem_putO.2 (Or.inl rfl))
theorem getO_put_ne (hL : L.Pairwise (fun x y => x.h < y.h)) (x : Ob) (hne : h ≠ x.h) : getO (putO L x) h = getO L h := by
  cases e : getO L h with
  | some y =>
    obtain ⟨hy, rfl⟩ := getO_some e
    exact getO_of (putO_up x hL) (mem_putO.2 (Or.inr ⟨hy, hne⟩))
  | none =>
    cases e' : getO (putO L x) h with
    | none => rfl
    | some y =>
      obtain ⟨hy, rfl⟩ := getO_some e'
      rcases mem_putO.1 hy with rfl | ⟨hy, _⟩
      · exact absurd rfl hne
      · exact absurd rfl (getO_none e y hy)
theorem getO_del_self (L : List Ob) (h : Int) : getO (delO L h) h = none := by
  cases e : getO (delO L h) h with
  | none => rfl
  | some y =>
    obtain ⟨hy, rfl⟩ := getO_some e
    exact absurd rfl (mem_delO.1 hy).2
theorem getO_del_none (h' : Int) (e : getO L h = none) : getO (delO L h') h = none := by
  cases e' : getO (delO L h') h with
  | none => rfl
  | some y =>
    obtain ⟨hy, rfl⟩ := getO_some e'
    exact absurd rfl (getO_none e y (mem_delO.1 hy).1)

/-- What is written. -/
def wrote (x : Ob) (off n : Int) : Ob := { x with bs := x.bs.set off.toNat (u8 n) }
theorem wrote_of (ht : tryB S 3 h off n 0 0 = true) : ∃ x, getO S.L h = some x ∧ 0 ≤ off ∧ off < x.bs.length ∧ tryS S 3 h off n 0 0 = ⟨putO S.L (wrote x off n), S.T⟩ := by
  have ha : ansH 3 n = true := by simp [ansH]
  unfold tryB at ht
  rw [ha, if_pos rfl] at ht
  simp only [Bool.and_eq_true, decide_eq_true_eq] at ht
  obtain ⟨h1, h2⟩ := ht
  cases e : getO S.L h with
  | none => exfalso; unfold ansE at h1; rw [if_neg (by decide), if_neg (by decide), e] at h1; simp at h1
  | some x =>
    have h1' := h1
    unfold ansE at h1'
    rw [if_neg (by decide), if_neg (by decide), e] at h1'
    have hin : 0 ≤ off ∧ off < x.bs.length := by
      by_cases k : 0 ≤ off ∧ off < (x.bs.length : Int)
      · exact k
      · have h5 : obE x 3 off = 5 := by unfold obE; rw [if_neg (by omega), if_pos ⟨Or.inr rfl, k⟩]
        have h6 : (0 : Int) = obE x 3 off := h1'
        rw [h5] at h6
        omega
    refine ⟨x, rfl, hin.1, hin.2, ?_⟩
    unfold tryS
    rw [ha, if_pos rfl, if_pos (by rw [← h1, ← h2]; decide)]
    unfold doS
    rw [if_neg (by decide), e]
    rfl
/-- A read is answered as the object has it. -/
theorem ans_read (S : St) (h off n : Int) : ansE S 2 h off n = (match getO S.L h with | none => 4 | some x => obE x 2 off) ∧ ansN' S 2 h off n = (match getO S.L h with | none => 0 | some x => obN x 2 off) := by
  constructor
  · unfold ansE
    rw [if_neg (by decide), if_neg (by decide)]
    cases getO S.L h <;> rfl
  · unfold ansN'
    rw [if_neg (by decide), if_neg (by decide)]
    cases getO S.L h <;> rfl
theorem obE_read (x : Ob) (off : Int) : obE x 2 off = if 0 ≤ off ∧ off < x.bs.length then 0 else 5 := by
  unfold obE
  by_cases k : 0 ≤ off ∧ off < (x.bs.length : Int)
  · rw [if_neg (by omega), if_neg (fun c => c.2 k), if_neg (by omega), if_neg (by omega), if_pos k]
  · rw [if_neg (by omega), if_pos ⟨Or.inl rfl, k⟩, if_neg k]
theorem obN_read (x : Ob) (off : Int) : obN x 2 off = if 0 ≤ off ∧ off < x.bs.length then byteAt x off else 0 := by
  unfold obN
  by_cases k : 0 ≤ off ∧ off < (x.bs.length : Int)
  · rw [if_pos ⟨rfl, k.1, k.2⟩, if_pos k]
  · rw [if_neg (fun c => k c.2), if_neg k]
theorem u8_nat (n : Int) : ((u8 n).toNat : Int) = n % 256 := by
  unfold u8
  have h0 : 0 ≤ n % 256 := by omega
  have h1 : n % 256 < 256 := by omega
  rw [UInt8.toNat_ofNat', Nat.mod_eq_of_lt (by omega)]
  omega
theorem wrote_read (g : Good S) (ht : tryB S 3 h off n 0 0 = true) : ansE (tryS S 3 h off n 0 0) 2 h off 0 = 0 ∧ ansN' (tryS S 3 h off n 0 0) 2 h off 0 = n % 256 := by
  obtain ⟨x, hx, h0, h1, e⟩ := wrote_of ht
  have hh : (wrote x off n).h = h := (getO_some hx).2
  have hg : getO (putO S.L (wrote x off n)) h = some (wrote x off n) := by
    have := getO_put_self g.up (wrote x off n)
    rwa [hh] at this
  have hl : (wrote x off n).bs.length = x.bs.length := by simp [wrote]
  have hb : byteAt (wrote x off n) off = n % 256 := by
    unfold byteAt wrote
    rw [show (x.bs.set off.toNat (u8 n)).getD off.toNat 0 = u8 n from by simp [List.getD, show off.toNat < x.bs.length from by omega], u8_nat]
  rw [e]
  obtain ⟨a, b⟩ := ans_read ⟨putO S.L (wrote x off n), S.T⟩ h off 0
  rw [a, b, hg]
  simp only
  rw [obE_read, obN_read, hl, if_pos ⟨h0, h1⟩, if_pos ⟨h0, h1⟩, hb]
  exact ⟨rfl, rfl⟩
theorem wrote_other (g : Good S) (ht : tryB S 3 h off n 0 0 = true) (h2 off2 n2 : Int) :
    (h2 = h ∧ off2 = off) ∨ (ansE (tryS S 3 h off n 0 0) 2 h2 off2 n2 = ansE S 2 h2 off2 n2 ∧ ansN' (tryS S 3 h off n 0 0) 2 h2 off2 n2 = ansN' S 2 h2 off2 n2) := by
  obtain ⟨x, hx, h0, h1, e⟩ := wrote_of ht
  have hh : (wrote x off n).h = h := (getO_some hx).2
  obtain ⟨a, b⟩ := ans_read ⟨putO S.L (wrote x off n), S.T⟩ h2 off2 n2
  obtain ⟨a', b'⟩ := ans_read S h2 off2 n2
  rw [e, a, b, a', b']
  by_cases k : h2 = h
  · subst k
    by_cases k2 : off2 = off
    · exact Or.inl ⟨rfl, k2⟩
    · have hg : getO (putO S.L (wrote x off n)) h2 = some (wrote x off n) := by
        have := getO_put_self g.up (wrote x off n)
        rwa [hh] at this
      right
      rw [hg, hx]
      simp only
      have hl : (wrote x off n).bs.length = x.bs.length := by simp [wrote]
      rw [obE_read, obN_read, obE_read, obN_read, hl]
      refine ⟨rfl, ?_⟩
      split
      · rename_i k3
        unfold byteAt wrote
        have : off.toNat ≠ off2.toNat := by omega
        simp [List.getD, this]
      · rfl
  · right
    simp only
    rw [getO_put_ne g.up _ (by rw [hh]; exact k)]
    exact ⟨rfl, rfl⟩

/-- Gone: told, and no more. -/
def Gone (S : St) (h : Int) : Prop := h ∈ S.T ∧ getO S.L h = none
theorem gone_of (g : Good S) (ht : tryB S 1 h 0 0 0 0 = true) : Gone (tryS S 1 h 0 0 0 0) h := by
  have ha : ansH 1 0 = true := by simp [ansH]
  unfold tryB at ht
  rw [ha, if_pos rfl] at ht
  simp only [Bool.and_eq_true, decide_eq_true_eq] at ht
  obtain ⟨h1, h2⟩ := ht
  cases e : getO S.L h with
  | none => exfalso; unfold ansE at h1; rw [if_neg (by decide), if_neg (by decide), e] at h1; simp at h1
  | some x =>
    have e2 : tryS S 1 h 0 0 0 0 = ⟨delO S.L h, S.T⟩ := by
      unfold tryS
      rw [ha, if_pos rfl, if_pos (by rw [← h1, ← h2]; decide)]
      unfold doS
      rw [if_pos rfl]
    obtain ⟨hx, rfl⟩ := getO_some e
    rw [e2]
    exact ⟨(g.live x hx).2.2.2.2, getO_del_self _ _⟩
theorem gone_stays {h' : Int} (g : Good S) (hg : Gone S h') (d h off n c r : Int) : Gone (tryS S d h off n c r) h' := by
  obtain ⟨h1, h2⟩ := hg
  have hdo : Gone (doS S d h off n) h' := by
    unfold doS
    split
    · exact ⟨h1, getO_del_none _ h2⟩
    · cases e : getO S.L h with
      | none => exact ⟨h1, h2⟩
      | some x =>
        obtain ⟨hx, hxh⟩ := getO_some e
        refine ⟨h1, ?_⟩
        show getO (putO S.L (obB x d off n)) h' = none
        rw [getO_put_ne g.up]
        · exact h2
        · rw [obB_h]
          exact fun e => getO_none h2 x hx e.symm
  unfold tryS
  split
  · split
    · exact hdo
    · exact ⟨h1, h2⟩
  · split
    · rename_i k
      have hr : r ∉ S.T := by
        have := k.2
        unfold newB at this
        simp only [Bool.and_eq_true, Bool.not_eq_true', List.contains_eq_mem, decide_eq_false_iff_not] at this
        exact this.2
      have hne : h' ≠ r := fun e => hr (e ▸ h1)
      refine ⟨mem_putT.2 (Or.inr h1), ?_⟩
      show getO (putO S.L ⟨r, List.replicate n.toNat 0, 0⟩) h' = none
      rw [getO_put_ne g.up _ hne]
      exact h2
    · exact ⟨h1, h2⟩
theorem gone_stale (hg : Gone S h) : ansE S 2 h 0 0 = 4 ∧ ansN' S 2 h 0 0 = 0 ∧ tryB S 0 0 0 1 0 h = false := by
  obtain ⟨h1, h2⟩ := hg
  obtain ⟨a, b⟩ := ans_read S h 0 0
  rw [a, b, h2]
  refine ⟨rfl, rfl, ?_⟩
  have ha : ansH 0 1 = false := by decide
  unfold tryB
  rw [ha, if_neg (by decide), if_neg (by decide), if_pos rfl]
  unfold newB
  simp [h1]
/-- What is refused, or answered by an error, changes nothing. -/
theorem refused (hk : ¬ (tryB S d h off n c r = true ∧ c = 0)) : tryS S d h off n c r = S := by
  unfold tryS
  unfold tryB at hk
  cases ha : ansH d n
  · rw [ha] at hk
    simp only [Bool.false_eq_true, if_false] at hk ⊢
    rw [if_neg]
    rintro ⟨rfl, hb⟩
    exact hk ⟨by rw [if_neg (by decide), if_pos rfl]; exact hb, rfl⟩
  · rw [ha] at hk
    simp only [if_true] at hk ⊢
    rw [if_neg]
    intro e
    simp only [Bool.and_eq_true, decide_eq_true_eq] at e
    exact hk ⟨by simp [← e.1.1.1, ← e.1.1.2], e.1.2⟩
theorem same_self (S : St) : sameB S S = true := by simp [sameB]
end
end Go.Proofs.Ytlcegnehlhakdaa
