/-
  A region that draws its order: its head quiet, walked once, then the rest in whatever order it comes.
  Conditions: that each operation of the head is waited for, and that the rest waits for the head's last one (headB).
-/
import Derived.Test.YtfjgmggpkljphaaLater
import Derived.Deep.Quiet
namespace Go.Proofs.Ytfjgmggpkljphaa
open Go.RowKit
set_option linter.unusedVariables false

/-- The first m operations come ahead of all others. -/
def headB (md : Region.Mode) (l : List Oper) (m : Nat) : Bool :=
  ((List.range l.length).all fun i => match l[i]? with
    | none => true
    | some o => (o.after.toList.all fun e => !Region.binds md e || decide (e.on < i)) && (decide (i < m) || o.after.toList.any fun e => Region.binds md e && decide (m ≤ e.on + 1))
        && (match o.guard with | none => true | some (j, _) => decide (j < i))) &&
  ((List.range (m - 1)).all fun j => (List.range m).any fun k => decide (j < k) && (match l[k]? with | some o => o.after.toList.any (fun e => Region.binds md e && e.on == j) | none => false)) && decide (0 < m) && decide (m ≤ l.length)

section
variable {P : Program} {md : Region.Mode} {l : List Oper} {m : Nat}

theorem headB_one (h : headB md l m = true) {i : Nat} {o : Oper} (ho : l[i]? = some o) :
    (∀ e ∈ o.after.toList, Region.binds md e = true → e.on < i) ∧ (m ≤ i → ∃ e ∈ o.after.toList, Region.binds md e = true ∧ m ≤ e.on + 1) ∧ (∀ j b, o.guard = some (j, b) → j < i) := by
  unfold headB at h
  simp only [Bool.and_eq_true] at h
  have hi : i < l.length := (List.getElem?_eq_some_iff.1 ho).1
  have h1 := List.all_eq_true.1 h.1.1.1 i (List.mem_range.2 hi)
  rw [ho] at h1
  simp only [Bool.and_eq_true, Bool.or_eq_true, List.all_eq_true, List.any_eq_true, decide_eq_true_eq, Bool.not_eq_true'] at h1
  refine ⟨fun e he hb => ?_, fun hm => ?_, fun j b hg => ?_⟩
  · rcases h1.1.1 e he with h | h
    · rw [hb] at h; cases h
    · exact h
  · rcases h1.1.2 with h | ⟨e, he, h⟩
    · omega
    · exact ⟨e, he, h⟩
  · have := h1.2
    rw [hg] at this
    simpa using this
theorem headB_next (h : headB md l m = true) {j : Nat} (hj : j < m - 1) : ∃ k o, j < k ∧ k < m ∧ l[k]? = some o ∧ ∃ e ∈ o.after.toList, Region.binds md e = true ∧ e.on = j := by
  unfold headB at h
  simp only [Bool.and_eq_true] at h
  have h1 := List.all_eq_true.1 h.1.1.2 j (List.mem_range.2 hj)
  obtain ⟨k, hk, h2⟩ := List.any_eq_true.1 h1
  simp only [Bool.and_eq_true, decide_eq_true_eq] at h2
  obtain ⟨hjk, h3⟩ := h2
  cases ho : l[k]? with
  | none => rw [ho] at h3; cases h3
  | some o =>
    rw [ho] at h3
    obtain ⟨e, he, h4⟩ := List.any_eq_true.1 h3
    simp only [Bool.and_eq_true, beq_iff_eq] at h4
    exact ⟨k, o, hjk, List.mem_range.1 hk, ho, e, he, h4⟩
theorem headB_m (h : headB md l m = true) : 0 < m ∧ m ≤ l.length := by
  unfold headB at h
  simp only [Bool.and_eq_true, decide_eq_true_eq] at h
  exact ⟨h.1.2, h.2⟩

/-- When an operation may come up. -/
theorem mem_ready {ops : List Oper} {L : Array Bool} {i : Nat} : i ∈ Region.ready md ops.toArray L ↔ i < ops.length ∧ L.getD i true = false ∧ ∃ o, ops[i]? = some o ∧ ∀ e ∈ o.after.toList, Region.binds md e = true → L.getD e.on false = true := by
  unfold Region.ready
  rw [List.mem_filter, List.mem_range]
  constructor
  · rintro ⟨h1, h2⟩
    simp only [Bool.and_eq_true, Bool.not_eq_true'] at h2
    refine ⟨by simpa using h1, h2.1, ?_⟩
    cases ho : ops[i]? with
    | none => rw [List.getElem?_toArray, ho] at h2; cases h2.2
    | some o =>
      have h3 := h2.2
      rw [List.getElem?_toArray, ho] at h3
      refine ⟨o, rfl, fun e he hb => ?_⟩
      simp only [Option.map_some, Option.getD_some, Array.all_eq_true_iff_forall_mem] at h3
      have := h3 e (by simpa using he)
      simpa [hb] using this
  · rintro ⟨h1, h2, o, ho, h3⟩
    refine ⟨by simpa using h1, ?_⟩
    rw [List.getElem?_toArray, ho]
    simp only [Bool.and_eq_true, Bool.not_eq_true', Option.map_some, Option.getD_some, Array.all_eq_true_iff_forall_mem]
    refine ⟨h2, fun e he => ?_⟩
    cases hb : Region.binds md e
    · rfl
    · simpa using h3 e (by simpa using he) hb

theorem wpAny_more {ops : Array Oper} {Q : Exit → Act → World → Prop} : ∀ (f : Nat) (L : Array Bool) (a : Act) (w : World), wpAny P md ops Q f L a w → wpAny P md ops Q (f + 1) L a w
  | 0, L, a, w, h => ⟨fun _ => h.2, fun i hi => by rw [h.1] at hi; cases hi⟩
  | f + 1, L, a, w, h => ⟨h.1, fun i hi => wpOp_mono (fun a w => wpAny_more f _ a w) (h.2 i hi)⟩
theorem wpAny_mores {ops : Array Oper} {Q : Exit → Act → World → Prop} {f : Nat} {L : Array Bool} {a : Act} {w : World} (h : wpAny P md ops Q f L a w) : ∀ k, wpAny P md ops Q (k + f) L a w
  | 0 => by simpa using h
  | k + 1 => by
    have := wpAny_more _ _ _ _ (wpAny_mores h k)
    rwa [show k + 1 + f = k + f + 1 from by omega]

theorem getD_in {L : Array Bool} {j : Nat} (h : j < L.size) (c d : Bool) : L.getD j c = L.getD j d := by simp [h]
theorem getD_set {L : Array Bool} {i j : Nat} (h : i < L.size) : (L.setIfInBounds i true).getD j false = if i = j then true else L.getD j false := by
  simp only [Array.getD_eq_getD_getElem?, Array.getElem?_setIfInBounds]
  by_cases e : i = j
  · subst e
    simp [h]
  · simp [e]
theorem take_get {j : Nat} (h : j < m) : (l.take m)[j]? = l[j]? := by simp [h]

/-- The list of the head, and the list of all. -/
structure Sim (m : Nat) (l : List Oper) (LT L : Array Bool) : Prop where
  n1 : LT.size = m
  n2 : L.size = l.length
  lo : ∀ j, j < m → L.getD j false = LT.getD j false
  hi : ∀ j, m ≤ j → L.getD j false = false
/-- What is listed, is listed with all that it waits for. -/
def Shut (md : Region.Mode) (m : Nat) (l : List Oper) (LT : Array Bool) : Prop := ∀ k o, k < m → l[k]? = some o → LT.getD k false = true → ∀ e ∈ o.after.toList, Region.binds md e = true → LT.getD e.on false = true

theorem all_of_last (h : headB md l m = true) {LT : Array Bool} (hS : Shut md m l LT) (hl : LT.getD (m - 1) false = true) : ∀ d j, j + d = m - 1 → LT.getD j false = true := by
  intro d
  induction d using Nat.strongRecOn with
  | ind d ih =>
    intro j hj
    by_cases h0 : d = 0
    · rw [show j = m - 1 from by omega]; exact hl
    · obtain ⟨k, o, hjk, hkm, ho, e, he, hb, hon⟩ := headB_next h (j := j) (by omega)
      have := hS k o hkm ho (ih (m - 1 - k) (by omega) k (by omega)) e he hb
      rwa [hon] at this
theorem all_of_none (h : headB md l m = true) {LT : Array Bool} (hn : LT.size = m) (hr : Region.ready md (l.take m).toArray LT = []) : ∀ j, j < m → LT.getD j false = true := by
  intro j
  induction j using Nat.strongRecOn with
  | ind j ih =>
    intro hj
    cases hL : LT.getD j false with
    | true => rfl
    | false =>
      have hm := (headB_m h).2
      have hjl : j < l.length := by omega
      have ho : l[j]? = some l[j] := by simp [hjl]
      have : j ∈ Region.ready md (l.take m).toArray LT := mem_ready.2 ⟨by simp; omega, by rw [getD_in (by omega) true false]; exact hL, l[j], by rw [take_get hj]; exact ho, fun e he hb => by
        have := (headB_one h ho).1 e he hb
        exact ih e.on this (by omega)⟩
      rw [hr] at this
      cases this

/-- The head is listed, nothing else. -/
def headL (m n : Nat) : Array Bool := ((List.range n).map (fun j => decide (j < m))).toArray
theorem headL_get (m n j : Nat) (h : j < n) : (headL m n)[j]? = some (decide (j < m)) := by simp [headL, h]
theorem sim_all {LT L : Array Bool} (hs : Sim m l LT L) (hall : ∀ j, j < m → LT.getD j false = true) : L = headL m l.length := by
  apply Array.ext_getElem?
  intro j
  by_cases hj : j < l.length
  · rw [headL_get m _ j hj]
    have hjs : j < L.size := by rw [hs.n2]; exact hj
    have hg : L[j]? = some (L.getD j false) := by simp [hjs]
    rw [hg]
    by_cases hjm : j < m
    · rw [hs.lo j hjm, hall j hjm]; simp [hjm]
    · rw [hs.hi j (by omega)]; simp [hjm]
  · rw [Array.getElem?_eq_none (by rw [hs.n2]; omega), Array.getElem?_eq_none (by simp [headL]; omega)]

theorem wanted_head (h : headB md l m = true) {i : Nat} {o : Oper} (hi : i < m) (ho : l[i]? = some o) (t : Array Value) : Region.wanted o (yielded (l.take m).toArray t) = Region.wanted o (yielded l.toArray t) := by
  unfold Region.wanted
  cases hg : o.guard with
  | none => rfl
  | some p =>
    obtain ⟨j, b⟩ := p
    have hj := (headB_one h ho).2.2 j b hg
    have e : (l.take m).toArray[j]? = l.toArray[j]? := by rw [List.getElem?_toArray, List.getElem?_toArray, take_get (by omega)]
    simp only [yielded, e]
theorem qOp_head (h : headB md l m = true) {C : World → Prop} {i : Nat} (hi : i < m) {K : Act → Prop} {a : Act} (hq : qOp P (l.take m).toArray C i K a) : qOp P l.toArray C i K a := by
  unfold qOp at *
  rw [List.getElem?_toArray, take_get hi] at hq
  rw [List.getElem?_toArray]
  cases ho : l[i]? with
  | none => rw [ho] at hq; exact hq
  | some o =>
    rw [ho] at hq
    simp only [wanted_head h hi ho] at hq
    exact hq

theorem bridge (h : headB md l m = true) {C : World → Prop} {Q : Act → Prop} {Q' : Exit → Act → World → Prop} {r : Nat} (hQ : ∀ a w, C w → Q a → wpAny P md l.toArray Q' r (headL m l.length) a w) :
    ∀ (f : Nat) (LT L : Array Bool) (a : Act) (w : World), Sim m l LT L → Shut md m l LT → C w → wpAnyQ P md (l.take m).toArray C Q f LT a → wpAny P md l.toArray Q' (f + r) L a w := by
  intro f
  induction f with
  | zero =>
    intro LT L a w hs hc hw hh
    have e := sim_all hs (all_of_none h hs.n1 hh.1)
    rw [e, Nat.zero_add]
    exact hQ a w hw hh.2
  | succ f ih =>
    intro LT L a w hs hc hw hh
    by_cases h0 : Region.ready md (l.take m).toArray LT = []
    · have e := sim_all hs (all_of_none h hs.n1 h0)
      rw [e]
      exact wpAny_mores (hQ a w hw (hh.1 h0)) (f + 1)
    · have hm := headB_m h
      have some_false : ∃ j, j < m ∧ LT.getD j false = false := by
        obtain ⟨i, hi⟩ := List.exists_mem_of_ne_nil _ h0
        obtain ⟨h1, h2, _⟩ := mem_ready.1 hi
        have him : i < m := by simp at h1; omega
        exact ⟨i, him, by rw [← getD_in (by rw [hs.n1]; exact him) true false]; exact h2⟩
      have not_last : LT.getD (m - 1) false = false := by
        cases hl : LT.getD (m - 1) false with
        | false => rfl
        | true =>
          obtain ⟨j, hj, hf⟩ := some_false
          rw [all_of_last h hc hl (m - 1 - j) j (by omega)] at hf
          cases hf
      have key : ∀ i, i ∈ Region.ready md l.toArray L → i < m ∧ i ∈ Region.ready md (l.take m).toArray LT := by
        intro i hi
        obtain ⟨h1, h2, o, ho, h3⟩ := mem_ready.1 hi
        have him : i < m := by
          rcases Nat.lt_or_ge i m with hlt | hge
          · exact hlt
          · obtain ⟨e, he, hb, hon⟩ := (headB_one h ho).2.1 hge
            have h4 := h3 e he hb
            rcases Nat.lt_or_ge e.on m with hlt | hge2
            · rw [hs.lo _ hlt, show e.on = m - 1 from by omega, not_last] at h4
              cases h4
            · rw [hs.hi _ hge2] at h4
              cases h4
        refine ⟨him, mem_ready.2 ⟨by simp; omega, ?_, o, by rw [take_get him]; exact ho, fun e he hb => ?_⟩⟩
        · rw [getD_in (by rw [hs.n1]; exact him) true false, ← hs.lo i him, ← getD_in (by rw [hs.n2]; exact h1) true false]
          exact h2
        · have hlt := (headB_one h ho).1 e he hb
          rw [← hs.lo _ (by omega)]
          exact h3 e he hb
      rw [show f + 1 + r = (f + r) + 1 from by omega]
      refine ⟨fun hn => absurd ?_ h0, fun i hi => ?_⟩
      · -- the head has one that may come up, so the whole has
        obtain ⟨i, hi⟩ := List.exists_mem_of_ne_nil _ h0
        obtain ⟨h1, h2, o, ho, h3⟩ := mem_ready.1 hi
        have him : i < m := by simp at h1; omega
        rw [take_get him] at ho
        have : i ∈ Region.ready md l.toArray L := mem_ready.2 ⟨by omega, by
          rw [getD_in (by rw [hs.n2]; omega) true false, hs.lo i him, ← getD_in (by rw [hs.n1]; exact him) true false]
          exact h2, o, ho, fun e he hb => by
          have hlt := (headB_one h ho).1 e he hb
          rw [hs.lo _ (by omega)]
          exact h3 e he hb⟩
        rw [hn] at this
        cases this
      · obtain ⟨him, hiT⟩ := key i hi
        obtain ⟨_, _, o, ho, h3⟩ := mem_ready.1 hiT
        rw [take_get him] at ho
        refine wpOp_of_qOp hw (fun a' w' hw' hk => ih _ _ a' w' ?_ ?_ hw' hk) (qOp_head h him (hh.2 i hiT))
        · exact ⟨by simp [hs.n1], by simp [hs.n2], fun j hj => by rw [getD_set (by rw [hs.n2]; omega), getD_set (by rw [hs.n1]; exact him), hs.lo j hj], fun j hj => by rw [getD_set (by rw [hs.n2]; omega), if_neg (by omega)]; exact hs.hi j hj⟩
        · intro k o2 hk ho2 hl e he hb
          rw [getD_set (by rw [hs.n1]; exact him)] at hl ⊢
          by_cases hik : i = k
          · subst hik
            rw [ho] at ho2
            cases ho2
            split
            · rfl
            · exact h3 e he hb
          · rw [if_neg hik] at hl
            split
            · rfl
            · exact hc k o2 hk ho2 hl e he hb

theorem rep_getD (n j : Nat) : (Array.replicate n false).getD j false = false := by
  simp only [Array.getD_eq_getD_getElem?, Array.getElem?_replicate]
  split <;> rfl
/-- **The head quiet, then the rest.** -/
theorem wp_region_head {id : Nat} {C : World → Prop} {Q : Exit → Act → World → Prop} {a : Act} {w : World} (hm : P.follows .mixedOrders = true) (hB : Region.lexB .any (l.take m).toArray = true) (hH : headB .any l m = true)
    (hC : C { w with drawn := w.drawn + 1 })
    (h : wpQuiet P (l.take m).toArray C (fun a' => ∀ w', C w' → wpAny P .any l.toArray Q (l.length - m) (headL m l.length) a' w') (l.take m) a) : (Code.region id l.toArray true).wp P Q a w := by
  have hml := headB_m hH
  simp only [Region.lexB, Bool.and_eq_true] at hB
  refine wp_region_any hm ?_
  have hq := wpAnyQ_lex (C := C) (md := .any) hB.1 (l.take m) 0 (Array.replicate (l.take m).toArray.size false) a (by simp) (by simpa using hB.2) h
  have hlen : (l.take m).length = m := by simp; omega
  rw [hlen] at hq
  have := bridge (P := P) hH (Q' := Q) (C := C) (r := l.length - m) (fun a w hw h => h w hw) m _ (Array.replicate l.length false) a { w with drawn := w.drawn + 1 } ⟨by simp; omega, by simp, fun j hj => by rw [rep_getD, rep_getD], fun j hj => by rw [rep_getD]⟩ (fun k o hk ho hl => by rw [rep_getD] at hl; cases hl) hC hq
  rw [show m + (l.length - m) = l.length from by omega] at this
  simpa using this
end
end Go.Proofs.Ytfjgmggpkljphaa
