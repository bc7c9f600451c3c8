/-
  The document's machines, as plain steps on a list of words; that the program's machines come to the same.
  Conditions: none; definitions and plain lemmas.
-/
import Derived.Test.YtlidoicpfomfcaaDoorStMath
namespace Go.Proofs.YtlidoicpfomfcaaDoor
open Go.RowKit
set_option linter.unusedVariables false

/-- A machine of the document: its slot, its next step, and what it keeps. -/
structure Rc where
  slot : Int
  next : Int
  word : Int
  to : Int
structure ROut where
  slot : Int
  err : Int
  done : Bool
  k : Rc
  ws : List Int
/-- How it lies, cell by cell. -/
def refL (a s t : Int) (push : Bool) (K : Rc) : List Value := [.int .i64 a, .int .i64 s, .int .i64 t, .bool push, .int .i64 K.slot, .int .i64 K.next, .int .i64 K.word, .int .i64 K.to]

/-- Step 1, where x is the Stack's word and p the place of the slot's link. -/
def ref1 (push : Bool) (x p : Int) (K : Rc) (ws : List Int) : ROut :=
  if push && decide (p < 0) then ⟨0, 1, true, { K with next := 0 }, ws⟩
  else if heB x then
    if !push && decide (x % 1048576 = 0) then ⟨0, 11, true, { K with word := x, next := 0 }, ws⟩
    else ⟨0, 0, false, { K with word := x, slot := if push then K.slot else x % 1048576 - 1, next := 2 }, ws⟩
  else ⟨0, 2, true, { K with word := x, next := 0 }, ws⟩
/-- Step 2, where l is the link's word. -/
def ref2 (push : Bool) (p l : Int) (K : Rc) (ws : List Int) : ROut :=
  if push then ⟨0, 0, false, { K with to := pushV K.word K.slot, next := 3 }, setI ws p (pushL K.word K.slot)⟩
  else if popE K.word l = 0 then ⟨0, 0, false, { K with to := popV K.word l, next := 3 }, ws⟩
  else ⟨0, 2, true, { K with next := 0 }, ws⟩
def ref3 (push : Bool) (K : Rc) (ws : List Int) : ROut :=
  if casB ws 1 K.word then ⟨if push then 0 else K.slot, 0, true, { K with next := 0 }, casW ws 1 K.word K.to⟩ else ⟨0, 0, false, { K with next := 1 }, ws⟩
def refO (push : Bool) (t s : Int) (K : Rc) (ws : List Int) : ROut :=
  if K.next = 1 then ref1 push (atI ws 1) (partN t s K.slot 2) K ws
  else if K.next = 2 then ref2 push (partN t s K.slot 2) (atI ws (partN t s K.slot 2)) K ws
  else if K.next = 3 then ref3 push K ws else ⟨0, 1, true, K, ws⟩

/-- The program's machine does the document's machine's steps. -/
structure Sim (push : Bool) (M : Mc) (K : Rc) : Prop where
  nx : K.next = if M.step = 3 then 0 else M.step + 1
  s0 : 0 ≤ M.step
  s3 : M.step ≤ 3
  ps : push = true → K.slot = M.slot
  pm : M.step = 1 ∨ M.step = 2 → K.slot = M.slot ∧ K.word = M.word
  p2 : M.step = 2 → K.to = M.next
  pl : push = true → M.step = 1 ∨ M.step = 2 → M.next = pushV M.word M.slot ∧ M.link = pushL M.word M.slot
  wm : M.word ≤ 9223372036854775807
  kw : K.word ≤ 9223372036854775807

def machO (push : Bool) (t s : Int) (M : Mc) (ws : List Int) : Out := if push then pushO t s M ws else popO t s M ws

theorem sim_begin (push : Bool) (slot : Int) : Sim push ⟨if push then slot else 0, 0, 0, 0, 0⟩ ⟨slot, 1, 0, 0⟩ := by
  refine ⟨rfl, Int.le_refl 0, ?_, fun h => ?_, fun h => ?_, fun h => ?_, fun _ h => ?_, ?_, ?_⟩
  · show (0 : Int) ≤ 3; decide
  · show slot = if push then slot else 0; rw [if_pos h]
  · have h' : (0 : Int) = 1 ∨ (0 : Int) = 2 := h; omega
  · have h' : (0 : Int) = 2 := h; omega
  · have h' : (0 : Int) = 1 ∨ (0 : Int) = 2 := h; omega
  · show (0 : Int) ≤ 9223372036854775807; decide
  · show (0 : Int) ≤ 9223372036854775807; decide

/-- Both come to the same. -/
def SimO (push : Bool) (o : Out) (r : ROut) : Prop := o.slot = r.slot ∧ o.err = r.err ∧ o.done = r.done ∧ o.ws = r.ws ∧ Sim push o.m r.k
/-- A machine that has ended. -/
theorem sim_end {push : Bool} {slot word next link : Int} {K : Rc} (hps : push = true → K.slot = slot) (hn : K.next = 0) (hw : word ≤ 9223372036854775807) (hk : K.word ≤ 9223372036854775807) : Sim push ⟨slot, 3, word, next, link⟩ K :=
  ⟨hn, show (0 : Int) ≤ 3 by decide, Int.le_refl 3, hps, fun h => by have h' : (3 : Int) = 1 ∨ (3 : Int) = 2 := h; omega, fun h => by have h' : (3 : Int) = 2 := h; omega, fun _ h => by have h' : (3 : Int) = 1 ∨ (3 : Int) = 2 := h; omega, hw, hk⟩
theorem sim_pop1 {x p slot word next link kslot kword kto : Int} {ws : List Int} (hw : x ≤ 9223372036854775807) : SimO false (pop1 x ⟨slot, 0, word, next, link⟩ ws) (ref1 false x p ⟨kslot, 1, kword, kto⟩ ws) := by
  unfold pop1 ref1
  rw [if_neg (show ¬ (false && decide (p < 0)) = true by simp)]
  cases hb : heB x
  · rw [if_neg (by decide), if_neg (by decide)]
    exact ⟨rfl, rfl, rfl, rfl, sim_end (fun h => absurd h (by decide)) rfl hw hw⟩
  · rw [if_pos rfl, if_pos rfl]
    by_cases h0 : x % 1048576 = 0
    · rw [if_pos h0, if_pos (show (!false && decide (x % 1048576 = 0)) = true by simp [h0])]
      exact ⟨rfl, rfl, rfl, rfl, sim_end (fun h => absurd h (by decide)) rfl hw hw⟩
    · rw [if_neg h0, if_neg (show ¬ (!false && decide (x % 1048576 = 0)) = true by simp [h0])]
      exact ⟨rfl, rfl, rfl, rfl, ⟨rfl, show (0 : Int) ≤ 1 by decide, show (1 : Int) ≤ 3 by decide, fun h => absurd h (by decide), fun _ => ⟨rfl, rfl⟩, fun h => by have h' : (1 : Int) = 2 := h; omega, fun h => absurd h (by decide), hw, hw⟩⟩
theorem sim_pop2 {p l slot word next link kto : Int} {ws : List Int} (hw : word ≤ 9223372036854775807) : SimO false (pop2 l ⟨slot, 1, word, next, link⟩ ws) (ref2 false p l ⟨slot, 2, word, kto⟩ ws) := by
  unfold pop2 ref2
  rw [if_neg (show ¬ false = true by decide)]
  by_cases h0 : popE word l = 0
  · rw [if_pos h0, if_pos h0]
    exact ⟨rfl, rfl, rfl, rfl, ⟨rfl, show (0 : Int) ≤ 2 by decide, show (2 : Int) ≤ 3 by decide, fun h => absurd h (by decide), fun _ => ⟨rfl, rfl⟩, fun _ => rfl, fun h => absurd h (by decide), hw, hw⟩⟩
  · rw [if_neg h0, if_neg h0]
    exact ⟨rfl, rfl, rfl, rfl, sim_end (fun h => absurd h (by decide)) rfl hw hw⟩
theorem sim_back {push : Bool} {slot word next link kto : Int} (hw : word ≤ 9223372036854775807) : Sim push ⟨slot, 0, word, next, link⟩ ⟨slot, 1, word, kto⟩ :=
  ⟨rfl, Int.le_refl 0, show (0 : Int) ≤ 3 by decide, fun _ => rfl, fun h => by have h' : (0 : Int) = 1 ∨ (0 : Int) = 2 := h; omega, fun h => by have h' : (0 : Int) = 2 := h; omega, fun _ h => by have h' : (0 : Int) = 1 ∨ (0 : Int) = 2 := h; omega, hw, hw⟩
theorem sim_pop3 {slot word next link : Int} {ws : List Int} (hw : word ≤ 9223372036854775807) : SimO false (pop3 ⟨slot, 2, word, next, link⟩ ws) (ref3 false ⟨slot, 3, word, next⟩ ws) := by
  unfold pop3 ref3
  cases hc : casB ws 1 word
  · rw [if_neg (by decide), if_neg (by decide)]
    exact ⟨rfl, rfl, rfl, rfl, sim_back hw⟩
  · rw [if_pos rfl, if_pos rfl]
    exact ⟨rfl, rfl, rfl, rfl, sim_end (fun h => absurd h (by decide)) rfl hw hw⟩
theorem sim_push1 {x p slot word next link kword kto t s : Int} {ws : List Int} (hp : p = partN t s slot 2) (t0 : 1 ≤ t) (s64 : s ≤ 64) (hw : x ≤ 9223372036854775807) (hm : word ≤ 9223372036854775807) (hk : kword ≤ 9223372036854775807) : SimO true (push1 x p ⟨slot, 0, word, next, link⟩ ws) (ref1 true x p ⟨slot, 1, kword, kto⟩ ws) := by
  unfold push1 ref1
  by_cases h0 : 0 ≤ p
  · have hslot : 0 ≤ slot ∧ slot ≤ s - 1 := by
      by_cases c : 0 ≤ slot ∧ slot ≤ s - 1
      · exact c
      · rw [hp, partN_no c] at h0; omega
    rw [if_pos h0, if_neg (show ¬ (true && decide (p < 0)) = true by simp [h0])]
    cases hb : heB x
    · have hE : ¬ pushE x slot = 0 := by rw [pushE_form hb]; decide
      rw [if_neg hE, if_neg (by decide)]
      exact ⟨rfl, rfl, rfl, rfl, sim_end (fun _ => rfl) rfl hw hw⟩
    · have hE : pushE x slot = 0 := pushE_ok hb (slotP_true (by omega))
      rw [if_pos hE, if_pos rfl, if_neg (show ¬ (!true && decide (x % 1048576 = 0)) = true by simp), if_pos rfl]
      exact ⟨rfl, rfl, rfl, rfl, ⟨rfl, show (0 : Int) ≤ 1 by decide, show (1 : Int) ≤ 3 by decide, fun _ => rfl, fun _ => ⟨rfl, rfl⟩, fun h => by have h' : (1 : Int) = 2 := h; omega, fun _ _ => ⟨rfl, rfl⟩, hw, hw⟩⟩
  · rw [if_neg h0, if_pos (show (true && decide (p < 0)) = true by simp; omega)]
    exact ⟨rfl, rfl, rfl, rfl, sim_end (fun _ => rfl) rfl hm hk⟩
theorem sim_push2 {p l slot word kto : Int} {ws : List Int} (hw : word ≤ 9223372036854775807) : SimO true (push2 p ⟨slot, 1, word, pushV word slot, pushL word slot⟩ ws) (ref2 true p l ⟨slot, 2, word, kto⟩ ws) := by
  unfold push2 ref2
  rw [if_pos rfl]
  exact ⟨rfl, rfl, rfl, rfl, ⟨rfl, show (0 : Int) ≤ 2 by decide, show (2 : Int) ≤ 3 by decide, fun _ => rfl, fun _ => ⟨rfl, rfl⟩, fun _ => rfl, fun _ _ => ⟨rfl, rfl⟩, hw, hw⟩⟩
theorem sim_push3 {slot word next link : Int} {ws : List Int} (hw : word ≤ 9223372036854775807) : SimO true (push3 ⟨slot, 2, word, next, link⟩ ws) (ref3 true ⟨slot, 3, word, next⟩ ws) := by
  unfold push3 ref3
  cases hc : casB ws 1 word
  · rw [if_neg (by decide), if_neg (by decide)]
    exact ⟨rfl, rfl, rfl, rfl, sim_back hw⟩
  · rw [if_pos rfl, if_pos rfl]
    exact ⟨rfl, rfl, rfl, rfl, sim_end (fun _ => rfl) rfl hw hw⟩
theorem sim_step {push : Bool} {t s : Int} {M : Mc} {K : Rc} {ws : List Int} (h : Sim push M K) (t0 : 1 ≤ t) (s64 : s ≤ 64) (hw : atI ws 1 ≤ 9223372036854775807) : SimO push (machO push t s M ws) (refO push t s K ws) := by
  obtain ⟨slot, step, word, next, link⟩ := M
  obtain ⟨kslot, knext, kword, kto⟩ := K
  obtain ⟨nx, s0, s3, ps, pm, p2, pl, wm, kw⟩ := h
  dsimp only at nx s0 s3 ps pm p2 pl wm kw
  have hs : step = 0 ∨ step = 1 ∨ step = 2 ∨ step = 3 := by omega
  rcases hs with rfl | rfl | rfl | rfl
  · obtain rfl : knext = 1 := nx
    cases push
    · exact sim_pop1 (p := partN t s kslot 2) hw
    · obtain rfl := ps rfl
      exact sim_push1 rfl t0 s64 hw wm kw
  · obtain rfl : knext = 2 := nx
    obtain ⟨rfl, rfl⟩ := pm (Or.inl rfl)
    cases push
    · exact sim_pop2 (p := partN t s kslot 2) wm
    · obtain ⟨rfl, rfl⟩ := pl rfl (Or.inl rfl)
      exact sim_push2 (l := atI ws (partN t s kslot 2)) wm
  · obtain rfl : knext = 3 := nx
    obtain ⟨rfl, rfl⟩ := pm (Or.inr rfl)
    obtain rfl := p2 rfl
    cases push
    · exact sim_pop3 wm
    · exact sim_push3 wm
  · obtain rfl : knext = 0 := nx
    cases push
    · exact ⟨rfl, rfl, rfl, rfl, ⟨rfl, s0, s3, ps, pm, p2, pl, wm, kw⟩⟩
    · exact ⟨rfl, rfl, rfl, rfl, ⟨rfl, s0, s3, ps, pm, p2, pl, wm, kw⟩⟩
end Go.Proofs.YtlidoicpfomfcaaDoor
