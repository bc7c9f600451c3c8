/-
  The map of layer 7 as plain lists: objects by their handles, rising; handles that were told, rising; what is answered, and done.
  Conditions: none; statements over lists and whole numbers.
-/
import Derived.Test.YtlcegnehlhakdaaHandleMath
import Derived.Maps.Views
namespace Go.Proofs.Ytlcegnehlhakdaa
open Go.RowKit
set_option linter.unusedVariables false

/-- An object: its handle, bytes, and how often it is pinned. -/
structure Ob where
  h : Int
  bs : List UInt8
  pins : Int
  deriving DecidableEq
/-- What a map has: objects, and handles that were told. -/
structure St where
  L : List Ob
  T : List Int
def St.none : St := ⟨[], []⟩

def getO (L : List Ob) (h : Int) : Option Ob := L.find? (fun x => x.h == h)
def insO (x : Ob) : List Ob → List Ob
  | [] => [x]
  | y :: r => if x.h < y.h then x :: y :: r else y :: insO x r
def delO (L : List Ob) (h : Int) : List Ob := L.filter (fun y => !(y.h == h))
def putO (L : List Ob) (x : Ob) : List Ob := insO x (delO L x.h)
def insT (x : Int) : List Int → List Int
  | [] => [x]
  | y :: r => if x < y then x :: y :: r else y :: insT x r
def putT (T : List Int) (h : Int) : List Int := insT h (T.filter (fun y => !(y == h)))

/-- A number's lowest eight bits. -/
def u8 (n : Int) : UInt8 := UInt8.ofNat (n % 256).toNat
def byteAt (x : Ob) (off : Int) : Int := ((x.bs.getD off.toNat 0).toNat : Int)
/-- The error that an op of a live object has. -/
def obE (x : Ob) (d off : Int) : Int :=
  if d = 1 ∧ 0 < x.pins then 6
  else if (d = 2 ∨ d = 3) ∧ ¬ (0 ≤ off ∧ off < x.bs.length) then 5
  else if d = 4 ∧ x.pins = 7 then 7
  else if d = 5 ∧ x.pins = 0 then 8
  else 0
/-- The number that it is answered by. -/
def obN (x : Ob) (d off : Int) : Int := if d = 2 ∧ 0 ≤ off ∧ off < x.bs.length then byteAt x off else 0
/-- The object behind it. -/
def obB (x : Ob) (d off n : Int) : Ob :=
  if d = 3 then { x with bs := x.bs.set off.toNat (u8 n) }
  else if d = 4 then { x with pins := x.pins + 1 }
  else if d = 5 then { x with pins := x.pins - 1 }
  else x
/-- Answer: the error, the number, whether there is one. -/
def ansE (S : St) (d h off n : Int) : Int :=
  if d = 0 then (if rdB n then 0 else 9)
  else if d < 0 ∨ 5 < d then 1
  else match getO S.L h with
    | Option.none => 4
    | some x => obE x d off
def ansN' (S : St) (d h off n : Int) : Int :=
  if d = 0 then 0
  else if d < 0 ∨ 5 < d then 0
  else match getO S.L h with
    | Option.none => 0
    | some x => obN x d off
def ansH (d n : Int) : Bool := !(decide (d = 0) && rdB n)
/-- What is done. -/
def doS (S : St) (d h off n : Int) : St :=
  if d = 1 then { S with L := delO S.L h }
  else match getO S.L h with
    | Option.none => S
    | some x => { S with L := putO S.L (obB x d off n) }
/-- Whether an Alloc of n bytes may be told r. -/
def newB (S : St) (r : Int) : Bool := isH r && !S.T.contains r
def newS (S : St) (n r : Int) : St := ⟨putO S.L ⟨r, List.replicate n.toNat 0, 0⟩, putT S.T r⟩
def tryB (S : St) (d h off n c r : Int) : Bool :=
  if ansH d n then (decide (c = ansE S d h off n) && decide (r = ansN' S d h off n))
  else if c = 10 ∨ c = 11 then decide (r = 0)
  else if c = 0 then newB S r
  else false
def tryS (S : St) (d h off n c r : Int) : St :=
  if ansH d n then (if (decide (c = ansE S d h off n) && decide (r = ansN' S d h off n)) && decide (c = 0) && !decide (d = 0) then doS S d h off n else S)
  else if c = 0 ∧ newB S r = true then newS S n r
  else S

/-- What always holds of a map. -/
structure Good (S : St) : Prop where
  up : S.L.Pairwise (fun x y => x.h < y.h)
  upT : S.T.Pairwise (· < ·)
  live : ∀ x ∈ S.L, x.bs ≠ [] ∧ x.bs.length ≤ 256 ∧ 0 ≤ x.pins ∧ x.pins ≤ 7 ∧ x.h ∈ S.T
  told : ∀ h ∈ S.T, isH h = true
theorem Good.none : Good St.none := ⟨List.Pairwise.nil, List.Pairwise.nil, fun x hx => by simp [St.none] at hx, fun x hx => by simp [St.none] at hx⟩

theorem mem_insO {x y : Ob} : ∀ {L : List Ob}, y ∈ insO x L ↔ y = x ∨ y ∈ L
  | [] => by simp [insO]
  | z :: r => by
    unfold insO
    split
    · simp
    · rw [List.mem_cons, mem_insO, List.mem_cons]
      constructor
      · rintro (h | h | h)
        · exact .inr (.inl h)
        · exact .inl h
        · exact .inr (.inr h)
      · rintro (h | h | h)
        · exact .inr (.inl h)
        · exact .inl h
        · exact .inr (.inr h)
theorem insO_up {x : Ob} : ∀ {L : List Ob}, L.Pairwise (fun x y => x.h < y.h) → (∀ y ∈ L, y.h ≠ x.h) → (insO x L).Pairwise (fun x y => x.h < y.h)
  | [], _, _ => by simp [insO]
  | z :: r, hL, hne => by
    have hz := hne z (by simp)
    obtain ⟨h1, h2⟩ := List.pairwise_cons.1 hL
    unfold insO
    split
    · rename_i c
      refine List.pairwise_cons.2 ⟨fun y hy => ?_, hL⟩
      rcases List.mem_cons.1 hy with rfl | hy
      · exact c
      · exact Int.lt_trans c (h1 y hy)
    · refine List.pairwise_cons.2 ⟨fun y hy => ?_, insO_up h2 fun y hy => hne y (by simp [hy])⟩
      rcases mem_insO.1 hy with rfl | hy
      · omega
      · exact h1 y hy
theorem mem_insT {x y : Int} : ∀ {L : List Int}, y ∈ insT x L ↔ y = x ∨ y ∈ L
  | [] => by simp [insT]
  | z :: r => by
    unfold insT
    split
    · simp
    · rw [List.mem_cons, mem_insT, List.mem_cons]
      constructor
      · rintro (h | h | h)
        · exact .inr (.inl h)
        · exact .inl h
        · exact .inr (.inr h)
      · rintro (h | h | h)
        · exact .inr (.inl h)
        · exact .inl h
        · exact .inr (.inr h)
theorem insT_up {x : Int} : ∀ {L : List Int}, L.Pairwise (· < ·) → (∀ y ∈ L, y ≠ x) → (insT x L).Pairwise (· < ·)
  | [], _, _ => by simp [insT]
  | z :: r, hL, hne => by
    have hz := hne z (by simp)
    obtain ⟨h1, h2⟩ := List.pairwise_cons.1 hL
    unfold insT
    split
    · rename_i c
      refine List.pairwise_cons.2 ⟨fun y hy => ?_, hL⟩
      rcases List.mem_cons.1 hy with rfl | hy
      · exact c
      · exact Int.lt_trans c (h1 y hy)
    · refine List.pairwise_cons.2 ⟨fun y hy => ?_, insT_up h2 fun y hy => hne y (by simp [hy])⟩
      rcases mem_insT.1 hy with rfl | hy
      · omega
      · exact h1 y hy
theorem insO_len (x : Ob) : ∀ L : List Ob, (insO x L).length = L.length + 1
  | [] => rfl
  | z :: r => by
    unfold insO
    split
    · rfl
    · simp [insO_len x r]
theorem insT_len (x : Int) : ∀ L : List Int, (insT x L).length = L.length + 1
  | [] => rfl
  | z :: r => by
    unfold insT
    split
    · rfl
    · simp [insT_len x r]
theorem mem_delO {L : List Ob} {h : Int} {y : Ob} : y ∈ delO L h ↔ y ∈ L ∧ y.h ≠ h := by simp [delO]
theorem mem_putO {L : List Ob} {x y : Ob} : y ∈ putO L x ↔ y = x ∨ (y ∈ L ∧ y.h ≠ x.h) := by unfold putO; rw [mem_insO, mem_delO]
theorem delO_up {L : List Ob} (h : Int) (hL : L.Pairwise (fun x y => x.h < y.h)) : (delO L h).Pairwise (fun x y => x.h < y.h) := List.Pairwise.filter _ hL
theorem putO_up {L : List Ob} (x : Ob) (hL : L.Pairwise (fun x y => x.h < y.h)) : (putO L x).Pairwise (fun x y => x.h < y.h) := insO_up (delO_up _ hL) fun y hy => (mem_delO.1 hy).2
theorem putO_len (L : List Ob) (x : Ob) : (putO L x).length ≤ L.length + 1 := by
  unfold putO
  rw [insO_len]
  have := List.length_filter_le (fun y : Ob => !(y.h == x.h)) L
  unfold delO
  omega
theorem delO_len (L : List Ob) (h : Int) : (delO L h).length ≤ L.length := List.length_filter_le _ _
theorem mem_putT {T : List Int} {h y : Int} : y ∈ putT T h ↔ y = h ∨ y ∈ T := by
  unfold putT
  rw [mem_insT, List.mem_filter]
  by_cases e : y = h
  · simp [e]
  · simp [e]
theorem putT_up {T : List Int} (h : Int) (hT : T.Pairwise (· < ·)) : (putT T h).Pairwise (· < ·) := insT_up (List.Pairwise.filter _ hT) fun y hy => by
  have := (List.mem_filter.1 hy).2
  simpa using this
theorem putT_len (T : List Int) (h : Int) : (putT T h).length ≤ T.length + 1 := by
  unfold putT
  rw [insT_len]
  have := List.length_filter_le (fun y : Int => !(y == h)) T
  omega

theorem getO_some {L : List Ob} {h : Int} {x : Ob} (e : getO L h = some x) : x ∈ L ∧ x.h = h := by
  unfold getO at e
  exact ⟨List.mem_of_find?_eq_some e, by simpa using List.find?_some e⟩
theorem getO_none {L : List Ob} {h : Int} (e : getO L h = Option.none) : ∀ x ∈ L, x.h ≠ h := fun x hx => by
  have := List.find?_eq_none.1 e x hx
  simpa using this
/-- Where no two have one handle, whoever has it is found. -/
theorem getO_of {L : List Ob} (hL : L.Pairwise (fun x y => x.h < y.h)) {x : Ob} (hx : x ∈ L) : getO L x.h = some x := by
  induction L with
  | nil => simp at hx
  | cons y r ih =>
    obtain ⟨h1, h2⟩ := List.pairwise_cons.1 hL
    unfold getO
    rcases List.mem_cons.1 hx with rfl | hx
    · simp
    · have hne : ¬ y.h = x.h := by have := h1 x hx; omega
      have hf : (y.h == x.h) = false := by simpa using hne
      rw [List.find?_cons, hf]
      exact ih h2 hx

theorem obB_h (x : Ob) (d off n : Int) : (obB x d off n).h = x.h := by unfold obB; split; rfl; split; rfl; split <;> rfl
theorem obB_len (x : Ob) (d off n : Int) : (obB x d off n).bs.length = x.bs.length := by unfold obB; split; simp; split; rfl; split <;> rfl

theorem Good.newS {S : St} (g : Good S) {n r : Int} (hn : rdB n = true) (hr : newB S r = true) : Good (newS S n r) := by
  have hn' := rdB_of hn
  have hr' : isH r = true ∧ r ∉ S.T := by
    have h := hr
    simp [newB] at h
    exact h
  refine ⟨putO_up _ g.up, putT_up _ g.upT, fun x hx => ?_, fun h hh => ?_⟩
  · rcases mem_putO.1 hx with rfl | ⟨hx, _⟩
    · refine ⟨?_, ?_, Int.le_refl _, by show (0 : Int) ≤ 7; omega, mem_putT.2 (.inl rfl)⟩
      · intro e
        have := congrArg List.length e
        simp at this
        omega
      · simp; omega
    · obtain ⟨h1, h2, h3, h4, h5⟩ := g.live x hx
      exact ⟨h1, h2, h3, h4, mem_putT.2 (.inr h5)⟩
  · rcases mem_putT.1 hh with rfl | hh
    · exact hr'.1
    · exact g.told h hh
theorem Good.doS {S : St} (g : Good S) {d h off n : Int} (hd : ¬ (d < 0 ∨ 5 < d)) (hx : ∀ x, getO S.L h = some x → obE x d off = 0) : Good (doS S d h off n) := by
  unfold Go.Proofs.Ytlcegnehlhakdaa.doS
  split
  · exact ⟨delO_up _ g.up, g.upT, fun x hx => g.live x (mem_delO.1 hx).1, g.told⟩
  · split
    · exact g
    · rename_i x e
      have hmem := getO_some e
      obtain ⟨h1, h2, h3, h4, h5⟩ := g.live x hmem.1
      refine ⟨putO_up _ g.up, g.upT, fun y hy => ?_, g.told⟩
      rcases mem_putO.1 hy with rfl | ⟨hy, _⟩
      · have hl := obB_len x d off n
        have he := hx x e
        refine ⟨?_, by rw [hl]; exact h2, ?_, ?_, by rw [obB_h]; exact h5⟩
        · intro e0
          rw [e0] at hl
          simp at hl
          exact h1 (List.eq_nil_of_length_eq_zero hl.symm)
        · unfold obB obE at *
          by_cases d3 : d = 3
          · simp [d3]; exact h3
          · by_cases d4 : d = 4
            · simp [d4]; omega
            · by_cases d5 : d = 5
              · simp [d5] at he ⊢
                omega
              · simp [d3, d4, d5]; exact h3
        · unfold obB obE at *
          by_cases d3 : d = 3
          · simp [d3]; exact h4
          · by_cases d4 : d = 4
            · simp [d4] at he ⊢
              omega
            · by_cases d5 : d = 5
              · simp [d5]; omega
              · simp [d3, d4, d5]; exact h4
      · exact g.live y hy
theorem Good.tryS {S : St} (g : Good S) (d h off n c r : Int) : Good (tryS S d h off n c r) := by
  unfold Go.Proofs.Ytlcegnehlhakdaa.tryS
  cases ha : ansH d n
  · simp only [Bool.false_eq_true, if_false]
    have hn : d = 0 ∧ rdB n = true := by
      simpa [ansH] using ha
    split
    · rename_i h1
      exact g.newS hn.2 h1.2
    · exact g
  · simp only [if_true]
    split
    · rename_i h1
      simp only [Bool.and_eq_true, decide_eq_true_eq, Bool.not_eq_true', decide_eq_false_iff_not] at h1
      obtain ⟨⟨⟨h1, h2⟩, h3⟩, h4⟩ := h1
      subst h3
      have hd : ¬ (d < 0 ∨ 5 < d) := fun c => by
        unfold ansE at h1
        rw [if_neg h4, if_pos c] at h1
        omega
      refine g.doS hd fun x hx => ?_
      unfold ansE at h1
      rw [if_neg h4, if_neg hd, hx] at h1
      exact h1.symm
    · exact g
theorem tryS_len (S : St) (d h off n c r : Int) : (tryS S d h off n c r).L.length ≤ S.L.length + 1 ∧ (tryS S d h off n c r).T.length ≤ S.T.length + 1 := by
  have hdo : (doS S d h off n).L.length ≤ S.L.length + 1 ∧ (doS S d h off n).T.length ≤ S.T.length + 1 := by
    unfold doS
    split
    · exact ⟨Nat.le_succ_of_le (delO_len _ _), Nat.le_succ _⟩
    · split
      · exact ⟨Nat.le_succ _, Nat.le_succ _⟩
      · exact ⟨putO_len _ _, Nat.le_succ _⟩
  unfold tryS
  split
  · split
    · exact hdo
    · exact ⟨Nat.le_succ _, Nat.le_succ _⟩
  · split
    · exact ⟨putO_len _ _, putT_len _ _⟩
    · exact ⟨Nat.le_succ _, Nat.le_succ _⟩
end Go.Proofs.Ytlcegnehlhakdaa
