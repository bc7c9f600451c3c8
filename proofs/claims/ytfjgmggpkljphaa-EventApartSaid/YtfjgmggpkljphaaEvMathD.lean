/-
  Handles of events, as plain lists: rising, none twice, and all of them.
  Conditions: none; statements over lists and whole numbers.
-/
import Derived.Test.YtfjgmggpkljphaaEvMathC
namespace Go.Proofs.Ytfjgmggpkljphaa
open Go.RowKit

theorem mem_ins {h y : Int} {l : List Int} : y ∈ ins h l ↔ y = h ∨ y ∈ l := by
  unfold ins
  rw [ins_mem]
  by_cases e : y = h <;> simp [e]
theorem rise_ins {h : Int} {l : List Int} (hr : Rise l) : Rise (ins h l) := insGo_rise hr fun h => by cases h
theorem foldl_ins_mem : ∀ (k : List Ev) (s : List Int) (y : Int), y ∈ k.foldl (fun s e => ins (hOf e) s) s ↔ y ∈ s ∨ ∃ e ∈ k, hOf e = y
  | [], s, y => by simp
  | e :: k, s, y => by
    rw [List.foldl_cons, foldl_ins_mem k, mem_ins]
    constructor
    · rintro ((rfl | h) | ⟨e', h1, h2⟩)
      · exact .inr ⟨e, List.mem_cons_self .., rfl⟩
      · exact .inl h
      · exact .inr ⟨e', List.mem_cons_of_mem _ h1, h2⟩
    · rintro (h | ⟨e', h1, h2⟩)
      · exact .inl (.inr h)
      · rcases List.mem_cons.1 h1 with rfl | h1
        · exact .inl (.inl h2.symm)
        · exact .inr ⟨e', h1, h2⟩
theorem foldl_ins_rise : ∀ (k : List Ev) (s : List Int), Rise s → Rise (k.foldl (fun s e => ins (hOf e) s) s)
  | [], s, h => h
  | e :: k, s, h => by rw [List.foldl_cons]; exact foldl_ins_rise k _ (rise_ins h)
theorem hands_mem {l : List Ev} {y : Int} : y ∈ hands l ↔ ∃ e ∈ l, hOf e = y := by unfold hands; rw [foldl_ins_mem]; simp
theorem hands_rise (l : List Ev) : Rise (hands l) := foldl_ins_rise l [] List.Pairwise.nil
/-- Rising lists of the same numbers are the same. -/
theorem rise_ext : ∀ {a b : List Int}, Rise a → Rise b → (∀ x, x ∈ a ↔ x ∈ b) → a = b
  | [], [], _, _, _ => rfl
  | [], y :: b, _, _, h => absurd ((h y).2 (List.mem_cons_self ..)) (by simp)
  | x :: a, [], _, _, h => absurd ((h x).1 (List.mem_cons_self ..)) (by simp)
  | x :: a, y :: b, ha, hb, h => by
    obtain ⟨a1, a2⟩ := List.pairwise_cons.1 ha
    obtain ⟨b1, b2⟩ := List.pairwise_cons.1 hb
    have e : x = y := by
      rcases List.mem_cons.1 ((h x).1 (List.mem_cons_self ..)) with e | hx
      · exact e
      · rcases List.mem_cons.1 ((h y).2 (List.mem_cons_self ..)) with e | hy
        · exact e.symm
        · have := b1 x hx; have := a1 y hy; omega
    subst e
    rw [rise_ext a2 b2 fun z => ?_]
    constructor
    · intro hz
      rcases List.mem_cons.1 ((h z).1 (List.mem_cons_of_mem _ hz)) with e | hz'
      · subst e; exact absurd (a1 z hz) (Int.lt_irrefl _)
      · exact hz'
    · intro hz
      rcases List.mem_cons.1 ((h z).2 (List.mem_cons_of_mem _ hz)) with e | hz'
      · subst e; exact absurd (b1 z hz) (Int.lt_irrefl _)
      · exact hz'
/-- A rising list is no longer than one that has all its numbers. -/
theorem rise_le : ∀ {a b : List Int}, Rise a → (∀ x ∈ a, x ∈ b) → a.length ≤ b.length
  | [], _, _, _ => Nat.zero_le _
  | x :: a, b, ha, h => by
    obtain ⟨a1, a2⟩ := List.pairwise_cons.1 ha
    have hx := h x (List.mem_cons_self ..)
    have := rise_le (b := b.erase x) a2 fun y hy => (List.mem_erase_of_ne (by have := a1 y hy; omega)).2 (h y (List.mem_cons_of_mem _ hy))
    rw [List.length_erase_of_mem hx] at this
    have hp : 0 < b.length := List.length_pos_of_mem hx
    rw [List.length_cons]
    omega
theorem hands_le (l k : List Ev) : (hands (l ++ k)).length ≤ (hands l ++ hands k).length :=
  rise_le (hands_rise _) fun x hx => by
    obtain ⟨e, he, rfl⟩ := hands_mem.1 hx
    rcases List.mem_append.1 he with h | h
    · exact List.mem_append.2 (.inl (hands_mem.2 ⟨e, h, rfl⟩))
    · exact List.mem_append.2 (.inr (hands_mem.2 ⟨e, h, rfl⟩))
theorem hands_all (l k : List Ev) {x : Int} (hx : x ∈ hands l ++ hands k) : x ∈ hands (l ++ k) := by
  rcases List.mem_append.1 hx with h | h
  · obtain ⟨e, he, rfl⟩ := hands_mem.1 h
    exact hands_mem.2 ⟨e, List.mem_append.2 (.inl he), rfl⟩
  · obtain ⟨e, he, rfl⟩ := hands_mem.1 h
    exact hands_mem.2 ⟨e, List.mem_append.2 (.inr he), rfl⟩
theorem hands_snoc (l : List Ev) (e : Ev) : hands (l ++ [e]) = ins (hOf e) (hands l) := by unfold hands; rw [List.foldl_append]; rfl
end Go.Proofs.Ytfjgmggpkljphaa
