/-
  What the program's own Copy comes to for layer 7.
  Conditions: that the map stands in memory.
-/
import Derived.Test.YtlcegnehlhakdaaMdTry
import Derived.Ground.SlmcProg
import Derived.Shelf.Lay
import Derived.Shelf.SlMaps.Clone
namespace Go.Proofs
open Go.Shelf
shelf_lay_g SlLaysW.n5 Slmc 5 at Try 28 as Try.cloneO
shelf_lay_g SlLaysW.n5 Slmc 5 at Try 29 as Try.cloneT
end Go.Proofs
namespace Go.Proofs.Ytlcegnehlhakdaa
open Go.RowKit Go.Maps Go.Shelf
attribute [local go_sem] Later.cell Later.frozen Later.lt Later.le
set_option linter.unusedVariables false
set_option linter.unusedSimpArgs false
set_option maxRecDepth 4000

theorem MV.below {w w' : World} {R : Value → Option (DataW Unit × List MemPlace)} {bo : Option Nat} {n : Nat} {D : DataW Unit} (h : MV w R bo n D) (hb : Below w.heap.size w w') : MV w' R bo n D := by
  rcases h with h | ⟨b, rfl, ho⟩
  · exact .inl h
  · exact .inr ⟨b, rfl, (Kept.of_below [] hb).owns ho (by simp)⟩
/-- A map that is a copy of another one. -/
def Cloned (R : Value → Option (DataW Unit × List MemPlace)) (bo : Option Nat) (n : Nat) (D : DataW Unit) (W : World) (en : Ending) (W' : World) : Prop :=
  ∃ bo', en = .returned (.map bo') ∧ MV W' R bo' n D ∧ (∀ b, bo' = some b → W.heap.size ≤ b ∧ b < W'.heap.size) ∧ Below W.heap.size W W' ∧ (bo' = none ↔ bo = none)
theorem clone_obj {bo : Option Nat} {n : Nat} {D : DataW Unit} {W : World} (h : MV W objR bo n D) : Calls Try.prog 28 #[.map bo] W (Cloned objR bo n D W) := by
  rcases h with ⟨rfl, hn⟩ | ⟨b, rfl, ho⟩
  · refine (AnyW.maps_Clone_nil Try.cloneO W).mono ?_
    rintro _ _ ⟨rfl, rfl⟩
    exact ⟨none, rfl, .inl ⟨rfl, hn⟩, by simp, Below.refl _ _, Iff.rfl⟩
  · refine (AnyW.maps_Clone_owns Try.cloneO 3 objR b n D W ho).mono ?_
    rintro _ W' ⟨rfl, h1, h2, h3⟩
    exact ⟨some W.heap.size, rfl, .inr ⟨_, rfl, h1⟩, fun b h => by cases h; exact ⟨Nat.le_refl _, h1.lt⟩, h3, by simp⟩
theorem clone_told {bo : Option Nat} {n : Nat} {D : DataW Unit} {W : World} (h : MV W unitElem bo n D) : Calls Try.prog 29 #[.map bo] W (Cloned unitElem bo n D W) := by
  rcases h with ⟨rfl, hn⟩ | ⟨b, rfl, ho⟩
  · refine (AnyW.maps_Clone_nil Try.cloneT W).mono ?_
    rintro _ _ ⟨rfl, rfl⟩
    exact ⟨none, rfl, .inl ⟨rfl, hn⟩, by simp, Below.refl _ _, Iff.rfl⟩
  · refine (AnyW.maps_Clone_owns Try.cloneT 3 unitElem b n D W ho).mono ?_
    rintro _ W' ⟨rfl, h1, h2, h3⟩
    exact ⟨some W.heap.size, rfl, .inr ⟨_, rfl, h1⟩, fun b h => by cases h; exact ⟨Nat.le_refl _, h1.lt⟩, h3, by simp⟩

/-- What a copy is. -/
def CopyRet (w : World) (S : St) (en : Ending) (w' : World) : Prop :=
  ∃ g' bo' bt', en = .returned (.pointer (some ⟨g', 0, none⟩)) ∧ MapAt w' g' bo' bt' S ∧ Below w.heap.size w w' ∧ ∀ b ∈ foot g' bo' bt', w.heap.size ≤ b
theorem Copy_nil (w : World) : Calls Try.prog 11 #[.pointer none] w (fun en w' => en = .returned (.pointer none) ∧ w' = w) := by
  go_enter Try.func11, Try.ntmps11
  go_wp2
  go_ret
  exact ⟨rfl, rfl⟩
theorem sncBehind {V W W' : World} (h : Snc V W) (h' : Below W.heap.size W W') : Snc V W' := Below.trans h (h'.mono (Below.size h))
theorem copyOf {c0 c1 : Prop} {V W : World} (h : c0 ∧ c1 ∧ Snc V W) : Snc V W := h.2.2
set_option maxHeartbeats 2000000 in
theorem Copy_any {w : World} {g : Nat} {bo bt : Option Nat} {S : St} (hM : MapAt w g bo bt S) : Calls Try.prog 11 #[.pointer (some ⟨g, 0, none⟩)] w (CopyRet w S) := by
  have c1 : ∀ W, Snc w W → Calls Try.prog 28 #[.map bo] W (Cloned objR bo S.L.length (objD S.L) W) := fun W h => clone_obj (hM.below h).objs
  have c2 : ∀ W, Snc w W → Calls Try.prog 29 #[.map bt] W (Cloned unitElem bt S.T.length (setD S.T) W) := fun W h => clone_told (hM.below h).told
  have hAll : ∀ W, Snc w W → W.cell? ⟨g, 0, none⟩ = some (.map bo) ∧ W.cell? ⟨g, 1, none⟩ = some (.map bt) ∧ Snc w W := fun W h => ⟨(hM.below h).cell0, (hM.below h).cell1, h⟩
  have hS0 : Snc w w.drew := (Below.refl _ _).drew
  have HALL := Lib.hid hAll
  clear hAll
  go_enter Try.func11, Try.ntmps11
  go_wp2
  go_region_held3 (fun w' => w'.cell? ⟨g, 0, none⟩ = some (.map bo) ∧ w'.cell? ⟨g, 1, none⟩ = some (.map bt) ∧ Snc w w')
    (first | (with_reducible exact HALL.out _ hS0) | (with_reducible assumption) | (with_reducible exact HALL.out _ (sncBehind (copyOf ‹_ ∧ _›) ‹Below _ _ _›)) | (with_reducible exact HALL.out _ (Snc.alloc (copyOf ‹_ ∧ _›) _)))
    (first
      | (go_at_call 28; (with_reducible refine (c1 _ (copyOf ‹_ ∧ _›)).mono ?_); rintro _ W1 ⟨bo', rfl, m1, f1, l1, i1⟩)
      | (go_at_call 29; (with_reducible refine (c2 _ (copyOf ‹_ ∧ _›)).mono ?_); rintro _ W2 ⟨bt', rfl, m2, f2, l2, i2⟩))
  have hw1 : Below w.heap.size w W1 := sncBehind hS0 l1
  have hw2 : Below w.heap.size w W2 := sncBehind hw1 l2
  have hd : w.heap.size ≤ w.drew.heap.size := hS0.size
  have z1 := hw1.size
  have z2 := l2.size
  have hW3 : Below w.heap.size w (W2.alloc (.cells #[.map bo', .map bt'] 59)) := Snc.alloc hw2 _
  have l3 : Below W2.heap.size W2 (W2.alloc (.cells #[.map bo', .map bt'] 59)) := (Below.refl _ _).alloc (Nat.le_refl _) _
  have hfin : MapAt (W2.alloc (.cells #[.map bo', .map bt'] 59)) W2.heap.size bo' bt' S := by
    refine ⟨heap_alloc_new W2 _, (m1.below l2).below l3, m2.below l3, by rw [i1, i2]; exact hM.both, fun b h h' => ?_, fun h => hM.nos (i1.1 h)⟩
    have := f1 b h
    have := f2 b h'
    omega
  have hft : ∀ b ∈ foot W2.heap.size bo' bt', w.heap.size ≤ b := by
    intro b hb
    unfold foot at hb
    rcases List.mem_cons.1 hb with rfl | hb
    · omega
    · rcases List.mem_append.1 hb with hb | hb
      · cases bo' with
        | none => simp [mbl] at hb
        | some c => simp [mbl] at hb; have := f1 c rfl; omega
      · cases bt' with
        | none => simp [mbl] at hb
        | some c => simp [mbl] at hb; have := f2 c rfl; omega
  clear f1 f2 i1 i2 m1 m2 c1 c2
  go_wp2
  go_ret
  exact ⟨W2.heap.size, bo', bt', rfl, hfin, hW3, hft⟩
end Go.Proofs.Ytlcegnehlhakdaa
