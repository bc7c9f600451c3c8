/-
  What the program's own Live comes to for layer 7.
  Conditions: that the map stands in memory and is a good one; at most 1000 objects.
-/
import Derived.Test.YtlcegnehlhakdaaMdSame
import Derived.Shelf.SlIterI.Nil
import Derived.Shelf.SlIterI.Sorted
import Derived.Shelf.SortM.Plain
import Derived.Shelf.SortM.SortNone
import Derived.Ground.GgzProg
import Derived.Ground.SlgmProg
namespace Go.Proofs
open Go.RowKit Go.Maps Go.Sort Go.Shelf
shelf_lay_g SlLaysZI.n7 Ggz 7 at Try 40 as Try.mdKeys
shelf_lay_g SlLaysZI.n6 Ggz 6 at Try 39 as Try.mdSorted
shelf_lay_g SlLaysM.n5 Slgm 5 at Try 50 as Try.mdSort
theorem Try.mdSorts (m : Nat) : AnyZI.SortsIn Try.prog Try.mdSorted_ren Fence.wide m :=
  ⟨fun blk off cap ss W hH hblk hsz => callsIn_wide.2 (AnyM.slices_Sort_int Try.mdSort blk off cap ss W hH hblk hsz),
   fun p cap W => callsIn_wide.2 (AnyM.slices_Sort_int_none Try.mdSort p cap W)⟩
end Go.Proofs
namespace Go.Proofs.Ytlcegnehlhakdaa
open Go.RowKit Go.Maps Go.Shelf Go.Sort Go
attribute [local go_sem] Later.cell Later.frozen Later.lt Later.le
set_option linter.unusedVariables false
set_option linter.unusedSimpArgs false
set_option maxRecDepth 4000

def liveL (S : St) : List Int := S.L.map (·.h)
theorem intKeys_obj (L : List Ob) : intKeys (objD L) = L.map (·.h) := by
  unfold objD objE
  induction L with
  | nil => rfl
  | cons x r ih =>
    simp [intKeys] at ih ⊢
    exact ⟨rfl, ih⟩
theorem Live_nil (w : World) : Calls Try.prog 19 #[.pointer none] w (fun en w' => en = .returned (.slice none 0 0) ∧ w' = w) := by
  go_enter Try.func19, Try.ntmps19
  go_wp2
  go_ret
  exact ⟨rfl, rfl⟩
theorem sorted_rise {l k : List Int} (hp : k.Perm l) (hl : l.Pairwise (· < ·)) : k.mergeSort (fun x y => decide (x ≤ y)) = l := by
  have h1 : (k.mergeSort (fun x y => decide (x ≤ y))).Perm l := (List.mergeSort_perm k _).trans hp
  have h2 : (k.mergeSort (fun x y => decide (x ≤ y))).Pairwise (fun x y => decide (x ≤ y) = true) := List.pairwise_mergeSort (fun a b c h1 h2 => by simp at *; omega) (fun a b => by simp; omega) k
  refine h1.eq_of_pairwise (le := fun x y => decide (x ≤ y) = true) (fun a b _ _ h1 h2 => by simp at h1 h2; omega) h2 (hl.imp fun h => by simp; omega)

set_option maxHeartbeats 1000000 in
theorem Live_any {w : World} {g : Nat} {bo bt : Option Nat} {S : St} (hM : MapAt w g bo bt S) (hG : Good S) (hN : S.L.length ≤ 1000) :
    Calls Try.prog 19 #[.pointer (some ⟨g, 0, none⟩)] w (IntsRet w (liveL S)) := by
  have hg := hM.lt
  have c0 := hM.cell0
  have cK : ∀ mb W, CallsIn Fence.wide 5 Try.prog 40 #[.map mb] W fun e w' => e = .returned (.func (.func 51) #[] #[.pointer (some ⟨W.heap.size, 0, none⟩)]) ∧ w' = W.alloc (.cells #[.map mb] 56) := fun mb W => AnyZI.keys_in Try.mdKeys Fence.wide 5 trivial rfl mb W
  have hfK : Fence.wide.fn 40 := trivial
  have hfS : Fence.wide.fn 39 := trivial
  rcases hM.objs with ⟨rfl, _⟩ | ⟨b, rfl, hown⟩
  · have e := hM.nos rfl
    subst e
    refine (callsIn_wide (n := 6)).1 ?_
    have hseq : SeqGives Fence.wide 2 Try.prog 51 #[.pointer (some ⟨w.heap.size, 0, none⟩)] encZ (fun ss : List Int => ss = []) 0 (w.alloc (.cells #[.map none] 56)) :=
      AnyZI.keys_gives_nil (ρ := Try.mdKeys_ren) { Try.mdKeys with } Fence.wide _ trivial rfl w.heap.size _ (by simp) (by simp)
    have cS := AnyZI.sorted_in Try.mdSorted Fence.wide 5 trivial trivial trivial trivial rfl (by omega) (Try.mdSorts _) (enters_of Try.func50 (by kernel_rfl) rfl) 51 #[.pointer (some ⟨w.heap.size, 0, none⟩)] trivial (enters_of Try.func51 (by kernel_rfl) rfl) _ 0 (Nat.zero_le _) (by omega) _ hseq
    change CallsIn _ _ Try.prog 39 _ _ _ at cS
    refine callsIn_of_wp Try.func19 rfl trivial ?_ rfl
    simp only [Try.ntmps19, List.size_toArray, List.length_cons, List.length_nil, Nat.reduceAdd, Nat.reduceSub, Array.replicate_succ, Array.replicate_zero, List.push_toArray, List.append_toArray, List.nil_append, List.cons_append]
    gi_wp2_with (first
      | (gi_at_call 40; refine (cK _ _).mono ?_; rintro e w' ⟨rfl, rfl⟩)
      | (gi_at_call 39; refine cS.mono ?_; rintro e w' ⟨v, ss, rfl, rfl, hrow, hnil, hb⟩; obtain rfl : v = .slice none 0 0 := hnil.2 rfl))
    go_ret
    exact ⟨_, rfl, ⟨w', ((Below.refl _ w).alloc (Nat.le_refl _) _).trans (hb.mono (by simp))⟩, rfl, Ints.nil _ _⟩
  · refine (callsIn_wide (n := 6)).1 ?_
    have hbl := hown.lt
    have hsz : Maps.size (objD S.L) = S.L.length := size_objD _
    have hseq : SeqGives Fence.wide 2 Try.prog 51 #[.pointer (some ⟨w.heap.size, 0, none⟩)] encZ (fun ss => ss.Perm (intKeys (objD S.L))) (Maps.size (objD S.L)) (w.alloc (.cells #[.map (some b)] 56)) :=
      AnyZI.keys_gives (ρ := Try.mdKeys_ren) { Try.mdKeys with } Fence.wide _ trivial rfl (by omega) w.heap.size b S.L.length (objD S.L) _ (by simp) (by simp) (hown.alloc _)
    have cS := AnyZI.sorted_in Try.mdSorted Fence.wide 5 trivial trivial trivial trivial rfl (by omega) (Try.mdSorts _) (enters_of Try.func50 (by kernel_rfl) rfl) 51 #[.pointer (some ⟨w.heap.size, 0, none⟩)] trivial (enters_of Try.func51 (by kernel_rfl) rfl) _ _ (by rw [hsz]; unfold maxLen; omega) (by rw [hsz]; omega) _ hseq
    change CallsIn _ _ Try.prog 39 _ _ _ at cS
    refine callsIn_of_wp Try.func19 rfl trivial ?_ rfl
    simp only [Try.ntmps19, List.size_toArray, List.length_cons, List.length_nil, Nat.reduceAdd, Nat.reduceSub, Array.replicate_succ, Array.replicate_zero, List.push_toArray, List.append_toArray, List.nil_append, List.cons_append]
    gi_wp2_with (first
      | (gi_at_call 40; refine (cK _ _).mono ?_; rintro e w' ⟨rfl, rfl⟩)
      | (gi_at_call 39; refine cS.mono ?_; rintro e w' ⟨v, ss, rfl, hS, hrow, hnil, hb⟩))
    go_ret
    refine ⟨v, rfl, ⟨w', ((Below.refl _ w).alloc (Nat.le_refl _) _).trans (hb.mono (by simp))⟩, rfl, ?_⟩
    rw [intKeys_obj] at hS
    have hup : (S.L.map (·.h)).Pairwise (· < ·) := List.pairwise_map.2 hG.up
    rw [sorted_rise hS hup] at hrow
    have hrow := ownsRow_base_a hrow (show w.heap.size ≤ _ by simp)
    unfold Ints liveL
    have hl : ss.length = (S.L.map (·.h)).length := hS.length_eq
    rw [hl] at hrow
    exact hrow
end Go.Proofs.Ytlcegnehlhakdaa
