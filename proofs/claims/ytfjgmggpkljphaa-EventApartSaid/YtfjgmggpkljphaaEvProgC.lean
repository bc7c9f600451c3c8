/-
  What the program's own Handles answers for layer 8; with that, all that its statements take of the program.
  Conditions: that the events lie in memory.
-/
import Derived.Test.YtfjgmggpkljphaaEvSort
import Derived.Test.YtfjgmggpkljphaaEvProgB
import Derived.Test.YtfjgmggpkljphaaShelf
namespace Go.Proofs.Ytfjgmggpkljphaa
open Go.RowKit
attribute [local go_sem] Later.cell Later.frozen Later.lt Later.le
set_option linter.unusedVariables false
set_option maxRecDepth 4000

theorem Ints.put {w w4 : World} {base : Nat} {l : List Int} {p : Int} {v v' : Value} {o : Obj} {V : World} (hS : Since' V w) (hV : V.heap.size ≤ base) (hown : Ints w base v l) (hg : (w.alloc o).grownBy w4 v.ownBlock)
    (hO : w4.ownsRow base 3 1 v' (l.length + 1) (l.map (Value.int .i64) ++ [Value.int .i64 p])) : Since' V w4 ∧ Ints w4 base v' (l ++ [p]) :=
  ⟨Below.grown (Since'.alloc hS o) hg (Below.size (Since'.alloc hS o)) fun k hk => by have := (World.ownsRow.lt hown k hk).1; omega, Ints.more hO rfl⟩
/-- A row of numbers in a block of the call's own, as sorting takes it. -/
structure RowI (w W : World) (g cp n : Nat) (ts : List Int) : Prop where
  since : Since' w W
  lo : w.heap.size ≤ g
  row : ∃ cur, W.heap[g]? = some (.cells cur 3 (0, 0)) ∧ cur.size = cp ∧ cur.toList.take n = ts.map (Value.int .i64) ∧ ts.length = n ∧ n ≤ cp ∧ cp ≤ maxLen
theorem sort_any {w W : World} {g cp n : Nat} {ts : List Int} (h : RowI w W g cp n ts) (hn : n ≤ 1000000) :
    Calls Try.prog 67 #[.slice (some ⟨g, 0, none⟩) n cp] W fun e W' => e = .returned (.tuple #[]) ∧ RowI w W' g cp n (ts.mergeSort fun x y => decide (x ≤ y)) := by
  obtain ⟨hS, hlo, cur, hb, hcs, htk, rfl, hnc, hcm⟩ := h
  have hml : (ts.mergeSort fun x y => decide (x ≤ y)).length = ts.length := by simp
  refine (Try.slices_Sort_int g 0 cp ts W (holds_of_blockI hb htk) (Array.getElem?_eq_some_iff.1 hb).1 (by omega)).mono ?_
  rintro _ _ ⟨rfl, n1, os, rfl⟩
  generalize (ts.mergeSort fun x y => decide (x ≤ y)) = us at hml
  refine ⟨rfl, ?_, hlo, _, heap_sortedI us.toArray hb, by simp [Sort.putCells, hcs], ?_, hml, hnc, hcm⟩
  · exact Below.grown hS (grownBy_sortedI us.toArray) (Below.size hS) fun k hk => by cases hk; exact hlo
  · rw [← hml]; exact take_putCellsI cur us (by omega)
theorem compact_any {w W : World} {g cp n : Nat} {ts : List Int} (h : RowI w W g cp n ts) (hn : n ≤ 1000000) :
    Calls Try.prog 68 #[.slice (some ⟨g, 0, none⟩) n cp] W fun e W' => e = .returned (.slice (some ⟨g, 0, none⟩) (Lib.compact ts).length cp) ∧ Since' w W' ∧ Ints W' w.heap.size (.slice (some ⟨g, 0, none⟩) (Lib.compact ts).length cp) (Lib.compact ts) := by
  obtain ⟨hS, hlo, cur, hb, hcs, htk, rfl, hnc, hcm⟩ := h
  have hle : (Lib.compact ts).length ≤ ts.length := by
    unfold Lib.compact Lib.compactUpTo
    rw [List.length_map]
    exact Nat.le_trans (List.length_filter_le _ _) (by simp)
  refine (Try.slices_Compact_int g 0 cp ts W (holds_of_blockI hb htk) (by omega) hnc).mono ?_
  rintro _ _ ⟨rfl, q, rfl⟩
  exact ⟨rfl, below_put hlo hS _, ownsRow_cut (by simp; omega) hlo hb hnc hcm (by omega)⟩
/-- The loop's relation. -/
def HpRel (w : World) (l : List Ev) (v i : Value) (wr : World) : Prop :=
  ∃ k : Nat, k ≤ l.length ∧ i = .int .i64 k ∧ Since' w wr ∧ Ints wr w.heap.size v ((l.take k).map hOf)

set_option maxHeartbeats 2000000 in
theorem Handles_any {b off cap : Nat} {l : List Ev} {w : World} (hE : EvsAt w b off l) (hl : l.length ≤ 1000000) (h0 : l ≠ []) : Calls Try.prog 42 #[.slice (some ⟨b, off, none⟩) l.length cap] w (IntsRet w (hands l)) := by
  have hb := hE.lt
  obtain ⟨ti, hi, hz0, hz1, hz2⟩ := info_parts info_num
  have HE := Lib.hid hE
  clear hE
  go_enter Try.func42, Try.ntmps42
  go_wp2
  go_loopw [3, 5, 8] (fun v _ i wr => HpRel w l v i wr) (fun _ _ i _ => l.length - (intOf i).toNat)
  case atStart => exact ⟨0, by omega, rfl, Below.refl _ _, Ints.nil _ _⟩
  case round =>
    obtain ⟨k, hk, rfl, hS, hown⟩ := hrel
    by_cases hkl : k < l.length
    · have hE := HE.out.below hS
      have k0 := hE.c0 k hkl
      have k1 := hE.c1 k hkl
      have k2 := hE.c2 k hkl
      have k3 := hE.c3 k hkl
      have k4 := hE.c4 k hkl
      have k5 := hE.c5 k hkl
      have k6 := hE.c6 k hkl
      have k7 := hE.c7 k hkl
      have i0 : (0 : Int) ≤ k := by omega
      have i1 : (k : Int) < l.length := by omega
      have htk : (l.take (k + 1)).map hOf = (l.take k).map hOf ++ [hOf (evAt l k)] := by
        rw [List.take_add_one, List.map_append]
        simp [evAt, hkl]
      have hln : ((l.take k).map hOf).length = k := by simp; omega
      have hhv : hOf (evAt l k) = if (evAt l k).bk then (evAt l k).r else (evAt l k).h := rfl
      have hsz := Below.size hS
      clear hE
      generalize evAt l k = e at k0 k1 k2 k3 k4 k5 k6 k7 htk hhv
      obtain ⟨th, bk, d, h, o, n, c, r⟩ := e
      cases bk
      · simp only [Bool.false_eq_true, if_false] at hhv
        rw [hhv] at htk
        have HTK := Lib.hid htk
        clear hhv htk
        go_wp2_with (at_builtin; refine unhid ?_)
        refine Lib.hid ?_
        refine wpList_append_own _ rfl (.tmp 20) (.tmp 24) 29 rfl w.heap.size 3 ti (.int .i64 0) 1 8 Try.underlying29 hi hz0 hz1 hz2 rfl (by decide) _ _ _ rfl ((hown.alloc _).alloc _) ⟨wr.heap.size + 1, 0, none⟩ 1 1 [.int .i64 h] rfl rfl (cells_at [.int .i64 h] (by simp)) (fun u hu => by simp at hu; subst hu; rfl) (by unfold maxLen; omega) (by omega) (by simp; omega) ?_
        intro v' w4 hown' hgrow _
        obtain ⟨hS2, hO2⟩ := Ints.put (Since'.alloc hS _) (Nat.le_refl _) (hown.alloc _) hgrow hown'
        clear hgrow hown'
        go_wp2
        go_roundw
        case rel => exact ⟨k + 1, by omega, by go_num, hS2, by rw [HTK.out]; exact hO2⟩
        case measure => simp [intOf]; omega
      · simp only [if_true] at hhv
        rw [hhv] at htk
        have HTK := Lib.hid htk
        clear hhv htk
        go_wp2_with (at_builtin; refine unhid ?_)
        refine Lib.hid ?_
        refine wpList_append_own _ rfl (.tmp 14) (.tmp 18) 29 rfl w.heap.size 3 ti (.int .i64 0) 1 8 Try.underlying29 hi hz0 hz1 hz2 rfl (by decide) _ _ _ rfl ((hown.alloc _).alloc _) ⟨wr.heap.size + 1, 0, none⟩ 1 1 [.int .i64 r] rfl rfl (cells_at [.int .i64 r] (by simp)) (fun u hu => by simp at hu; subst hu; rfl) (by unfold maxLen; omega) (by omega) (by simp; omega) ?_
        intro v' w4 hown' hgrow _
        obtain ⟨hS2, hO2⟩ := Ints.put (Since'.alloc hS _) (Nat.le_refl _) (hown.alloc _) hgrow hown'
        clear hgrow hown'
        go_wp2
        go_roundw
        case rel => exact ⟨k + 1, by omega, by go_num, hS2, by rw [HTK.out]; exact hO2⟩
        case measure => simp [intOf]; omega
    · have ek : k = l.length := by omega
      subst ek
      have i1 : ¬ (l.length : Int) < l.length := by omega
      rw [List.take_length] at hown
      have hpos : 0 < l.length := List.length_pos_iff.2 h0
      obtain ⟨hown1, h0' | ⟨g, cp, cur, rfl, hg, hgb, hgc, hcm, hcs, htake⟩⟩ := id hown
      · rw [List.length_map] at h0'; omega
      · have hR : RowI w wr g cp l.length (l.map hOf) := ⟨hS, hg, cur, hgb, by simpa using hcs, by simpa using htake, by simp, by simpa using hgc, hcm⟩
        have hln : (l.map hOf).length = l.length := by simp
        rw [hln] at hown ⊢
        have hs := sort_any hR (by omega)
        have hc := fun (W : World) (h : RowI w W g cp l.length ((l.map hOf).mergeSort fun x y => decide (x ≤ y))) => compact_any h (by omega)
        rw [hands_sorted] at hc
        generalize ((l.map hOf).mergeSort fun x y => decide (x ≤ y)) = ts at hs hc
        clear hR hown hgb hcs htake hown1
        go_wp2_with (first
          | (go_at_call 67; (with_reducible refine hs.mono ?_); rintro _ W2 ⟨rfl, hR2⟩)
          | (go_at_call 68; (with_reducible refine (hc _ hR2).mono ?_); rintro _ W3 ⟨rfl, hS3, hO3⟩))
        go_ret
        exact ⟨_, rfl, ⟨_, hS3⟩, rfl, hO3⟩
theorem Handles_nil (p : Option Addr) (c : Nat) (w : World) : Calls Try.prog 42 #[.slice p 0 c] w (IntsRet w []) := by
  have hs := fun W => Try.slices_Sort_int_none Option.none 0 W
  have hc := fun W => Try.slices_Compact_int_empty Option.none 0 W
  go_enter Try.func42, Try.ntmps42
  go_wp2
  refine wp_loop_rounds 1 ?_
  rw [rounds_succ]
  go_wp2_with (first
    | (go_at_call 67; (with_reducible refine (hs _).mono ?_); rintro _ _ ⟨rfl, rfl⟩)
    | (go_at_call 68; (with_reducible refine (hc _).mono ?_); rintro _ _ ⟨rfl, rfl⟩))
  go_ret
  exact ⟨_, rfl, ⟨_, Below.refl _ _⟩, rfl, Ints.nil _ _⟩
theorem Handles_p {p : Option Addr} {cap : Nat} {l : List Ev} {w : World} (hE : EvsP w p l) (hl : l.length ≤ 1000000) : Calls Try.prog 42 #[.slice p l.length cap] w (IntsRet w (hands l)) := by
  by_cases h : l = []
  · subst h
    exact Handles_nil p cap w
  · obtain ⟨b, off, rfl, hE2⟩ := hE h
    exact Handles_any hE2 hl h
/-- The landed program answers as the document says. -/
theorem has8 : Has8 where
  check := fun p cap l w hE hl => Check_p hE hl
  calls := fun p cap l w hE hl => Calls_p hE hl
  handles := fun p cap l w hE hl => Handles_p hE hl
  before := fun a b w => Before_any a b w
end Go.Proofs.Ytfjgmggpkljphaa
