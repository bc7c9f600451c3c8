/-
  What the document's own Handles answers for layer 8.
  Conditions: that the events lie in memory.
-/
import Derived.Test.YtfjgmggpkljphaaEvRef
import Derived.Test.YtfjgmggpkljphaaIntRow
namespace Go.Proofs.Ytfjgmggpkljphaa
open Go.RowKit
attribute [local go_sem] Later.cell Later.frozen Later.lt Later.le
set_option linter.unusedVariables false
set_option maxRecDepth 4000

/-- A world as it stands. -/
def Later.refl' {w : World} (y : Later w) : Later y.at' := ⟨y.at', Below.refl _ _⟩
/-- Later than what is later. -/
def Later.trans' {w : World} (y : Later w) (z : Later y.at') : Later w := ⟨z.at', Below.trans y.below (z.below.mono y.below.size)⟩
/-- The inner loop's relation: what is laid so far, and what is still to come, make the whole. -/
def HRel {w : World} (y : Later w) (s : List Int) (H : Int) (v c i : Value) (wr : World) : Prop :=
  ∃ (acc : List Int) (j : Nat) (laid : Bool), j ≤ s.length ∧ i = .int .i64 j ∧ c = .bool laid ∧ acc ++ insGo H (s.drop j) laid = ins H s ∧ acc.length ≤ j + (if laid then 1 else 0) ∧ ∃ z : Later y.at', wr = z.at' ∧ Ints z.at' y.at'.heap.size v acc
theorem hands_len (l : List Ev) : (hands l).length ≤ l.length := by
  have := rise_le (b := l.map hOf) (hands_rise l) fun x hx => by
    obtain ⟨e, he, rfl⟩ := hands_mem.1 hx
    exact List.mem_map.2 ⟨e, he, rfl⟩
  simpa using this
theorem hands_take (l : List Ev) (k : Nat) (hk : k < l.length) : hands (l.take (k + 1)) = ins (hOf (evAt l k)) (hands (l.take k)) := by
  rw [show l.take (k + 1) = l.take k ++ [evAt l k] from by rw [List.take_succ_eq_append_getElem hk]; simp [evAt, hk], hands_snoc]

set_option maxHeartbeats 4000000 in
theorem rHandles_any {b off cap : Nat} {l : List Ev} {w : World} (hE : EvsAt w b off l) (hl : l.length ≤ 1000000) : Calls Try.prog 43 #[.slice (some ⟨b, off, none⟩) l.length cap] w (IntsRet w (hands l)) := by
  obtain ⟨ti, hi, hz0, hz1, hz2⟩ := info_parts info_num
  have hb := hE.lt
  have HE := Lib.hid hE
  clear hE
  go_enter Try.func43, Try.ntmps43
  go_wp2
  go_loopw [3, 4] (fun v i wr => ∃ k : Nat, k ≤ l.length ∧ i = .int .i64 k ∧ ∃ y : Later w, wr = y.at' ∧ Ints y.at' w.heap.size v (hands (l.take k))) (fun _ i _ => l.length - (intOf i).toNat)
  case atStart => exact ⟨0, by omega, rfl, ⟨w, Below.refl _ _⟩, rfl, Ints.nil _ _⟩
  case round =>
    obtain ⟨k, hk, rfl, y, rfl, hown⟩ := hrel
    obtain ⟨p, c, rfl, hsh⟩ := hown.shape
    by_cases hkl : k < l.length
    · have k1 := HE.out.c1 k hkl
      have k3 := HE.out.c3 k hkl
      have k7 := HE.out.c7 k hkl
      have i0 : (0 : Int) ≤ k := by omega
      have i1 : (k : Int) < l.length := by omega
      have hsucc := Lib.hid (hands_take l k hkl)
      have hsl : (hands (l.take k)).length ≤ 1000000 := by have := hands_len (l.take k); rw [List.length_take] at this; omega
      generalize hs : hands (l.take k) = s at *
      unfold hOf at hsucc
      clear hs hown
      cases hbk : (evAt l k).bk
      · rw [hbk] at k1 hsucc
        simp only [Bool.false_eq_true, if_false] at hsucc
        generalize (evAt l k).h = H at *
        clear hbk k7
        go_wp2
        go_loopw [6, 7, 8] (fun v c i wr => HRel y s H v c i wr) (fun _ _ i _ => s.length - (intOf i).toNat)
        case atStart => exact ⟨[], 0, false, by omega, rfl, rfl, by simp [ins], by simp, y.refl', rfl, Ints.nil _ _⟩
        case round =>
          obtain ⟨acc, j, laid, hj, rfl, rfl, hacc, hlen, z, rfl, hown2⟩ := hrel
          by_cases hjs : j < s.length
          · obtain ⟨g, rfl, hg0, hg1, hcg⟩ := hsh j hjs
            have hjs' : (j : Int) < s.length := by omega
            have j0 : (0 : Int) ≤ j := by omega
            rw [List.drop_eq_getElem_cons hjs, insGo] at hacc
            have hgd : s.getD j 0 = s[j] := by simp [hjs]
            rw [hgd] at hcg
            generalize s[j] = e at hcg hacc
            clear hgd hsh
            have HACC := Lib.hid hacc
            clear hacc
            cases laid
            · by_cases c1 : H ≤ e
              · by_cases c2 : e = H
                · subst c2
                  go_wp2_with (at_builtin; refine wpList_append_own _ rfl _ _ 29 rfl y.at'.heap.size 3 ti (.int .i64 0) 1 8 Try.underlying29 hi hz0 hz1 hz2 rfl (by decide) _ _ _ rfl (hown2.alloc _) ⟨z.at'.heap.size, 0, none⟩ 1 1 [.int .i64 e] rfl rfl (cell_one_new _ _ _) (fun u hu => by simp at hu; subst hu; rfl) (by skip; unfold maxLen; simp at hlen; omega) (by skip; simp at hlen; omega) (by have := z.below.size; simp; omega) ?_; intro v' w4 hown' hgrow _; obtain ⟨y2, rfl, hO2⟩ := grown_late z hown2 hgrow hown'; clear hgrow hown')
                  go_roundw
                  case rel => exact ⟨acc ++ [e], j + 1, true, by omega, by go_num, rfl, by rw [← HACC.out]; simp, by simp; simp at hlen; omega, y2, rfl, hO2⟩
                  case measure => simp [intOf]; omega
                · have c3 : (e == H) = false := by simpa using c2
                  go_wp2_with (first | (at_builtin; refine wpList_append_own _ rfl _ _ 29 rfl y.at'.heap.size 3 ti (.int .i64 0) 1 8 Try.underlying29 hi hz0 hz1 hz2 rfl (by decide) _ _ _ rfl (hown2.alloc _) ⟨z.at'.heap.size, 0, none⟩ 1 1 [.int .i64 H] rfl rfl (cell_one_new _ _ _) (fun u hu => by simp at hu; subst hu; rfl) (by skip; unfold maxLen; simp at hlen; omega) (by skip; simp at hlen; omega) (by have := z.below.size; simp; omega) ?_; intro v' w4 hown' hgrow _; obtain ⟨y2, rfl, hO2⟩ := grown_late z hown2 hgrow hown'; clear hgrow hown') | (at_builtin; refine wpList_append_own _ rfl _ _ 29 rfl y.at'.heap.size 3 ti (.int .i64 0) 1 8 Try.underlying29 hi hz0 hz1 hz2 rfl (by decide) _ _ _ rfl (hO2.alloc _) ⟨y2.at'.heap.size, 0, none⟩ 1 1 [.int .i64 e] rfl rfl (cell_one_new _ _ _) (fun u hu => by simp at hu; subst hu; rfl) (by simp only [List.length_append, List.length_cons, List.length_nil]; unfold maxLen; simp at hlen; omega) (by simp only [List.length_append, List.length_cons, List.length_nil]; simp at hlen; omega) (by have := y2.below.size; simp; omega) ?_; intro v' w4 hown' hgrow _; obtain ⟨y3, rfl, hO3⟩ := grown_late y2 hO2 hgrow hown'; clear hgrow hown'))
                  go_roundw
                  case rel => exact ⟨acc ++ [H] ++ [e], j + 1, true, by omega, by go_num, rfl, by rw [← HACC.out]; simp [c1, c2], by simp; simp at hlen; omega, y3, rfl, hO3⟩
                  case measure => simp [intOf]; omega
              · have c2 : ¬ e = H := by omega
                have c3 : (e == H) = false := by simpa using c2
                go_wp2_with (at_builtin; refine wpList_append_own _ rfl _ _ 29 rfl y.at'.heap.size 3 ti (.int .i64 0) 1 8 Try.underlying29 hi hz0 hz1 hz2 rfl (by decide) _ _ _ rfl (hown2.alloc _) ⟨z.at'.heap.size, 0, none⟩ 1 1 [.int .i64 e] rfl rfl (cell_one_new _ _ _) (fun u hu => by simp at hu; subst hu; rfl) (by skip; unfold maxLen; simp at hlen; omega) (by skip; simp at hlen; omega) (by have := z.below.size; simp; omega) ?_; intro v' w4 hown' hgrow _; obtain ⟨y3, rfl, hO3⟩ := grown_late z hown2 hgrow hown'; clear hgrow hown')
                go_roundw
                case rel => exact ⟨acc ++ [e], j + 1, false, by omega, by go_num, rfl, by rw [← HACC.out]; simp [c1, c2], by simp; simp at hlen; omega, y3, rfl, hO3⟩
                case measure => simp [intOf]; omega
            · by_cases c2 : e = H
              · subst c2
                go_wp2
                go_roundw
                case rel => exact ⟨acc, j + 1, true, by omega, by go_num, rfl, by rw [← HACC.out]; simp, by simp at hlen ⊢; omega, z, rfl, hown2⟩
                case measure => simp [intOf]; omega
              · have c3 : (e == H) = false := by simpa using c2
                go_wp2_with (at_builtin; refine wpList_append_own _ rfl _ _ 29 rfl y.at'.heap.size 3 ti (.int .i64 0) 1 8 Try.underlying29 hi hz0 hz1 hz2 rfl (by decide) _ _ _ rfl (hown2.alloc _) ⟨z.at'.heap.size, 0, none⟩ 1 1 [.int .i64 e] rfl rfl (cell_one_new _ _ _) (fun u hu => by simp at hu; subst hu; rfl) (by skip; unfold maxLen; simp at hlen; omega) (by skip; simp at hlen; omega) (by have := z.below.size; simp; omega) ?_; intro v' w4 hown' hgrow _; obtain ⟨y3, rfl, hO3⟩ := grown_late z hown2 hgrow hown'; clear hgrow hown')
                go_roundw
                case rel => exact ⟨acc ++ [e], j + 1, true, by omega, by go_num, rfl, by rw [← HACC.out]; simp [c2], by simp; simp at hlen; omega, y3, rfl, hO3⟩
                case measure => simp [intOf]; omega
          · have ej : j = s.length := by omega
            subst ej
            have hjs' : ¬ (s.length : Int) < s.length := by omega
            rw [List.drop_length] at hacc
            cases laid
            · have hacc' : acc ++ [H] = ins H s := by rw [← hacc]; rfl
              go_wp2_with (at_builtin; refine wpList_append_own _ rfl _ _ 29 rfl y.at'.heap.size 3 ti (.int .i64 0) 1 8 Try.underlying29 hi hz0 hz1 hz2 rfl (by decide) _ _ _ rfl (hown2.alloc _) ⟨z.at'.heap.size, 0, none⟩ 1 1 [.int .i64 H] rfl rfl (cell_one_new _ _ _) (fun u hu => by simp at hu; subst hu; rfl) (by skip; unfold maxLen; simp at hlen; omega) (by skip; simp at hlen; omega) (by have := z.below.size; simp; omega) ?_; intro v' w4 hown' hgrow _; obtain ⟨y2, rfl, hO2⟩ := grown_late z hown2 hgrow hown'; clear hgrow hown')
              go_roundw
              case rel => exact ⟨k + 1, by omega, by go_num, y.trans' y2, rfl, by rw [hsucc.out, ← hacc']; exact hO2.mono y.below.size⟩
              case measure => simp [intOf]; omega
            · have hacc' : acc = ins H s := by rw [← hacc]; simp [insGo]
              go_wp2
              go_roundw
              case rel => exact ⟨k + 1, by omega, by go_num, y.trans' z, rfl, by rw [hsucc.out, ← hacc']; exact hown2.mono y.below.size⟩
              case measure => simp [intOf]; omega
      · rw [hbk] at k1 hsucc
        simp only [if_true] at hsucc
        generalize (evAt l k).r = H at *
        clear hbk
        go_wp2
        go_loopw [6, 7, 8] (fun v c i wr => HRel y s H v c i wr) (fun _ _ i _ => s.length - (intOf i).toNat)
        case atStart => exact ⟨[], 0, false, by omega, rfl, rfl, by simp [ins], by simp, y.refl', rfl, Ints.nil _ _⟩
        case round =>
          obtain ⟨acc, j, laid, hj, rfl, rfl, hacc, hlen, z, rfl, hown2⟩ := hrel
          by_cases hjs : j < s.length
          · obtain ⟨g, rfl, hg0, hg1, hcg⟩ := hsh j hjs
            have hjs' : (j : Int) < s.length := by omega
            have j0 : (0 : Int) ≤ j := by omega
            rw [List.drop_eq_getElem_cons hjs, insGo] at hacc
            have hgd : s.getD j 0 = s[j] := by simp [hjs]
            rw [hgd] at hcg
            generalize s[j] = e at hcg hacc
            clear hgd hsh
            have HACC := Lib.hid hacc
            clear hacc
            cases laid
            · by_cases c1 : H ≤ e
              · by_cases c2 : e = H
                · subst c2
                  go_wp2_with (at_builtin; refine wpList_append_own _ rfl _ _ 29 rfl y.at'.heap.size 3 ti (.int .i64 0) 1 8 Try.underlying29 hi hz0 hz1 hz2 rfl (by decide) _ _ _ rfl (hown2.alloc _) ⟨z.at'.heap.size, 0, none⟩ 1 1 [.int .i64 e] rfl rfl (cell_one_new _ _ _) (fun u hu => by simp at hu; subst hu; rfl) (by skip; unfold maxLen; simp at hlen; omega) (by skip; simp at hlen; omega) (by have := z.below.size; simp; omega) ?_; intro v' w4 hown' hgrow _; obtain ⟨y2, rfl, hO2⟩ := grown_late z hown2 hgrow hown'; clear hgrow hown')
                  go_roundw
                  case rel => exact ⟨acc ++ [e], j + 1, true, by omega, by go_num, rfl, by rw [← HACC.out]; simp, by simp; simp at hlen; omega, y2, rfl, hO2⟩
                  case measure => simp [intOf]; omega
                · have c3 : (e == H) = false := by simpa using c2
                  go_wp2_with (first | (at_builtin; refine wpList_append_own _ rfl _ _ 29 rfl y.at'.heap.size 3 ti (.int .i64 0) 1 8 Try.underlying29 hi hz0 hz1 hz2 rfl (by decide) _ _ _ rfl (hown2.alloc _) ⟨z.at'.heap.size, 0, none⟩ 1 1 [.int .i64 H] rfl rfl (cell_one_new _ _ _) (fun u hu => by simp at hu; subst hu; rfl) (by skip; unfold maxLen; simp at hlen; omega) (by skip; simp at hlen; omega) (by have := z.below.size; simp; omega) ?_; intro v' w4 hown' hgrow _; obtain ⟨y2, rfl, hO2⟩ := grown_late z hown2 hgrow hown'; clear hgrow hown') | (at_builtin; refine wpList_append_own _ rfl _ _ 29 rfl y.at'.heap.size 3 ti (.int .i64 0) 1 8 Try.underlying29 hi hz0 hz1 hz2 rfl (by decide) _ _ _ rfl (hO2.alloc _) ⟨y2.at'.heap.size, 0, none⟩ 1 1 [.int .i64 e] rfl rfl (cell_one_new _ _ _) (fun u hu => by simp at hu; subst hu; rfl) (by simp only [List.length_append, List.length_cons, List.length_nil]; unfold maxLen; simp at hlen; omega) (by simp only [List.length_append, List.length_cons, List.length_nil]; simp at hlen; omega) (by have := y2.below.size; simp; omega) ?_; intro v' w4 hown' hgrow _; obtain ⟨y3, rfl, hO3⟩ := grown_late y2 hO2 hgrow hown'; clear hgrow hown'))
                  go_roundw
                  case rel => exact ⟨acc ++ [H] ++ [e], j + 1, true, by omega, by go_num, rfl, by rw [← HACC.out]; simp [c1, c2], by simp; simp at hlen; omega, y3, rfl, hO3⟩
                  case measure => simp [intOf]; omega
              · have c2 : ¬ e = H := by omega
                have c3 : (e == H) = false := by simpa using c2
                go_wp2_with (at_builtin; refine wpList_append_own _ rfl _ _ 29 rfl y.at'.heap.size 3 ti (.int .i64 0) 1 8 Try.underlying29 hi hz0 hz1 hz2 rfl (by decide) _ _ _ rfl (hown2.alloc _) ⟨z.at'.heap.size, 0, none⟩ 1 1 [.int .i64 e] rfl rfl (cell_one_new _ _ _) (fun u hu => by simp at hu; subst hu; rfl) (by skip; unfold maxLen; simp at hlen; omega) (by skip; simp at hlen; omega) (by have := z.below.size; simp; omega) ?_; intro v' w4 hown' hgrow _; obtain ⟨y3, rfl, hO3⟩ := grown_late z hown2 hgrow hown'; clear hgrow hown')
                go_roundw
                case rel => exact ⟨acc ++ [e], j + 1, false, by omega, by go_num, rfl, by rw [← HACC.out]; simp [c1, c2], by simp; simp at hlen; omega, y3, rfl, hO3⟩
                case measure => simp [intOf]; omega
            · by_cases c2 : e = H
              · subst c2
                go_wp2
                go_roundw
                case rel => exact ⟨acc, j + 1, true, by omega, by go_num, rfl, by rw [← HACC.out]; simp, by simp at hlen ⊢; omega, z, rfl, hown2⟩
                case measure => simp [intOf]; omega
              · have c3 : (e == H) = false := by simpa using c2
                go_wp2_with (at_builtin; refine wpList_append_own _ rfl _ _ 29 rfl y.at'.heap.size 3 ti (.int .i64 0) 1 8 Try.underlying29 hi hz0 hz1 hz2 rfl (by decide) _ _ _ rfl (hown2.alloc _) ⟨z.at'.heap.size, 0, none⟩ 1 1 [.int .i64 e] rfl rfl (cell_one_new _ _ _) (fun u hu => by simp at hu; subst hu; rfl) (by skip; unfold maxLen; simp at hlen; omega) (by skip; simp at hlen; omega) (by have := z.below.size; simp; omega) ?_; intro v' w4 hown' hgrow _; obtain ⟨y3, rfl, hO3⟩ := grown_late z hown2 hgrow hown'; clear hgrow hown')
                go_roundw
                case rel => exact ⟨acc ++ [e], j + 1, true, by omega, by go_num, rfl, by rw [← HACC.out]; simp [c2], by simp; simp at hlen; omega, y3, rfl, hO3⟩
                case measure => simp [intOf]; omega
          · have ej : j = s.length := by omega
            subst ej
            have hjs' : ¬ (s.length : Int) < s.length := by omega
            rw [List.drop_length] at hacc
            cases laid
            · have hacc' : acc ++ [H] = ins H s := by rw [← hacc]; rfl
              go_wp2_with (at_builtin; refine wpList_append_own _ rfl _ _ 29 rfl y.at'.heap.size 3 ti (.int .i64 0) 1 8 Try.underlying29 hi hz0 hz1 hz2 rfl (by decide) _ _ _ rfl (hown2.alloc _) ⟨z.at'.heap.size, 0, none⟩ 1 1 [.int .i64 H] rfl rfl (cell_one_new _ _ _) (fun u hu => by simp at hu; subst hu; rfl) (by skip; unfold maxLen; simp at hlen; omega) (by skip; simp at hlen; omega) (by have := z.below.size; simp; omega) ?_; intro v' w4 hown' hgrow _; obtain ⟨y2, rfl, hO2⟩ := grown_late z hown2 hgrow hown'; clear hgrow hown')
              go_roundw
              case rel => exact ⟨k + 1, by omega, by go_num, y.trans' y2, rfl, by rw [hsucc.out, ← hacc']; exact hO2.mono y.below.size⟩
              case measure => simp [intOf]; omega
            · have hacc' : acc = ins H s := by rw [← hacc]; simp [insGo]
              go_wp2
              go_roundw
              case rel => exact ⟨k + 1, by omega, by go_num, y.trans' z, rfl, by rw [hsucc.out, ← hacc']; exact hown2.mono y.below.size⟩
              case measure => simp [intOf]; omega
    · have ek : k = l.length := by omega
      subst ek
      have i1 : ¬ (l.length : Int) < l.length := by omega
      rw [List.take_length] at hown hsh
      go_wp2
      go_ret
      exact ⟨_, rfl, y, rfl, by first | exact hown | (rw [List.take_length]; exact hown)⟩
end Go.Proofs.Ytfjgmggpkljphaa
