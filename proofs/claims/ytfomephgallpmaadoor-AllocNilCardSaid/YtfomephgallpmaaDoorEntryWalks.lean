/-
  What each call of package entry answers, at every input, where the table of fields reads as its text lays it.
  Conditions: that the package's table of fields reads as it is laid.
-/
import Derived.Test.YtfomephgallpmaaDoorFieldCore
import Derived.Test.YtfomephgallpmaaDoorEntryMath
import Derived.LoopTactic
namespace Go.Proofs.YtfomephgallpmaaDoor
open Go.RowKit
attribute [local go_sem] Later.cell Later.frozen Later.lt Later.le
attribute [local go_sem ↓] Go.wp_at_zero Go.wp_at_succ

theorem within_any (x m : Int) (w : World) : Calls Tryd.prog 90 #[.int .i64 x, .int .i64 m] w fun e w' => e = .returned (.bool (decide (0 ≤ x ∧ x ≤ m))) ∧ w = w' := by
  by_cases h0 : 0 ≤ x
  · by_cases h1 : x ≤ m
    · go_enter Tryd.func90, Tryd.ntmps90
      go_wp2
      go_ret
      exact ⟨by simp [h0, h1], rfl⟩
    · go_enter Tryd.func90, Tryd.ntmps90
      go_wp2
      go_ret
      exact ⟨by simp; omega, rfl⟩
  · go_enter Tryd.func90, Tryd.ntmps90
    go_wp2
    go_ret
    exact ⟨by simp; omega, rfl⟩

theorem bit_any (b : Bool) (w : World) : Calls Tryd.prog 91 #[.bool b] w fun e w' => e = .returned (.int .i64 (bitI b)) ∧ w = w' := by
  cases b
  · go_enter Tryd.func91, Tryd.ntmps91
    go_wp2
    go_ret
    exact ⟨rfl, rfl⟩
  · go_enter Tryd.func91, Tryd.ntmps91
    go_wp2
    go_ret
    exact ⟨rfl, rfl⟩

theorem numbers_any (o g p q : Int) (lk lv : Bool) (w : World) : Calls Tryd.prog 78 #[.agg #[.int .i64 o, .int .i64 g, .int .i64 p, .int .i64 q, .bool lk, .bool lv]] w
    (Ret w (.agg #[.int .i64 o, .int .i64 g, .int .i64 p, .int .i64 q, .int .i64 (bitI lk), .int .i64 (bitI lv)])) := by
  go_enter Tryd.func78, Tryd.ntmps78
  go_wp2
  go_region_held3 (fun w' => w'.cell? ⟨w.heap.size, 0, none⟩ = some (.int .i64 o) ∧ w'.cell? ⟨w.heap.size, 1, none⟩ = some (.int .i64 g) ∧ w'.cell? ⟨w.heap.size, 2, none⟩ = some (.int .i64 p) ∧ w'.cell? ⟨w.heap.size, 3, none⟩ = some (.int .i64 q) ∧ w'.cell? ⟨w.heap.size, 4, none⟩ = some (.bool lk) ∧ w'.cell? ⟨w.heap.size, 5, none⟩ = some (.bool lv)) (go_keep)
    (first | (go_at_call 91; refine (bit_any _ _).mono ?_; rintro e w1 ⟨rfl, rfl⟩))
  all_goals
    go_wp2
    refine bodyPost_ret (v := .agg #[.int .i64 o, .int .i64 g, .int .i64 p, .int .i64 q, .int .i64 (bitI lk), .int .i64 (bitI lv)]) (by simp [results, Tryd.results78, go_sem]) rfl (Ret.mk rfl ?_)
    exact (((Below.refl _ _).alloc (Nat.le_refl _) _).alloc (by simp) _).drew

theorem maybe_gen (o g p q : Int) (lk lv : Bool) (w : World) (h : ¬ (0 ≤ g ∧ g ≤ 1000)) : Calls Tryd.prog 77 #[.agg #[.int .i64 o, .int .i64 g, .int .i64 p, .int .i64 q, .bool lk, .bool lv]] w (Ret w (.bool (En.may ⟨o, g, p, q, lk, lv⟩))) := by
  have h1 : decide (0 ≤ g ∧ g ≤ 1000) = false := by simpa using h
  go_enter Tryd.func77, Tryd.ntmps77
  go_wp2_with (go_at_call 90; refine (within_any _ _ _).mono ?_; rintro _ _ ⟨rfl, rfl⟩)
  go_ret
  exact Ret.mk (bool_eq (may_false (fun k => h ⟨k.1, k.2.1⟩)).symm) ((Below.refl _ _).alloc (Nat.le_refl _) _)

theorem maybe_dead (o g p q : Int) (lk : Bool) (w : World) (h : 0 ≤ g ∧ g ≤ 1000) : Calls Tryd.prog 77 #[.agg #[.int .i64 o, .int .i64 g, .int .i64 p, .int .i64 q, .bool lk, .bool false]] w (Ret w (.bool (En.may ⟨o, g, p, q, lk, false⟩))) := by
  have h1 : decide (0 ≤ g ∧ g ≤ 1000) = true := by simpa using h
  by_cases ho : o = 0
  · subst ho
    by_cases hp : p = 0
    · subst hp
      by_cases hq : q = 0
      · subst hq
        cases lk
        · go_enter Tryd.func77, Tryd.ntmps77
          go_wp2_with (go_at_call 90; refine (within_any _ _ _).mono ?_; rintro _ _ ⟨rfl, rfl⟩)
          go_ret
          exact Ret.mk (bool_eq (may_dead h).symm) ((Below.refl _ _).alloc (Nat.le_refl _) _)

        · go_enter Tryd.func77, Tryd.ntmps77
          go_wp2_with (go_at_call 90; refine (within_any _ _ _).mono ?_; rintro _ _ ⟨rfl, rfl⟩)
          go_ret
          exact Ret.mk (bool_eq (may_false (fun k => by have := (k.2.2.2.2.2.2.2.2.1 rfl).2.2.2; cases this)).symm) ((Below.refl _ _).alloc (Nat.le_refl _) _)

      · go_enter Tryd.func77, Tryd.ntmps77
        go_wp2_with (go_at_call 90; refine (within_any _ _ _).mono ?_; rintro _ _ ⟨rfl, rfl⟩)
        go_ret
        exact Ret.mk (bool_eq (may_false (fun k => hq (k.2.2.2.2.2.2.2.2.1 rfl).2.2.1)).symm) ((Below.refl _ _).alloc (Nat.le_refl _) _)

    · go_enter Tryd.func77, Tryd.ntmps77
      go_wp2_with (go_at_call 90; refine (within_any _ _ _).mono ?_; rintro _ _ ⟨rfl, rfl⟩)
      go_ret
      exact Ret.mk (bool_eq (may_false (fun k => hp (k.2.2.2.2.2.2.2.2.1 rfl).2.1)).symm) ((Below.refl _ _).alloc (Nat.le_refl _) _)

  · go_enter Tryd.func77, Tryd.ntmps77
    go_wp2_with (go_at_call 90; refine (within_any _ _ _).mono ?_; rintro _ _ ⟨rfl, rfl⟩)
    go_ret
    exact Ret.mk (bool_eq (may_false (fun k => ho (k.2.2.2.2.2.2.2.2.1 rfl).1)).symm) ((Below.refl _ _).alloc (Nat.le_refl _) _)


theorem maybe_live (o g p q : Int) (lk : Bool) (w : World) (h : 0 ≤ g ∧ g ≤ 1000) : Calls Tryd.prog 77 #[.agg #[.int .i64 o, .int .i64 g, .int .i64 p, .int .i64 q, .bool lk, .bool true]] w (Ret w (.bool (En.may ⟨o, g, p, q, lk, true⟩))) := by
  have h1 : decide (0 ≤ g ∧ g ≤ 1000) = true := by simpa using h
  by_cases hl : lk = true ∧ ¬ (p = 0 ∧ q = 0)
  · obtain ⟨rfl, hl⟩ := hl
    by_cases hp : p = 0
    · have hq : q ≠ 0 := fun k => hl ⟨hp, k⟩
      go_enter Tryd.func77, Tryd.ntmps77
      go_wp2_with (go_at_call 90; refine (within_any _ _ _).mono ?_; rintro _ _ ⟨rfl, rfl⟩)
      go_ret
      exact Ret.mk (bool_eq (may_false (fun k => hl (k.2.2.2.2.2.2.2.2.2 rfl))).symm) ((Below.refl _ _).alloc (Nat.le_refl _) _)

    · go_enter Tryd.func77, Tryd.ntmps77
      go_wp2_with (go_at_call 90; refine (within_any _ _ _).mono ?_; rintro _ _ ⟨rfl, rfl⟩)
      go_ret
      exact Ret.mk (bool_eq (may_false (fun k => hl (k.2.2.2.2.2.2.2.2.2 rfl))).symm) ((Below.refl _ _).alloc (Nat.le_refl _) _)

  · by_cases ho : 0 ≤ o ∧ o ≤ 4096
    · have h2 : decide (0 ≤ o ∧ o ≤ 4096) = true := by simpa using ho
      by_cases hp : 0 ≤ p ∧ p ≤ 7
      · have h3 : decide (0 ≤ p ∧ p ≤ 7) = true := by simpa using hp
        by_cases hq : 0 ≤ q ∧ q ≤ 15
        · have h4 : decide (0 ≤ q ∧ q ≤ 15) = true := by simpa using hq
          cases lk
          · go_enter Tryd.func77, Tryd.ntmps77
            go_wp2_with (go_at_call 90; refine (within_any _ _ _).mono ?_; rintro _ _ ⟨rfl, rfl⟩)
            go_ret
            exact Ret.mk (bool_eq (may_live h ho hp hq).symm) ((Below.refl _ _).alloc (Nat.le_refl _) _)

          · obtain ⟨rfl, rfl⟩ : p = 0 ∧ q = 0 := by simpa using hl
            go_enter Tryd.func77, Tryd.ntmps77
            go_wp2_with (go_at_call 90; refine (within_any _ _ _).mono ?_; rintro _ _ ⟨rfl, rfl⟩)
            go_ret
            exact Ret.mk (bool_eq (may_locked h ho).symm) ((Below.refl _ _).alloc (Nat.le_refl _) _)

        · have h4 : decide (0 ≤ q ∧ q ≤ 15) = false := by simpa using hq
          cases lk
          · go_enter Tryd.func77, Tryd.ntmps77
            go_wp2_with (go_at_call 90; refine (within_any _ _ _).mono ?_; rintro _ _ ⟨rfl, rfl⟩)
            go_ret
            exact Ret.mk (bool_eq (may_false (fun k => hq ⟨k.2.2.2.2.2.2.1, k.2.2.2.2.2.2.2.1⟩)).symm) ((Below.refl _ _).alloc (Nat.le_refl _) _)

          · obtain ⟨rfl, rfl⟩ : p = 0 ∧ q = 0 := by simpa using hl
            exact absurd (by decide) hq
      · have h3 : decide (0 ≤ p ∧ p ≤ 7) = false := by simpa using hp
        cases lk
        · go_enter Tryd.func77, Tryd.ntmps77
          go_wp2_with (go_at_call 90; refine (within_any _ _ _).mono ?_; rintro _ _ ⟨rfl, rfl⟩)
          go_ret
          exact Ret.mk (bool_eq (may_false (fun k => hp ⟨k.2.2.2.2.1, k.2.2.2.2.2.1⟩)).symm) ((Below.refl _ _).alloc (Nat.le_refl _) _)

        · obtain ⟨rfl, rfl⟩ : p = 0 ∧ q = 0 := by simpa using hl
          exact absurd (by decide) hp
    · have h2 : decide (0 ≤ o ∧ o ≤ 4096) = false := by simpa using ho
      cases lk
      · go_enter Tryd.func77, Tryd.ntmps77
        go_wp2_with (go_at_call 90; refine (within_any _ _ _).mono ?_; rintro _ _ ⟨rfl, rfl⟩)
        go_ret
        exact Ret.mk (bool_eq (may_false (fun k => ho ⟨k.2.2.1, k.2.2.2.1⟩)).symm) ((Below.refl _ _).alloc (Nat.le_refl _) _)

      · obtain ⟨rfl, rfl⟩ : p = 0 ∧ q = 0 := by simpa using hl
        go_enter Tryd.func77, Tryd.ntmps77
        go_wp2_with (go_at_call 90; refine (within_any _ _ _).mono ?_; rintro _ _ ⟨rfl, rfl⟩)
        go_ret
        exact Ret.mk (bool_eq (may_false (fun k => ho ⟨k.2.2.1, k.2.2.2.1⟩)).symm) ((Below.refl _ _).alloc (Nat.le_refl _) _)


theorem maybe_any (o g p q : Int) (lk lv : Bool) (w : World) : Calls Tryd.prog 77 #[.agg #[.int .i64 o, .int .i64 g, .int .i64 p, .int .i64 q, .bool lk, .bool lv]] w (Ret w (.bool (En.may ⟨o, g, p, q, lk, lv⟩))) := by
  by_cases h : 0 ≤ g ∧ g ≤ 1000
  · cases lv
    · exact maybe_dead o g p q lk w h
    · exact maybe_live o g p q lk w h
  · exact maybe_gen o g p q lk lv w h

/-- The package's table of fields reads as its text lays it. -/
structure HasFields (w : World) : Prop where
  lt : 0 < w.heap.size
  c0 : w.cell? ⟨0, 0, none⟩ = some (.int .i64 0)
  c1 : w.cell? ⟨0, 1, none⟩ = some (.int .i64 20)
  c2 : w.cell? ⟨0, 2, none⟩ = some (.int .i64 20)
  c3 : w.cell? ⟨0, 3, none⟩ = some (.int .i64 20)
  c4 : w.cell? ⟨0, 4, none⟩ = some (.int .i64 40)
  c5 : w.cell? ⟨0, 5, none⟩ = some (.int .i64 4)
  c6 : w.cell? ⟨0, 6, none⟩ = some (.int .i64 44)
  c7 : w.cell? ⟨0, 7, none⟩ = some (.int .i64 4)
  c8 : w.cell? ⟨0, 8, none⟩ = some (.int .i64 48)
  c9 : w.cell? ⟨0, 9, none⟩ = some (.int .i64 1)
  c10 : w.cell? ⟨0, 10, none⟩ = some (.int .i64 49)
  c11 : w.cell? ⟨0, 11, none⟩ = some (.int .i64 1)

theorem HasFields.of_cells {w w' : World} (h : HasFields w) (hs : w.heap.size ≤ w'.heap.size) (hc : ∀ o, w'.cell? ⟨0, o, none⟩ = w.cell? ⟨0, o, none⟩) : HasFields w' :=
  ⟨Nat.lt_of_lt_of_le h.lt hs, (hc 0).trans h.c0, (hc 1).trans h.c1, (hc 2).trans h.c2, (hc 3).trans h.c3, (hc 4).trans h.c4, (hc 5).trans h.c5, (hc 6).trans h.c6, (hc 7).trans h.c7, (hc 8).trans h.c8, (hc 9).trans h.c9, (hc 10).trans h.c10, (hc 11).trans h.c11⟩
theorem HasFields.below {w w' : World} (h : HasFields w) {B : Nat} (hb : Below B w w') (hB : 0 < B) : HasFields w' := h.of_cells hb.size (fun _ => hb.cell hB)
theorem Later.fields {w : World} (x : Later w) (h : HasFields w) : HasFields x.at' := h.below x.below h.lt
theorem HasFields.alloc {w : World} (h : HasFields w) (o : Obj) : HasFields (w.alloc o) := h.below ((Below.refl _ _).alloc (Nat.le_refl _) _) h.lt
theorem HasFields.drew {w : World} (h : HasFields w) : HasFields w.drew := h.below ((Below.refl w.heap.size w).drew) h.lt
theorem HasFields.setCell {w : World} (h : HasFields w) {a : Addr} (ha : 0 < a.block) (u : Value) : HasFields (w.setCell a u) :=
  h.below ((Below.refl a.block w).setCell (Nat.le_refl _) u) ha

theorem HasFields.drewN {w : World} (h : HasFields w) (d : Nat) : HasFields (w.drewN d) := h.below (Later.below_drewN (Below.refl w.heap.size w) d) h.lt
end Go.Proofs.YtfomephgallpmaaDoor
