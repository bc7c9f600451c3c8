/-
  LayoutMore, walked: it answers true at every config and every slot.
  Conditions: that live answers true; that the package's two fields of heads read as they are laid.
-/
import Derived.Test.YtjcndjfiogbdiaaDoorLayRef
import Derived.Test.YtjcndjfiogbdiaaDoorHeadPack
namespace Go.Proofs.YtjcndjfiogbdiaaDoor
open Go.RowKit
attribute [local go_sem] Later.cell Later.frozen Later.lt Later.le
set_option linter.unusedVariables false

/-- What is known of the three variables, where the last tests begin. -/
theorem more_facts {w : World} {c0 c1 c2 v l0 l1 k0 k1 : Value} {T1 T2 : TypeId} (x1 : Later (w.alloc (.cells #[c0, c1, c2] T1))) (x2 : Later ((x1.at'.setCell ⟨w.heap.size, 1, none⟩ v).alloc (.cells #[l0, l1] T2))) :
    ∃ W3 : World, x2.at'.alloc (.cells #[k0, k1] T2) = W3 ∧ Below w.heap.size w W3 ∧ w.heap.size < W3.heap.size ∧ x1.at'.heap.size < W3.heap.size ∧ x2.at'.heap.size < W3.heap.size ∧ W3.cell? ⟨w.heap.size, 1, none⟩ = some v ∧
      W3.cell? ⟨x1.at'.heap.size, 0, none⟩ = some l0 ∧ W3.cell? ⟨x1.at'.heap.size, 1, none⟩ = some l1 ∧ W3.cell? ⟨x2.at'.heap.size, 0, none⟩ = some k0 ∧ W3.cell? ⟨x2.at'.heap.size, 1, none⟩ = some k1 := by
  have y1 : w.heap.size < x1.at'.heap.size := x1.lt _ (by simp)
  have y2 : x1.at'.heap.size < x2.at'.heap.size := x2.lt _ (by simp)
  have d1 : x1.at'.cell? ⟨w.heap.size, 1, none⟩ = some c1 := by rw [x1.cell _ _ _ (by simp)]; simp
  refine ⟨_, rfl, ?_, by simp; omega, by simp; omega, by simp, ?_, ?_, ?_, by simp, by simp⟩
  · refine Below.alloc ?_ (by omega) _
    exact (((x1.boxed).setCell (Nat.le_refl _) _).alloc (by simp; omega) _).trans (x2.below.mono (by simp; omega))
  · rw [World.cell?_alloc_past _ _ _ (by omega), x2.cell _ _ _ (by simp; omega), World.cell?_alloc_past _ _ _ (by simpa using y1), World.cell?_setCell_same _ _ _ d1]
  · rw [World.cell?_alloc_past _ _ _ (by omega), x2.cell _ _ _ (by simp), World.cell?_alloc_at _ _ _ _ (by simp)]; rfl
  · rw [World.cell?_alloc_past _ _ _ (by omega), x2.cell _ _ _ (by simp), World.cell?_alloc_at _ _ _ _ (by simp)]; rfl

section
variable {a s t n : Int} {w : World}
theorem more_main (hlive : ∀ W, HasHead W → Calls Tryd.prog 22 #[] W (Ret W (.bool true))) (hF : HasHead w) (h : mayC a s t = true) (h' : mayC a (s + 1) t = true) :
    Calls Tryd.prog 7 #[.agg #[.int .i64 a, .int .i64 s, .int .i64 t], .int .i64 n] w (Ret w (.bool true)) := by
  have c1 := fun W => Of_ok a s t h W
  have c2 := fun W => Of_ok a (s + 1) t h' W
  obtain ⟨-, -, -, h3, h4, h5, h6⟩ := mayC_iff.1 h
  obtain ⟨-, -, -, -, h4', -, -⟩ := mayC_iff.1 h'
  have c3 := fun W => LEntry_any (t := t) (s := s) (by omega) h6 (by omega) h4 n W
  have c4 := fun W => LEntry_any (t := t) (s := s + 1) (by omega) h6 (by omega) h4' n W
  have c5 := fun W => LSize_any (t := t) (s := s) (by omega) h6 (by omega) h4 n W
  have c6 := fun W => LSize_any (t := t) (s := s + 1) (by omega) h6 (by omega) h4' n W
  have c7 := fun W => LLink_any (t := t) (s := s) (by omega) h6 (by omega) h4 n W
  have c8 := fun W => LLink_any (t := t) (s := s + 1) (by omega) h6 (by omega) h4' n W
  have c9 := fun W => LWords_ok (t := t) (s := s) h5 h6 (by omega) h4 W
  have c10 := fun W => LWords_ok (t := t) (s := s + 1) h5 h6 (by omega) h4' W
  have c11 := fun W => LNote_any (t := t) (s := s) (by omega) h6 0 W
  have c12 := fun W => LNote_any (t := t) (s := s + 1) (by omega) h6 0 W
  have c13 := fun W => LLink_any (t := t) (s := s + 1) (by omega) h6 (by omega) h4' s W
  rw [partN_in (by omega)] at c13
  unfold wordsN at c9 c10
  clear h h'
  rw [noteN_in (by omega)] at c11 c12
  have e1 : ∀ x : Int, (x != x) = false := fun x => by simp
  have e2 : 4 + t + (s + 1) * 3 = 4 + t + s * 3 + 3 := by omega
  have e3 : 4 + t + s * 3 + 2 = 4 + t + s * 3 + 2 := rfl
  rw [e2] at c10
  generalize hN : 4 + t + s * 3 = N at c9 c10 c13
  have n0 : 0 ≤ N := by omega
  have n1 : N ≤ 1000 := by omega
  clear e2 e3 hN
  by_cases hn : 0 ≤ n ∧ n ≤ s - 1
  · rw [partN_in hn] at c3 c5 c7
    rw [partN_in (by omega)] at c4 c6 c8
    have p0 : 0 ≤ 4 + t + n * 3 + 0 := by omega
    have p1 : decide (0 ≤ 4 + t + n * 3 + 0) = true := by simpa using p0
    generalize 4 + t + n * 3 + 0 = v1 at *
    generalize 4 + t + n * 3 + 1 = v2 at *
    generalize 4 + t + n * 3 + 2 = v3 at *
    go_enter Tryd.func7, Tryd.ntmps7
    go_wp2_with (first
      | (go_at_call 9; (with_reducible refine (c1 _).mono ?_); rintro _ _ ⟨rfl, x1, rfl⟩; have z1 : w.heap.size < x1.at'.heap.size := x1.lt _ (by simp))
      | (go_at_call 9; (with_reducible refine (c2 _).mono ?_); rintro _ _ ⟨rfl, x2, rfl⟩))
    obtain ⟨W3, hW, hb, y1, y2, y3, f1, f2, f3, f4, f5⟩ := more_facts (k0 := .int .i64 t) (k1 := .int .i64 (s + 1)) x1 x2
    rw [hW]
    have hF3 := hF.below hb
    have HB := Lib.hid hb
    clear hW hb c1 c2 hF z1
    generalize x1.at'.heap.size = b1 at *
    generalize x2.at'.heap.size = b2 at *
    clear x2 x1
    refine wp_region_later (by kernel_rfl) (by kernel_rfl) ?_
    repeat (go_big_quiet_step (first
      | (go_at_call 18; (with_reducible exact later_of _ (c3 _)))
      | (go_at_call 18; (with_reducible exact later_of _ (c4 _)))
      | (go_at_call 19; (with_reducible exact later_of _ (c5 _)))
      | (go_at_call 19; (with_reducible exact later_of _ (c6 _)))
      | (go_at_call 20; (with_reducible exact later_of _ (c7 _)))
      | (go_at_call 20; (with_reducible exact later_of _ (c8 _)))))
    refine wpQuiet_nil ?_
    rintro _ ⟨x3, rfl⟩
    go_wp2
    refine wp_region_later' x3 (by kernel_rfl) (by kernel_rfl) ?_
    repeat (go_big_quiet_step (first
      | (go_at_call 11; (with_reducible exact later_of _ (c9 _)))
      | (go_at_call 11; (with_reducible exact later_of _ (c10 _)))
      | (go_at_call 17; (with_reducible exact later_of _ (c11 _)))
      | (go_at_call 17; (with_reducible exact later_of _ (c12 _)))
      | (go_at_call 20; (with_reducible exact later_of _ (c13 _)))
      | (go_at_call 22; (with_reducible exact later_of _ (hlive _ (Later.heads _ hF3))))))
    refine wpQuiet_nil ?_
    rintro _ ⟨x4, rfl⟩
    go_wp2
    go_ret
    exact Ret.mk rfl (x4.cat HB.out HB.out.size)
  · rw [partN_no hn] at c3
    go_enter Tryd.func7, Tryd.ntmps7
    go_wp2_with (first
      | (go_at_call 9; (with_reducible refine (c1 _).mono ?_); rintro _ _ ⟨rfl, x1, rfl⟩; have z1 : w.heap.size < x1.at'.heap.size := x1.lt _ (by simp))
      | (go_at_call 9; (with_reducible refine (c2 _).mono ?_); rintro _ _ ⟨rfl, x2, rfl⟩))
    obtain ⟨W3, hW, hb, y1, y2, y3, f1, f2, f3, f4, f5⟩ := more_facts (k0 := .int .i64 t) (k1 := .int .i64 (s + 1)) x1 x2
    rw [hW]
    have hF3 := hF.below hb
    have HB := Lib.hid hb
    clear hW hb c1 c2 hF z1
    generalize x1.at'.heap.size = b1 at *
    generalize x2.at'.heap.size = b2 at *
    clear x2 x1
    refine wp_region_later (by kernel_rfl) (by kernel_rfl) ?_
    repeat (go_big_quiet_step (first
      | (go_at_call 18; (with_reducible exact later_of _ (c3 _)))
      | (go_at_call 18; (with_reducible exact later_of _ (c4 _)))
      | (go_at_call 19; (with_reducible exact later_of _ (c5 _)))
      | (go_at_call 19; (with_reducible exact later_of _ (c6 _)))
      | (go_at_call 20; (with_reducible exact later_of _ (c7 _)))
      | (go_at_call 20; (with_reducible exact later_of _ (c8 _)))))
    refine wpQuiet_nil ?_
    rintro _ ⟨x3, rfl⟩
    go_wp2
    refine wp_region_later' x3 (by kernel_rfl) (by kernel_rfl) ?_
    repeat (go_big_quiet_step (first
      | (go_at_call 11; (with_reducible exact later_of _ (c9 _)))
      | (go_at_call 11; (with_reducible exact later_of _ (c10 _)))
      | (go_at_call 17; (with_reducible exact later_of _ (c11 _)))
      | (go_at_call 17; (with_reducible exact later_of _ (c12 _)))
      | (go_at_call 20; (with_reducible exact later_of _ (c13 _)))
      | (go_at_call 22; (with_reducible exact later_of _ (hlive _ (Later.heads _ hF3))))))
    refine wpQuiet_nil ?_
    rintro _ ⟨x4, rfl⟩
    go_wp2
    go_ret
    exact Ret.mk rfl (x4.cat HB.out HB.out.size)
theorem more_bad (hlive : ∀ W, HasHead W → Calls Tryd.prog 22 #[] W (Ret W (.bool true))) (hF : HasHead w) (h : mayC a s t = false) :
    Calls Tryd.prog 7 #[.agg #[.int .i64 a, .int .i64 s, .int .i64 t], .int .i64 n] w (Ret w (.bool true)) := by
  have c1 := fun W => Of_bad a s t h W
  obtain ⟨k0, k1, e, c2⟩ : ∃ k0 k1 e : Int, ∀ W, Calls Tryd.prog 9 #[.agg #[.int .i64 a, .int .i64 (wrap64 (s + 1)), .int .i64 t]] W (Ret W (.tuple #[.agg #[.int .i64 k0, .int .i64 k1], .int .i64 e])) := by
    cases h' : mayC a (wrap64 (s + 1)) t
    · exact ⟨_, _, _, fun W => Of_bad _ _ _ h' W⟩
    · exact ⟨_, _, _, fun W => Of_ok _ _ _ h' W⟩
  clear h
  go_enter Tryd.func7, Tryd.ntmps7
  go_wp2_with (first
    | (go_at_call 9; (with_reducible refine (c1 _).mono ?_); rintro _ _ ⟨rfl, x1, rfl⟩; have z1 : w.heap.size < x1.at'.heap.size := x1.lt _ (by simp))
    | (go_at_call 9; (with_reducible refine (c2 _).mono ?_); rintro _ _ ⟨rfl, x2, rfl⟩; obtain ⟨W3, hW, hb, -, -, -, -, -, -, -, -⟩ := more_facts (k0 := .int .i64 k0) (k1 := .int .i64 k1) x1 x2; have HB := Lib.hid hb; have HW := Lib.hid hW; clear hW hb)
    | (go_at_call 22; rw [HW.out]; (with_reducible refine (hlive _ (hF.below HB.out)).mono ?_); rintro _ _ ⟨rfl, x4, rfl⟩))
  go_ret
  exact Ret.mk rfl (x4.cat HB.out HB.out.size)
theorem more_last (hlive : ∀ W, HasHead W → Calls Tryd.prog 22 #[] W (Ret W (.bool true))) (hF : HasHead w) (h : mayC a s t = true) (h' : mayC a (s + 1) t = false) :
    Calls Tryd.prog 7 #[.agg #[.int .i64 a, .int .i64 s, .int .i64 t], .int .i64 n] w (Ret w (.bool true)) := by
  have c1 := fun W => Of_ok a s t h W
  have c2 := fun W => Of_bad a (s + 1) t h' W
  obtain ⟨-, -, -, h3, h4, -, -⟩ := mayC_iff.1 h
  clear h h'
  go_enter Tryd.func7, Tryd.ntmps7
  go_wp2_with (first
    | (go_at_call 9; (with_reducible refine (c1 _).mono ?_); rintro _ _ ⟨rfl, x1, rfl⟩; have z1 : w.heap.size < x1.at'.heap.size := x1.lt _ (by simp))
    | (go_at_call 9; (with_reducible refine (c2 _).mono ?_); rintro _ _ ⟨rfl, x2, rfl⟩; obtain ⟨W3, hW, hb, -, -, -, -, -, -, -, -⟩ := more_facts (k0 := .int .i64 0) (k1 := .int .i64 0) x1 x2; have HB := Lib.hid hb; have HW := Lib.hid hW; clear hW hb)
    | (go_at_call 22; rw [HW.out]; (with_reducible refine (hlive _ (hF.below HB.out)).mono ?_); rintro _ _ ⟨rfl, x4, rfl⟩))
  go_ret
  exact Ret.mk rfl (x4.cat HB.out HB.out.size)
theorem LayoutMore_walk (hlive : ∀ W, HasHead W → Calls Tryd.prog 22 #[] W (Ret W (.bool true))) (hF : HasHead w) :
    Calls Tryd.prog 7 #[.agg #[.int .i64 a, .int .i64 s, .int .i64 t], .int .i64 n] w (Ret w (.bool true)) := by
  cases h : mayC a s t
  · exact more_bad hlive hF h
  · cases h' : mayC a (s + 1) t
    · exact more_last hlive hF h h'
    · exact more_main hlive hF h h'
end
end Go.Proofs.YtjcndjfiogbdiaaDoor
