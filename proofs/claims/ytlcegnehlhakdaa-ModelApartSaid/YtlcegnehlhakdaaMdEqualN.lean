/-
  The library's maps.Equal where one map is nil; both, whichever they are, for layer 7.
  Conditions: none but that the maps are owned, or nil.
-/
import Derived.Test.YtlcegnehlhakdaaMdEqual
namespace Go.Proofs.Ytlcegnehlhakdaa
open Go.RowKit Go.Maps Go.Shelf Go
attribute [local go_sem] Later.cell Later.frozen Later.lt Later.le
set_option linter.unusedVariables false
set_option linter.unusedSimpArgs false
set_option maxRecDepth 100000

/-- A map value with a datum. -/
def MD (w : World) (R : Value → Option (DataW Unit × List MemPlace)) (p : Option Nat) (D : DataW Unit) : Prop :=
  (p = none ∧ D = .map []) ∨ ∃ b n, p = some b ∧ w.ownsMap Try.prog 3 R b n D
theorem MD.len {w : World} {R : Value → Option (DataW Unit × List MemPlace)} {p : Option Nat} {D : DataW Unit} {t e : TypeId} (h : MD w R p D) (ht : Try.prog.underlying t = some (.map 3 e)) (ty : TypeId) :
    (Builtin.len_ #[t] ty #[.map p]).run Try.prog w = .ok (.int .i64 (Maps.size D)) w := by
  rcases h with ⟨rfl, rfl⟩ | ⟨b, n, rfl, ho⟩
  · exact Maps.len_nil ht ty
  · exact ho.len ht ty

set_option maxHeartbeats 4000000 in
theorem equal_O_nil1 {p2 : Option Nat} {D2 : DataW Unit} (w : World) (h2 : MD w objR p2 D2) :
    Calls Try.prog 42 #[.map none, .map p2] w fun e w' => e = .returned (.bool (Lib.equalFuncD eqO (.map []) D2)) ∧ w.grownBy w' none := by
  have l1 : ∀ ty, (Builtin.len_ #[56] ty #[.map none]).run Try.prog w = .ok (.int .i64 0) w := fun ty => Maps.len_nil Try.underlying56 ty
  have l2 := fun ty => h2.len (t := 56) Try.underlying56 ty
  have hrg := run_range_nilMap (P := Try.prog) w 56 _ _ Try.underlying56
  have hnx : ∀ ty, (Instr.next (.pointer (some ⟨w.heap.size, 0, none⟩)) false ty).run Try.prog (w.alloc (.mapIter none 0 #[] 0)) = _ := fun ty => run_next_nilMap _ ty 0 0 #[]
  clear h2
  generalize hres : Lib.equalFuncD eqO (.map []) D2 = res
  have RES : Aside (Lib.equalFuncD eqO (.map []) D2 = res) := hres
  clear hres
  by_cases hs : Maps.size D2 = 0
  · rw [hs] at l2
    go_enter Try.func42, Try.ntmps42
    go_wp2
    refine wp_loop_rounds 1 ?_
    rw [rounds_succ]
    go_wp2
    go_ret
    exact ⟨by rw [← RES.out, none_true rfl hs]; rfl, World.grownBy_alloc w _ none⟩
  · have hne : ¬ ((0 : Int) = (Maps.size D2 : Int)) := fun e => hs (by exact_mod_cast e.symm)
    go_enter Try.func42, Try.ntmps42
    go_wp2
    go_ret
    exact ⟨by rw [← RES.out, sizes_false (D1 := .map []) (fun e => hs e.symm)]; rfl, World.grownBy.refl _ _⟩
set_option maxHeartbeats 4000000 in
theorem equal_O_nil2 {b1 n1 : Nat} {D1 : DataW Unit} (w : World) (h1 : w.ownsMap Try.prog 3 objR b1 n1 D1) :
    Calls Try.prog 42 #[.map (some b1), .map none] w fun e w' => e = .returned (.bool (Lib.equalFuncD eqO D1 (.map []))) ∧ w.grownBy w' none := by
  have l1 := fun ty => h1.len (t := 56) Try.underlying56 ty
  have l2 : ∀ ty, (Builtin.len_ #[56] ty #[.map none]).run Try.prog w = .ok (.int .i64 0) w := fun ty => Maps.len_nil Try.underlying56 ty
  generalize hres : Lib.equalFuncD eqO D1 (.map []) = res
  have RES : Aside (Lib.equalFuncD eqO D1 (.map []) = res) := hres
  clear hres
  by_cases hs : Maps.size D1 = 0
  · rw [hs] at l1
    go_enter Try.func42, Try.ntmps42
    go_wp2_with (first
      | (at_range; refine wpList_range_own _ rfl _ 56 rfl 3 62 kInt Try.underlying56 objR b1 n1 _ rfl h1 ?_; intro w0 hrg0 hg0 hs0)
      | go_in)
    go_frame
    rw [hs] at hrg0
    refine wp_loop_rounds 1 ?_
    rw [rounds_succ]
    go_wp2_with (first
      | (at_next; refine wpList_next_ranges _ rfl _ rfl 3 kInt objR id id (fun key _ _ => ⟨key, rfl⟩) (fun v _ _ => ⟨v, rfl⟩) b1 w.heap.size n1 _ _ _ rfl hrg0 ?_ ?_)
      | go_in)
    intros
    go_wp2
    go_ret
    exact ⟨by rw [← RES.out, none_true hs rfl]; rfl, hg0⟩
  · have hne : ¬ ((Maps.size D1 : Int) = 0) := fun e => hs (by exact_mod_cast e)
    go_enter Try.func42, Try.ntmps42
    go_wp2
    go_ret
    exact ⟨by rw [← RES.out, sizes_false (D2 := .map []) hs]; rfl, World.grownBy.refl _ _⟩
theorem equal_O_any {p1 p2 : Option Nat} {D1 D2 : DataW Unit} (w : World) (h1 : MD w objR p1 D1) (h2 : MD w objR p2 D2) :
    Calls Try.prog 42 #[.map p1, .map p2] w (Ret w (.bool (Lib.equalFuncD eqO D1 D2))) := by
  have hfin : ∀ (e : Ending) (w' : World), (e = .returned (.bool (Lib.equalFuncD eqO D1 D2)) ∧ w.grownBy w' none) → Ret w (.bool (Lib.equalFuncD eqO D1 D2)) e w' := fun e w' ⟨h1, h2⟩ => by rw [h1]; exact Ret.mk rfl ((Below.refl _ w).grown h2 (Nat.le_refl _) (by simp))
  rcases h1 with ⟨rfl, rfl⟩ | ⟨b1, n1, rfl, o1⟩
  · exact (equal_O_nil1 w h2).mono hfin
  · rcases h2 with ⟨rfl, rfl⟩ | ⟨b2, n2, rfl, o2⟩
    · exact (equal_O_nil2 w o1).mono hfin
    · exact (equal_O w o1 o2).mono hfin

set_option maxHeartbeats 4000000 in
theorem equal_U_nil1 {p2 : Option Nat} {D2 : DataW Unit} (w : World) (h2 : MD w unitElem p2 D2) :
    Calls Try.prog 43 #[.map none, .map p2] w fun e w' => e = .returned (.bool (Lib.equalFuncD eqU (.map []) D2)) ∧ w.grownBy w' none := by
  have l1 : ∀ ty, (Builtin.len_ #[57] ty #[.map none]).run Try.prog w = .ok (.int .i64 0) w := fun ty => Maps.len_nil Try.underlying57 ty
  have l2 := fun ty => h2.len (t := 57) Try.underlying57 ty
  have hrg := run_range_nilMap (P := Try.prog) w 57 _ _ Try.underlying57
  have hnx : ∀ ty, (Instr.next (.pointer (some ⟨w.heap.size, 0, none⟩)) false ty).run Try.prog (w.alloc (.mapIter none 0 #[] 0)) = _ := fun ty => run_next_nilMap _ ty 0 0 #[]
  clear h2
  generalize hres : Lib.equalFuncD eqU (.map []) D2 = res
  have RES : Aside (Lib.equalFuncD eqU (.map []) D2 = res) := hres
  clear hres
  by_cases hs : Maps.size D2 = 0
  · rw [hs] at l2
    go_enter Try.func43, Try.ntmps43
    go_wp2
    refine wp_loop_rounds 1 ?_
    rw [rounds_succ]
    go_wp2
    go_ret
    exact ⟨by rw [← RES.out, none_true rfl hs]; rfl, World.grownBy_alloc w _ none⟩
  · have hne : ¬ ((0 : Int) = (Maps.size D2 : Int)) := fun e => hs (by exact_mod_cast e.symm)
    go_enter Try.func43, Try.ntmps43
    go_wp2
    go_ret
    exact ⟨by rw [← RES.out, sizes_false (D1 := .map []) (fun e => hs e.symm)]; rfl, World.grownBy.refl _ _⟩
set_option maxHeartbeats 4000000 in
theorem equal_U_nil2 {b1 n1 : Nat} {D1 : DataW Unit} (w : World) (h1 : w.ownsMap Try.prog 3 unitElem b1 n1 D1) :
    Calls Try.prog 43 #[.map (some b1), .map none] w fun e w' => e = .returned (.bool (Lib.equalFuncD eqU D1 (.map []))) ∧ w.grownBy w' none := by
  have l1 := fun ty => h1.len (t := 57) Try.underlying57 ty
  have l2 : ∀ ty, (Builtin.len_ #[57] ty #[.map none]).run Try.prog w = .ok (.int .i64 0) w := fun ty => Maps.len_nil Try.underlying57 ty
  generalize hres : Lib.equalFuncD eqU D1 (.map []) = res
  have RES : Aside (Lib.equalFuncD eqU D1 (.map []) = res) := hres
  clear hres
  by_cases hs : Maps.size D1 = 0
  · rw [hs] at l1
    go_enter Try.func43, Try.ntmps43
    go_wp2_with (first
      | (at_range; refine wpList_range_own _ rfl _ 57 rfl 3 64 kInt Try.underlying57 unitElem b1 n1 _ rfl h1 ?_; intro w0 hrg0 hg0 hs0)
      | go_in)
    go_frame
    rw [hs] at hrg0
    refine wp_loop_rounds 1 ?_
    rw [rounds_succ]
    go_wp2_with (first
      | (at_next; refine wpList_next_ranges _ rfl _ rfl 3 kInt unitElem id id (fun key _ _ => ⟨key, rfl⟩) (fun v _ _ => ⟨v, rfl⟩) b1 w.heap.size n1 _ _ _ rfl hrg0 ?_ ?_)
      | go_in)
    intros
    go_wp2
    go_ret
    exact ⟨by rw [← RES.out, none_true hs rfl]; rfl, hg0⟩
  · have hne : ¬ ((Maps.size D1 : Int) = 0) := fun e => hs (by exact_mod_cast e)
    go_enter Try.func43, Try.ntmps43
    go_wp2
    go_ret
    exact ⟨by rw [← RES.out, sizes_false (D2 := .map []) hs]; rfl, World.grownBy.refl _ _⟩
theorem equal_U_any {p1 p2 : Option Nat} {D1 D2 : DataW Unit} (w : World) (h1 : MD w unitElem p1 D1) (h2 : MD w unitElem p2 D2) :
    Calls Try.prog 43 #[.map p1, .map p2] w (Ret w (.bool (Lib.equalFuncD eqU D1 D2))) := by
  have hfin : ∀ (e : Ending) (w' : World), (e = .returned (.bool (Lib.equalFuncD eqU D1 D2)) ∧ w.grownBy w' none) → Ret w (.bool (Lib.equalFuncD eqU D1 D2)) e w' := fun e w' ⟨h1, h2⟩ => by rw [h1]; exact Ret.mk rfl ((Below.refl _ w).grown h2 (Nat.le_refl _) (by simp))
  rcases h1 with ⟨rfl, rfl⟩ | ⟨b1, n1, rfl, o1⟩
  · exact (equal_U_nil1 w h2).mono hfin
  · rcases h2 with ⟨rfl, rfl⟩ | ⟨b2, n2, rfl, o2⟩
    · exact (equal_U_nil2 w o1).mono hfin
    · exact (equal_U w o1 o2).mono hfin
end Go.Proofs.Ytlcegnehlhakdaa
