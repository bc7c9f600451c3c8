/-
  The statement EntryPacks of layer 2, walked: any entry's word, and the entry of any word, are the document's.
  Conditions: that the package's table of fields reads as it is laid.
-/
import Derived.Test.YtnojemmpgaibkaaDoorEntryUnpack
import Derived.RegionTactic
import Derived.LoopTactic
namespace Go.Proofs.YtnojemmpgaibkaaDoor
open Go.RowKit
attribute [local go_sem] Later.cell Later.frozen Later.lt Later.le
attribute [local go_sem ↓] Go.wp_at_zero Go.wp_at_succ

theorem refBit_any (b : Bool) (w : World) : Calls Tryd.prog 44 #[.bool b] w fun e w' => e = .returned (.int .i64 (bitI b)) ∧ w = w' := by
  cases b
  · go_enter Tryd.func44, Tryd.ntmps44
    go_wp2
    go_ret
    exact ⟨rfl, rfl⟩
  · go_enter Tryd.func44, Tryd.ntmps44
    go_wp2
    go_ret
    exact ⟨rfl, rfl⟩

set_option maxHeartbeats 2000000 in
theorem refMay_any (o g p q : Int) (lk lv : Bool) (w : World) : Calls Tryd.prog 43 #[.agg #[.int .i64 o, .int .i64 g, .int .i64 p, .int .i64 q, .bool lk, .bool lv]] w (Ret w (.bool (En.may ⟨o, g, p, q, lk, lv⟩))) := by
  by_cases h0 : o < 0
  · go_enter Tryd.func43, Tryd.ntmps43
    go_wp2
    go_ret
    exact Ret.mk (bool_eq (may_false (fun k => by have := k.2.2.1; simp only at this; omega)).symm) ((Below.refl _ _).alloc (Nat.le_refl _) _)
  · by_cases h1 : 4096 < o
    · go_enter Tryd.func43, Tryd.ntmps43
      go_wp2
      go_ret
      exact Ret.mk (bool_eq (may_false (fun k => by have := k.2.2.2.1; simp only at this; omega)).symm) ((Below.refl _ _).alloc (Nat.le_refl _) _)
    · by_cases h2 : g < 0
      · go_enter Tryd.func43, Tryd.ntmps43
        go_wp2
        go_ret
        exact Ret.mk (bool_eq (may_false (fun k => by have := k.1; simp only at this; omega)).symm) ((Below.refl _ _).alloc (Nat.le_refl _) _)
      · by_cases h3 : 1000 < g
        · go_enter Tryd.func43, Tryd.ntmps43
          go_wp2
          go_ret
          exact Ret.mk (bool_eq (may_false (fun k => by have := k.2.1; simp only at this; omega)).symm) ((Below.refl _ _).alloc (Nat.le_refl _) _)
        · by_cases h4 : p < 0
          · go_enter Tryd.func43, Tryd.ntmps43
            go_wp2
            go_ret
            exact Ret.mk (bool_eq (may_false (fun k => by have := k.2.2.2.2.1; simp only at this; omega)).symm) ((Below.refl _ _).alloc (Nat.le_refl _) _)
          · by_cases h5 : 7 < p
            · go_enter Tryd.func43, Tryd.ntmps43
              go_wp2
              go_ret
              exact Ret.mk (bool_eq (may_false (fun k => by have := k.2.2.2.2.2.1; simp only at this; omega)).symm) ((Below.refl _ _).alloc (Nat.le_refl _) _)
            · by_cases h6 : q < 0
              · go_enter Tryd.func43, Tryd.ntmps43
                go_wp2
                go_ret
                exact Ret.mk (bool_eq (may_false (fun k => by have := k.2.2.2.2.2.2.1; simp only at this; omega)).symm) ((Below.refl _ _).alloc (Nat.le_refl _) _)
              · by_cases h7 : 15 < q
                · go_enter Tryd.func43, Tryd.ntmps43
                  go_wp2
                  go_ret
                  exact Ret.mk (bool_eq (may_false (fun k => by have := k.2.2.2.2.2.2.2.1; simp only at this; omega)).symm) ((Below.refl _ _).alloc (Nat.le_refl _) _)
                · cases lv
                  · by_cases ho : o = 0
                    · subst ho
                      by_cases hp : p = 0
                      · subst hp
                        by_cases hq : q = 0
                        · subst hq
                          cases lk
                          · go_enter Tryd.func43, Tryd.ntmps43
                            go_wp2
                            go_ret
                            exact Ret.mk (bool_eq (may_dead ⟨by omega, by omega⟩).symm) ((Below.refl _ _).alloc (Nat.le_refl _) _)
                          · go_enter Tryd.func43, Tryd.ntmps43
                            go_wp2
                            go_ret
                            exact Ret.mk (bool_eq (may_false (fun k => by have := (k.2.2.2.2.2.2.2.2.1 rfl).2.2.2; cases this)).symm) ((Below.refl _ _).alloc (Nat.le_refl _) _)
                        · go_enter Tryd.func43, Tryd.ntmps43
                          go_wp2
                          go_ret
                          exact Ret.mk (bool_eq (may_false (fun k => hq (k.2.2.2.2.2.2.2.2.1 rfl).2.2.1)).symm) ((Below.refl _ _).alloc (Nat.le_refl _) _)
                      · go_enter Tryd.func43, Tryd.ntmps43
                        go_wp2
                        go_ret
                        exact Ret.mk (bool_eq (may_false (fun k => hp (k.2.2.2.2.2.2.2.2.1 rfl).2.1)).symm) ((Below.refl _ _).alloc (Nat.le_refl _) _)
                    · go_enter Tryd.func43, Tryd.ntmps43
                      go_wp2
                      go_ret
                      exact Ret.mk (bool_eq (may_false (fun k => ho (k.2.2.2.2.2.2.2.2.1 rfl).1)).symm) ((Below.refl _ _).alloc (Nat.le_refl _) _)
                  · cases lk
                    · go_enter Tryd.func43, Tryd.ntmps43
                      go_wp2
                      go_ret
                      exact Ret.mk (bool_eq (may_live ⟨by omega, by omega⟩ ⟨by omega, by omega⟩ ⟨by omega, by omega⟩ ⟨by omega, by omega⟩).symm) ((Below.refl _ _).alloc (Nat.le_refl _) _)
                    · by_cases hp : p = 0
                      · subst hp
                        by_cases hq : q = 0
                        · subst hq
                          go_enter Tryd.func43, Tryd.ntmps43
                          go_wp2
                          go_ret
                          exact Ret.mk (bool_eq (may_locked ⟨by omega, by omega⟩ ⟨by omega, by omega⟩).symm) ((Below.refl _ _).alloc (Nat.le_refl _) _)
                        · go_enter Tryd.func43, Tryd.ntmps43
                          go_wp2
                          go_ret
                          exact Ret.mk (bool_eq (Eq.trans (show (q == 0) = false from by simpa using hq) (may_false (e := ⟨o, g, 0, q, true, true⟩) (fun k => hq (k.2.2.2.2.2.2.2.2.2 rfl).2)).symm)) ((Below.refl _ _).alloc (Nat.le_refl _) _)
                      · go_enter Tryd.func43, Tryd.ntmps43
                        go_wp2
                        go_ret
                        exact Ret.mk (bool_eq (may_false (fun k => hp (k.2.2.2.2.2.2.2.2.2 rfl).1)).symm) ((Below.refl _ _).alloc (Nat.le_refl _) _)

theorem refPack_any (o g p q : Int) (lk lv : Bool) (w : World) : Calls Tryd.prog 15 #[.agg #[.int .i64 o, .int .i64 g, .int .i64 p, .int .i64 q, .bool lk, .bool lv]] w (Ret w (.tuple #[.int .i64 (packV ⟨o, g, p, q, lk, lv⟩), .int .i64 (packE ⟨o, g, p, q, lk, lv⟩)])) := by
  cases h : En.may ⟨o, g, p, q, lk, lv⟩
  · rw [packV_bad h, packE_bad h]
    go_enter Tryd.func15, Tryd.ntmps15
    go_wp2_with (go_at_call 43; refine (refMay_any o g p q lk lv _).mono ?_; rintro _ _ ⟨rfl, x1, rfl⟩)
    go_ret2
    exact Ret.mk rfl x1.boxed
  · rw [packV_ok h, packE_ok h]
    obtain ⟨m1, m2, m3, m4, m5, m6, m7, m8, _⟩ := may_of h
    simp only at m1 m2 m3 m4 m5 m6 m7 m8
    have hl := bitI_bd lk
    have hv := bitI_bd lv
    go_enter Tryd.func15, Tryd.ntmps15
    go_wp2_with (go_at_call 43; refine (refMay_any o g p q lk lv _).mono ?_; rintro _ _ ⟨rfl, x1, rfl⟩)
    refine wp_region_later' x1 (by kernel_rfl) (by kernel_rfl) ?_
    repeat (go_big_quiet_step ((go_at_call 44; exact later_same _ (refBit_any _ _))))
    refine wpQuiet_nil ?_
    rintro _ ⟨x2, rfl⟩
    go_wp2
    go_ret2
    exact Ret.mk (two_eq rfl rfl) x2.boxed
end Go.Proofs.YtnojemmpgaibkaaDoor
