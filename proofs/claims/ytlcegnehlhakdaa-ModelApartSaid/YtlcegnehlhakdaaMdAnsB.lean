/-
  What the program's own Answer comes to, whatever is asked, for layer 7.
  Conditions: that the map stands in memory and is a good one.
-/
import Derived.Test.YtlcegnehlhakdaaMdAns
namespace Go.Proofs.Ytlcegnehlhakdaa
open Go.RowKit
attribute [local go_sem] Later.cell Later.frozen Later.lt Later.le
set_option linter.unusedVariables false
set_option linter.unusedSimpArgs false
set_option maxRecDepth 4000

theorem Answer_alloc (g : Nat) (h off n : Int) (w : World) : Calls Try.prog 13 #[.pointer (some ⟨g, 0, none⟩), .agg #[.int .i64 0, .int .i64 h, .int .i64 off, .int .i64 n]] w (Ret w (.tuple #[.agg #[.int .i64 (rdE n), .int .i64 0], .bool (!rdB n)])) := by
  have cf := fun W => failed_any 9 W
  have cr := fun W => Round_any n W
  cases k : rdB n
  · rw [rdE_bad k] at *
    go_enter Try.func13, Try.ntmps13
    go_wp2_with (first
      | (go_at_call 30; (with_reducible refine (cf _).mono ?_); rintro _ _ ⟨rfl, z, rfl⟩)
      | (go_at_call 31; (with_reducible refine (cr _).mono ?_); rintro _ _ ⟨rfl, y, rfl⟩))
    have ez : z.at' = (y.on z.below).at' := rfl
    rw [ez]
    generalize y.on z.below = z
    refine bodyPost_ret (v := .tuple #[.agg #[.int .i64 9, .int .i64 0], .bool true]) (by simp [results, Try.results13, go_sem]) rfl (Ret.mk rfl ?_)
    exact Below.setCell (Below.setCell ((((Below.refl _ w).alloc (Nat.le_refl _) _).alloc (by simp) _).trans (z.below.mono (by simp; omega))) (by simp) _) (by simp) _
  · rw [rdE_ok k] at *
    go_enter Try.func13, Try.ntmps13
    go_wp2_with (first
      | (go_at_call 31; (with_reducible refine (cr _).mono ?_); rintro _ _ ⟨rfl, y, rfl⟩))
    refine bodyPost_ret (v := .tuple #[.agg #[.int .i64 0, .int .i64 0], .bool false]) (by simp [results, Try.results13, go_sem]) rfl (Ret.mk rfl ?_)
    have hy : Below w.heap.size w y.at' := (((Below.refl _ w).alloc (Nat.le_refl _) _).alloc (by simp) _).trans (y.below.mono (by simp; omega))
    exact Below.setCell (Below.setCell hy (by simp) _) (by simp) _

theorem Answer_odd (g : Nat) (d h off n : Int) (hd : d < 0 ∨ 5 < d) (w : World) : Calls Try.prog 13 #[.pointer (some ⟨g, 0, none⟩), .agg #[.int .i64 d, .int .i64 h, .int .i64 off, .int .i64 n]] w (Ret w (.tuple #[.agg #[.int .i64 1, .int .i64 0], .bool true])) := by
  have cf := fun W => failed_any 1 W
  have e0 : (d == 0) = false := by simpa using (by omega : ¬ d = 0)
  have e1 : (d == 1) = false := by simpa using (by omega : ¬ d = 1)
  have e2 : (d == 2) = false := by simpa using (by omega : ¬ d = 2)
  have e3 : (d == 3) = false := by simpa using (by omega : ¬ d = 3)
  have e4 : (d == 4) = false := by simpa using (by omega : ¬ d = 4)
  have e5 : (d == 5) = false := by simpa using (by omega : ¬ d = 5)
  go_enter Try.func13, Try.ntmps13
  go_wp2_with (first
    | (go_at_call 30; (with_reducible refine (cf _).mono ?_); rintro _ _ ⟨rfl, y, rfl⟩))
  refine bodyPost_ret (v := .tuple #[.agg #[.int .i64 1, .int .i64 0], .bool true]) (by simp [results, Try.results13, go_sem]) rfl (Ret.mk rfl ?_)
  exact Below.setCell (Below.setCell ((((Below.refl _ w).alloc (Nat.le_refl _) _).alloc (by simp) _).trans (y.below.mono (by simp; omega))) (by simp) _) (by simp) _

/-- What the map answers to any op. -/
theorem Answer_any {w : World} {g : Nat} {bo bt : Option Nat} {S : St} (hM : MapAt w g bo bt S) (hG : Good S) (d h off n : Int) (hw : (Lit.int .i64 h).wf = true) :
    Calls Try.prog 13 #[.pointer (some ⟨g, 0, none⟩), opV d h off n] w (Ret w (.tuple #[resV (ansE S d h off n) (ansN' S d h off n), .bool (ansH d n)])) := by
  unfold opV resV
  by_cases d0 : d = 0
  · subst d0
    have := Answer_alloc g h off n w
    have e1 : ansE S 0 h off n = rdE n := by simp [ansE, rdE]
    have e2 : ansN' S 0 h off n = 0 := by simp [ansN']
    have e3 : ansH 0 n = !rdB n := by simp [ansH]
    rw [e1, e2, e3]
    exact this
  · by_cases dd : d < 0 ∨ 5 < d
    · have := Answer_odd g d h off n dd w
      have e1 : ansE S d h off n = 1 := by simp [ansE, d0, dd]
      have e2 : ansN' S d h off n = 0 := by simp [ansN', d0, dd]
      have e3 : ansH d n = true := by simp [ansH, d0]
      rw [e1, e2, e3]
      exact this
    · have e1 : ansE S d h off n = match getO S.L h with | Option.none => 4 | some x => obE x d off := by unfold ansE; rw [if_neg d0, if_neg dd]; cases getO S.L h <;> rfl
      have e2 : ansN' S d h off n = match getO S.L h with | Option.none => 0 | some x => obN x d off := by unfold ansN'; rw [if_neg d0, if_neg dd]; cases getO S.L h <;> rfl
      have e3 : ansH d n = true := by simp [ansH, d0]
      rw [e1, e2, e3]
      have hl := look_obj hM hw
      cases hx : getO S.L h with
      | none =>
        rw [hx] at hl
        have k : ∀ W, Snc w W → (Instr.lookup 56 (.map bo) (.int .i64 h) true).run Try.prog W = .ok (.tuple #[.agg #[.string ByteArray.empty, .int .i64 0], .bool false]) W := fun W x => hl W x
        obtain rfl | rfl | rfl | rfl | rfl : d = 1 ∨ d = 2 ∨ d = 3 ∨ d = 4 ∨ d = 5 := by omega
        · exact Answer_look1 hM h off n 0 0 hw _ 0 false 4 0 k (fun c => by cases c) rfl rfl
        · exact Answer_look2 hM h off n 0 0 hw _ 0 false 4 0 k (fun c => by cases c) rfl rfl
        · exact Answer_look3 hM h off n 0 0 hw _ 0 false 4 0 k (fun c => by cases c) rfl rfl
        · exact Answer_look4 hM h off n 0 0 hw _ 0 false 4 0 k (fun c => by cases c) rfl rfl
        · exact Answer_look5 hM h off n 0 0 hw _ 0 false 4 0 k (fun c => by cases c) rfl rfl
      | some x =>
        rw [hx] at hl
        have hb := (hG.live x (getO_some hx).1).2.1
        have ca : true = true → ∀ W, Calls Try.prog 32 #[.agg #[.string (bsV x.bs), .int .i64 x.pins], .agg #[.int .i64 d, .int .i64 h, .int .i64 off, .int .i64 n]] W (Ret W (.agg #[.int .i64 (obE x d off), .int .i64 (obN x d off)])) := fun _ W => answer_any x hb d h off n (by omega) W
        have k : ∀ W, Snc w W → (Instr.lookup 56 (.map bo) (.int .i64 h) true).run Try.prog W = .ok (.tuple #[.agg #[.string (bsV x.bs), .int .i64 x.pins], .bool true]) W := fun W x => hl W x
        obtain rfl | rfl | rfl | rfl | rfl : d = 1 ∨ d = 2 ∨ d = 3 ∨ d = 4 ∨ d = 5 := by omega
        · exact Answer_look1 hM h off n _ _ hw _ _ true _ _ k ca rfl rfl
        · exact Answer_look2 hM h off n _ _ hw _ _ true _ _ k ca rfl rfl
        · exact Answer_look3 hM h off n _ _ hw _ _ true _ _ k ca rfl rfl
        · exact Answer_look4 hM h off n _ _ hw _ _ true _ _ k ca rfl rfl
        · exact Answer_look5 hM h off n _ _ hw _ _ true _ _ k ca rfl rfl
end Go.Proofs.Ytlcegnehlhakdaa
