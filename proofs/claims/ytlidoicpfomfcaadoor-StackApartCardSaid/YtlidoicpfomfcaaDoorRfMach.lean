/-
  What the document's machines do, step by step, on its own plain cells.
  Conditions: none but that the machine and such cells lie there, of a configuration that may be.
-/
import Derived.Test.YtlidoicpfomfcaaDoorRfMem
import Derived.Test.YtlidoicpfomfcaaDoorRfMath
import Derived.Test.YtlidoicpfomfcaaDoorLayStartsMath
import Derived.Test.YtlidoicpfomfcaaDoorHeadRef
import Derived.Deep.RegionHeld3
namespace Go.Proofs.YtlidoicpfomfcaaDoor
open Go.RowKit
attribute [local go_sem] Later.cell Later.frozen Later.lt Later.le
set_option linter.unusedVariables false

/-- A call that may turn the document's cells and the machine at k. -/
def RRMach (p q k : Nat) (bv : Value) (w : World) (v : Value) (L : List Value) (ws : List Int) (e : Ending) (w' : World) : Prop :=
  e = .returned v ∧ Moved (fun b => rSpan p q b ∨ b = k) w w' ∧ (∃ n, RMem w' p q bv ws n) ∧ Fs w' k L

theorem refNew_any (a s t : Int) (push : Bool) (slot : Int) (w : World) : Calls Tryd.prog 32 #[.agg #[.int .i64 a, .int .i64 s, .int .i64 t], .bool push, .int .i64 slot] w fun e w' => ∃ k, e = .returned (.pointer (some ⟨k, 0, none⟩)) ∧ w.heap.size ≤ k ∧ Below w.heap.size w w' ∧ Fs w' k (refL a s t push ⟨slot, 1, 0, 0⟩) := by
  go_enter Tryd.func32, Tryd.ntmps32
  go_wp2
  go_ret
  exact ⟨_, rfl, by simp, ((Below.refl _ _).alloc (Nat.le_refl _) _).alloc (by simp) _, Fs.new' _ _ (by simp) rfl⟩

section
variable {w : World} {p q k : Nat} {bv : Value} {ws : List Int} {n : Int} {a s t : Int} {push : Bool} {K : Rc}
theorem rEnd_any (sl er : Int) {L : List Value} (hP : Fs w k L) (v : Value) (hL : L[5]? = some v) : Calls Tryd.prog 58 #[.pointer (some ⟨k, 0, none⟩), .int .i64 sl, .int .i64 er] w fun e w' => e = .returned (.tuple #[.int .i64 sl, .int .i64 er, .bool true]) ∧ w.setCell ⟨k, 5, none⟩ (.int .i64 0) = w' := by
  have c5 := hP.at' 5 hL
  have f5 := hP.fz 5
  clear hP hL
  go_enter Tryd.func58, Tryd.ntmps58
  go_wp2
  go_ret3
  exact ⟨rfl, rfl⟩

theorem at7 (h : mayC a s t = true) (i : Int) (W : World) : Calls Tryd.prog 43 #[.agg #[.int .i64 a, .int .i64 s, .int .i64 t], .int .i64 7, .int .i64 i] W (Ret W (.int .i64 (partN t s i 2))) := rAt_part h 2 i (by decide) (by decide) W
theorem at1 (h : mayC a s t = true) (W : World) : Calls Tryd.prog 43 #[.agg #[.int .i64 a, .int .i64 s, .int .i64 t], .int .i64 1, .int .i64 0] W (Ret W (.int .i64 1)) := rAt_once h 1 0 (by decide) W

set_option maxHeartbeats 4000000 in
/-- Step 1 of a Pop. -/
theorem rFirst_pop (x pl : Int) (hxe : atI ws 1 = x) (hx : x ≤ 9223372036854775807) (h : mayC a s t = true) (hM : RMem w p q bv ws n) (hP : Fs w k (refL a s t false K)) (hp : p ≠ k) (hq : q ≠ k) :
    Calls Tryd.prog 55 #[.pointer (some ⟨k, 0, none⟩), .pointer (some ⟨p, 0, none⟩)] w (RRMach p q k bv w (.tuple #[.int .i64 (ref1 false x pl K ws).slot, .int .i64 (ref1 false x pl K ws).err, .bool (ref1 false x pl K ws).done]) (refL a s t false (ref1 false x pl K ws).k) (ref1 false x pl K ws).ws) := by
  have ha1 := fun W => at1 h W
  have hld := fun (W : World) (h : RMem W p q bv ws n) => rLoad_any 1 h
  rw [hxe] at hld
  have c0 : w.cell? ⟨k, 0, none⟩ = some (.int .i64 a) := hP.at' 0 rfl
  have c1 : w.cell? ⟨k, 1, none⟩ = some (.int .i64 s) := hP.at' 1 rfl
  have c2 : w.cell? ⟨k, 2, none⟩ = some (.int .i64 t) := hP.at' 2 rfl
  have c3 : w.cell? ⟨k, 3, none⟩ = some (.bool false) := hP.at' 3 rfl
  have hlt := hP.lt
  have hun := fun W => refHUnpack_any x hx W
  clear hxe h
  go_enter Tryd.func55, Tryd.ntmps55
  go_wp2_with fail
  refine wp_region_later (by kernel_rfl) (by kernel_rfl) ?_
  repeat (go_big_quiet_step (fail))
  refine wpQuiet_nil ?_
  rintro _ ⟨x0, rfl⟩
  have hP0 := hP.later x0
  have hM0 := hM.later x0
  have hV0 : Moved (fun b => rSpan p q b ∨ b = k) w x0.at' := (Moved.refl _ _).later x0
  generalize x0.at' = W0 at *
  clear c0 c1 c2 c3 hlt hP hM
  have c0 : W0.cell? ⟨k, 0, none⟩ = some (.int .i64 a) := hP0.at' 0 rfl
  have c1 : W0.cell? ⟨k, 1, none⟩ = some (.int .i64 s) := hP0.at' 1 rfl
  have c2 : W0.cell? ⟨k, 2, none⟩ = some (.int .i64 t) := hP0.at' 2 rfl
  cases hb : heB x
  · have E := Lib.hid (show ref1 false x pl K ws = ⟨0, 2, true, { K with word := x, next := 0 }, ws⟩ from by unfold ref1; rw [if_neg (show ¬ (false && decide (pl < 0)) = true by simp), if_neg (by rw [hb]; decide)])
    rw [heT_bad hb, heG_bad hb, heE_bad hb] at hun
    clear hb
    go_wp2_with (first
    | (go_at_call 43; (with_reducible refine (ha1 _).mono ?_); rintro _ _ ⟨rfl, x1, rfl⟩)
    | (go_at_call 73; (with_reducible refine (hld _ (hM0.later x1)).mono ?_); rintro _ W2 ⟨rfl, m2, n2, hM2⟩; have hP2 := (hP0.later x1).moved m2 (rSpan_not hp.symm hq.symm); have hV2 : Moved (fun b => rSpan p q b ∨ b = k) w W2 := (hV0.later x1).trans (m2.mono fun _ _ h => Or.inl h); have d3 : W2.cell? ⟨k, 3, none⟩ = some (.bool false) := hP2.at' 3 rfl; have d4 : W2.cell? ⟨k, 4, none⟩ = some (.int .i64 K.slot) := hP2.at' 4 rfl; have d5 : W2.cell? ⟨k, 5, none⟩ = some (.int .i64 K.next) := hP2.at' 5 rfl; have d6 : W2.cell? ⟨k, 6, none⟩ = some (.int .i64 K.word) := hP2.at' 6 rfl; have f4 := hP2.fz 4; have f5 := hP2.fz 5; have f6 := hP2.fz 6; clear m2)
    | (go_at_call 42; (with_reducible refine (hun _).mono ?_); rintro _ _ ⟨rfl, rfl⟩)
    | (go_at_call 58; (with_reducible refine (rEnd_any 0 2 (hP2.set 6 (by simp [refL]) (.int .i64 x)) _ rfl).mono ?_); rintro _ _ ⟨rfl, rfl⟩))
    go_ret3
    rw [E.out]
    exact ⟨rfl, (hV2.setCell _ _ (Or.inr rfl)).setCell _ _ (Or.inr rfl), ⟨n2, hM2.of_block (by simp) (by rw [Go.Deep.blk_setCell_other _ _ _ _ (by simpa using hp), Go.Deep.blk_setCell_other _ _ _ _ (by simpa using hp)]) (by rw [Go.Deep.blk_setCell_other _ _ _ _ (by simpa using hq), Go.Deep.blk_setCell_other _ _ _ _ (by simpa using hq)])⟩, (hP2.set 6 (by simp [refL]) _).set 5 (by simp [refL]) _⟩
  · by_cases h0 : x % 1048576 = 0
    · have E := Lib.hid (show ref1 false x pl K ws = ⟨0, 11, true, { K with word := x, next := 0 }, ws⟩ from by unfold ref1; rw [if_neg (show ¬ (false && decide (pl < 0)) = true by simp), if_pos hb, if_pos (show (!false && decide (x % 1048576 = 0)) = true by simp [h0])])
      rw [heT_ok hb, heG_ok hb, heE_ok hb, h0] at hun
      clear hb h0
      go_wp2_with (first
    | (go_at_call 43; (with_reducible refine (ha1 _).mono ?_); rintro _ _ ⟨rfl, x1, rfl⟩)
    | (go_at_call 73; (with_reducible refine (hld _ (hM0.later x1)).mono ?_); rintro _ W2 ⟨rfl, m2, n2, hM2⟩; have hP2 := (hP0.later x1).moved m2 (rSpan_not hp.symm hq.symm); have hV2 : Moved (fun b => rSpan p q b ∨ b = k) w W2 := (hV0.later x1).trans (m2.mono fun _ _ h => Or.inl h); have d3 : W2.cell? ⟨k, 3, none⟩ = some (.bool false) := hP2.at' 3 rfl; have d4 : W2.cell? ⟨k, 4, none⟩ = some (.int .i64 K.slot) := hP2.at' 4 rfl; have d5 : W2.cell? ⟨k, 5, none⟩ = some (.int .i64 K.next) := hP2.at' 5 rfl; have d6 : W2.cell? ⟨k, 6, none⟩ = some (.int .i64 K.word) := hP2.at' 6 rfl; have f4 := hP2.fz 4; have f5 := hP2.fz 5; have f6 := hP2.fz 6; clear m2)
    | (go_at_call 42; (with_reducible refine (hun _).mono ?_); rintro _ _ ⟨rfl, rfl⟩)
    | (go_at_call 58; (with_reducible refine (rEnd_any 0 11 (hP2.set 6 (by simp [refL]) (.int .i64 x)) _ rfl).mono ?_); rintro _ _ ⟨rfl, rfl⟩))
      go_ret3
      rw [E.out]
      exact ⟨rfl, (hV2.setCell _ _ (Or.inr rfl)).setCell _ _ (Or.inr rfl), ⟨n2, hM2.of_block (by simp) (by rw [Go.Deep.blk_setCell_other _ _ _ _ (by simpa using hp), Go.Deep.blk_setCell_other _ _ _ _ (by simpa using hp)]) (by rw [Go.Deep.blk_setCell_other _ _ _ _ (by simpa using hq), Go.Deep.blk_setCell_other _ _ _ _ (by simpa using hq)])⟩, (hP2.set 6 (by simp [refL]) _).set 5 (by simp [refL]) _⟩
    · have E := Lib.hid (show ref1 false x pl K ws = ⟨0, 0, false, { K with word := x, slot := x % 1048576 - 1, next := 2 }, ws⟩ from by unfold ref1; rw [if_neg (show ¬ (false && decide (pl < 0)) = true by simp), if_pos hb, if_neg (show ¬ (!false && decide (x % 1048576 = 0)) = true by simp [h0])]; rfl)
      rw [heT_ok hb, heG_ok hb, heE_ok hb] at hun
      have hq0 : 0 ≤ x % 1048576 := by omega
      have hq1 : x % 1048576 ≤ 1048575 := by omega
      generalize hqq : x % 1048576 = qq at hun h0 hq0 hq1
      have HQ := Lib.hid hqq
      clear hb hqq
      go_wp2_with (first
    | (go_at_call 43; (with_reducible refine (ha1 _).mono ?_); rintro _ _ ⟨rfl, x1, rfl⟩)
    | (go_at_call 73; (with_reducible refine (hld _ (hM0.later x1)).mono ?_); rintro _ W2 ⟨rfl, m2, n2, hM2⟩; have hP2 := (hP0.later x1).moved m2 (rSpan_not hp.symm hq.symm); have hV2 : Moved (fun b => rSpan p q b ∨ b = k) w W2 := (hV0.later x1).trans (m2.mono fun _ _ h => Or.inl h); have d3 : W2.cell? ⟨k, 3, none⟩ = some (.bool false) := hP2.at' 3 rfl; have d4 : W2.cell? ⟨k, 4, none⟩ = some (.int .i64 K.slot) := hP2.at' 4 rfl; have d5 : W2.cell? ⟨k, 5, none⟩ = some (.int .i64 K.next) := hP2.at' 5 rfl; have d6 : W2.cell? ⟨k, 6, none⟩ = some (.int .i64 K.word) := hP2.at' 6 rfl; have f4 := hP2.fz 4; have f5 := hP2.fz 5; have f6 := hP2.fz 6; clear m2)
    | (go_at_call 42; (with_reducible refine (hun _).mono ?_); rintro _ _ ⟨rfl, rfl⟩))
      go_ret3
      rw [E.out, HQ.out]
      exact ⟨rfl, ((hV2.setCell _ _ (Or.inr rfl)).setCell _ _ (Or.inr rfl)).setCell _ _ (Or.inr rfl), ⟨n2, hM2.of_block (by simp) (by rw [Go.Deep.blk_setCell_other _ _ _ _ (by simpa using hp), Go.Deep.blk_setCell_other _ _ _ _ (by simpa using hp), Go.Deep.blk_setCell_other _ _ _ _ (by simpa using hp)]) (by rw [Go.Deep.blk_setCell_other _ _ _ _ (by simpa using hq), Go.Deep.blk_setCell_other _ _ _ _ (by simpa using hq), Go.Deep.blk_setCell_other _ _ _ _ (by simpa using hq)])⟩, ((hP2.set 6 (by simp [refL]) _).set 4 (by simp [refL]) _).set 5 (by simp [refL]) _⟩

set_option maxHeartbeats 8000000 in
/-- Step 1 of a Push. -/
theorem rFirst_push (x pl : Int) (hxe : atI ws 1 = x) (hpe : partN t s K.slot 2 = pl) (hx : x ≤ 9223372036854775807) (h : mayC a s t = true) (hM : RMem w p q bv ws n) (hP : Fs w k (refL a s t true K)) (hp : p ≠ k) (hq : q ≠ k) :
    Calls Tryd.prog 55 #[.pointer (some ⟨k, 0, none⟩), .pointer (some ⟨p, 0, none⟩)] w (RRMach p q k bv w (.tuple #[.int .i64 (ref1 true x pl K ws).slot, .int .i64 (ref1 true x pl K ws).err, .bool (ref1 true x pl K ws).done]) (refL a s t true (ref1 true x pl K ws).k) (ref1 true x pl K ws).ws) := by
  have ha1 := fun W => at1 h W
  have ha7 := fun W => at7 h K.slot W
  rw [hpe] at ha7
  have hld := fun (W : World) (h : RMem W p q bv ws n) => rLoad_any 1 h
  rw [hxe] at hld
  have c0 : w.cell? ⟨k, 0, none⟩ = some (.int .i64 a) := hP.at' 0 rfl
  have c1 : w.cell? ⟨k, 1, none⟩ = some (.int .i64 s) := hP.at' 1 rfl
  have c2 : w.cell? ⟨k, 2, none⟩ = some (.int .i64 t) := hP.at' 2 rfl
  have c3 : w.cell? ⟨k, 3, none⟩ = some (.bool true) := hP.at' 3 rfl
  have c4 : w.cell? ⟨k, 4, none⟩ = some (.int .i64 K.slot) := hP.at' 4 rfl
  have hlt := hP.lt
  have hun := fun W => refHUnpack_any x hx W
  clear hxe hpe h
  by_cases hpl : pl < 0
  · have E := Lib.hid (show ref1 true x pl K ws = ⟨0, 1, true, { K with next := 0 }, ws⟩ from if_pos (by simp [hpl]))
    go_enter Tryd.func55, Tryd.ntmps55
    go_wp2_with fail
    refine wp_region_later (by kernel_rfl) (by kernel_rfl) ?_
    repeat (go_big_quiet_step (first | (go_at_call 43; exact later_of _ (ha7 _))))
    refine wpQuiet_nil ?_
    rintro _ ⟨x0, rfl⟩
    go_wp2_with (first
      | (go_at_call 58; (with_reducible refine (rEnd_any 0 1 (hP.later x0) _ rfl).mono ?_); rintro _ _ ⟨rfl, rfl⟩))
    go_ret3
    rw [E.out]
    exact ⟨rfl, ((Moved.refl _ _).later x0).setCell _ _ (Or.inr rfl), ⟨n, (hM.later x0).of_block (by simp) (by rw [Go.Deep.blk_setCell_other _ _ _ _ (by simpa using hp)]) (by rw [Go.Deep.blk_setCell_other _ _ _ _ (by simpa using hq)])⟩, (hP.later x0).set 5 (by simp [refL]) _⟩
  · have hnn : ¬ (true && decide (pl < 0)) = true := by simp; omega
    go_enter Tryd.func55, Tryd.ntmps55
    go_wp2_with fail
    refine wp_region_later (by kernel_rfl) (by kernel_rfl) ?_
    repeat (go_big_quiet_step (first | (go_at_call 43; exact later_of _ (ha7 _))))
    refine wpQuiet_nil ?_
    rintro _ ⟨x0, rfl⟩
    clear c4
    have hP0 := hP.later x0
    have hM0 := hM.later x0
    have hV0 : Moved (fun b => rSpan p q b ∨ b = k) w x0.at' := (Moved.refl _ _).later x0
    generalize x0.at' = W0 at *
    clear c0 c1 c2 c3 hlt hP hM
    have c0 : W0.cell? ⟨k, 0, none⟩ = some (.int .i64 a) := hP0.at' 0 rfl
    have c1 : W0.cell? ⟨k, 1, none⟩ = some (.int .i64 s) := hP0.at' 1 rfl
    have c2 : W0.cell? ⟨k, 2, none⟩ = some (.int .i64 t) := hP0.at' 2 rfl
    cases hb : heB x
    · have E := Lib.hid (show ref1 true x pl K ws = ⟨0, 2, true, { K with word := x, next := 0 }, ws⟩ from by unfold ref1; rw [if_neg hnn, if_neg (by rw [hb]; decide)])
      rw [heT_bad hb, heG_bad hb, heE_bad hb] at hun
      clear hb hnn
      go_wp2_with (first
    | (go_at_call 43; (with_reducible refine (ha1 _).mono ?_); rintro _ _ ⟨rfl, x1, rfl⟩)
    | (go_at_call 73; (with_reducible refine (hld _ (hM0.later x1)).mono ?_); rintro _ W2 ⟨rfl, m2, n2, hM2⟩; have hP2 := (hP0.later x1).moved m2 (rSpan_not hp.symm hq.symm); have hV2 : Moved (fun b => rSpan p q b ∨ b = k) w W2 := (hV0.later x1).trans (m2.mono fun _ _ h => Or.inl h); have d3 : W2.cell? ⟨k, 3, none⟩ = some (.bool true) := hP2.at' 3 rfl; have d4 : W2.cell? ⟨k, 4, none⟩ = some (.int .i64 K.slot) := hP2.at' 4 rfl; have d5 : W2.cell? ⟨k, 5, none⟩ = some (.int .i64 K.next) := hP2.at' 5 rfl; have d6 : W2.cell? ⟨k, 6, none⟩ = some (.int .i64 K.word) := hP2.at' 6 rfl; have f4 := hP2.fz 4; have f5 := hP2.fz 5; have f6 := hP2.fz 6; clear m2)
    | (go_at_call 42; (with_reducible refine (hun _).mono ?_); rintro _ _ ⟨rfl, rfl⟩)
    | (go_at_call 58; (with_reducible refine (rEnd_any 0 2 (hP2.set 6 (by simp [refL]) (.int .i64 x)) _ rfl).mono ?_); rintro _ _ ⟨rfl, rfl⟩))
      go_ret3
      rw [E.out]
      exact ⟨rfl, (hV2.setCell _ _ (Or.inr rfl)).setCell _ _ (Or.inr rfl), ⟨n2, hM2.of_block (by simp) (by rw [Go.Deep.blk_setCell_other _ _ _ _ (by simpa using hp), Go.Deep.blk_setCell_other _ _ _ _ (by simpa using hp)]) (by rw [Go.Deep.blk_setCell_other _ _ _ _ (by simpa using hq), Go.Deep.blk_setCell_other _ _ _ _ (by simpa using hq)])⟩, (hP2.set 6 (by simp [refL]) _).set 5 (by simp [refL]) _⟩
    · have E := Lib.hid (show ref1 true x pl K ws = ⟨0, 0, false, { K with word := x, next := 2 }, ws⟩ from by unfold ref1; rw [if_neg hnn, if_pos hb, if_neg (show ¬ (!true && decide (x % 1048576 = 0)) = true by simp)]; rfl)
      rw [heT_ok hb, heG_ok hb, heE_ok hb] at hun
      generalize x % 1048576 = qq at hun
      clear hb hnn
      go_wp2_with (first
    | (go_at_call 43; (with_reducible refine (ha1 _).mono ?_); rintro _ _ ⟨rfl, x1, rfl⟩)
    | (go_at_call 73; (with_reducible refine (hld _ (hM0.later x1)).mono ?_); rintro _ W2 ⟨rfl, m2, n2, hM2⟩; have hP2 := (hP0.later x1).moved m2 (rSpan_not hp.symm hq.symm); have hV2 : Moved (fun b => rSpan p q b ∨ b = k) w W2 := (hV0.later x1).trans (m2.mono fun _ _ h => Or.inl h); have d3 : W2.cell? ⟨k, 3, none⟩ = some (.bool true) := hP2.at' 3 rfl; have d4 : W2.cell? ⟨k, 4, none⟩ = some (.int .i64 K.slot) := hP2.at' 4 rfl; have d5 : W2.cell? ⟨k, 5, none⟩ = some (.int .i64 K.next) := hP2.at' 5 rfl; have d6 : W2.cell? ⟨k, 6, none⟩ = some (.int .i64 K.word) := hP2.at' 6 rfl; have f4 := hP2.fz 4; have f5 := hP2.fz 5; have f6 := hP2.fz 6; clear m2)
    | (go_at_call 42; (with_reducible refine (hun _).mono ?_); rintro _ _ ⟨rfl, rfl⟩))
      go_ret3
      rw [E.out]
      exact ⟨rfl, (hV2.setCell _ _ (Or.inr rfl)).setCell _ _ (Or.inr rfl), ⟨n2, hM2.of_block (by simp) (by rw [Go.Deep.blk_setCell_other _ _ _ _ (by simpa using hp), Go.Deep.blk_setCell_other _ _ _ _ (by simpa using hp)]) (by rw [Go.Deep.blk_setCell_other _ _ _ _ (by simpa using hq), Go.Deep.blk_setCell_other _ _ _ _ (by simpa using hq)])⟩, (hP2.set 6 (by simp [refL]) _).set 5 (by simp [refL]) _⟩
end
end Go.Proofs.YtlidoicpfomfcaaDoor
