/-
  What the document's machines do in their second and third steps, and a step of one, whatever it has come to.
  Conditions: none but that the machine and such cells lie there, of a configuration that may be.
-/
import Derived.Test.YtlidoicpfomfcaaDoorRfMach
namespace Go.Proofs.YtlidoicpfomfcaaDoor
open Go.RowKit
attribute [local go_sem] Later.cell Later.frozen Later.lt Later.le
set_option linter.unusedVariables false

section
variable {w : World} {p q k : Nat} {bv : Value} {ws : List Int} {n : Int} {a s t : Int} {push : Bool} {K : Rc}
theorem RMem.set2 {j1 j2 : Nat} {u1 u2 : Value} (h : RMem w p q bv ws n) (hp : p ≠ k) (hq : q ≠ k) : RMem ((w.setCell ⟨k, j1, none⟩ u1).setCell ⟨k, j2, none⟩ u2) p q bv ws n :=
  h.of_block (by simp) (by rw [Go.Deep.blk_setCell_other _ _ _ _ (by simpa using hp), Go.Deep.blk_setCell_other _ _ _ _ (by simpa using hp)]) (by rw [Go.Deep.blk_setCell_other _ _ _ _ (by simpa using hq), Go.Deep.blk_setCell_other _ _ _ _ (by simpa using hq)])
theorem RMem.set1 {j1 : Nat} {u1 : Value} (h : RMem w p q bv ws n) (hp : p ≠ k) (hq : q ≠ k) : RMem (w.setCell ⟨k, j1, none⟩ u1) p q bv ws n :=
  h.of_block (by simp) (by rw [Go.Deep.blk_setCell_other _ _ _ _ (by simpa using hp)]) (by rw [Go.Deep.blk_setCell_other _ _ _ _ (by simpa using hq)])

set_option maxHeartbeats 8000000 in
/-- Step 2 of a Push. -/
theorem rSecond_push (pl l : Int) (hpe : partN t s K.slot 2 = pl) (hx : K.word ≤ 9223372036854775807) (h : mayC a s t = true) (hM : RMem w p q bv ws n) (hP : Fs w k (refL a s t true K)) (hp : p ≠ k) (hq : q ≠ k) :
    Calls Tryd.prog 56 #[.pointer (some ⟨k, 0, none⟩), .pointer (some ⟨p, 0, none⟩)] w (RRMach p q k bv w (.tuple #[.int .i64 (ref2 true pl l K ws).slot, .int .i64 (ref2 true pl l K ws).err, .bool (ref2 true pl l K ws).done]) (refL a s t true (ref2 true pl l K ws).k) (ref2 true pl l K ws).ws) := by
  have ha7 := fun W => at7 h K.slot W
  rw [hpe] at ha7
  have hsr := fun (W : World) (h : RMem W p q bv ws n) => rStore_any pl (pushL K.word K.slot) h
  have hpu := fun W => refPush_any K.word K.slot hx W
  have E := Lib.hid (show ref2 true pl l K ws = ⟨0, 0, false, { K with to := pushV K.word K.slot, next := 3 }, setI ws pl (pushL K.word K.slot)⟩ from if_pos rfl)
  have c0 : w.cell? ⟨k, 0, none⟩ = some (.int .i64 a) := hP.at' 0 rfl
  have c1 : w.cell? ⟨k, 1, none⟩ = some (.int .i64 s) := hP.at' 1 rfl
  have c2 : w.cell? ⟨k, 2, none⟩ = some (.int .i64 t) := hP.at' 2 rfl
  have c4 : w.cell? ⟨k, 4, none⟩ = some (.int .i64 K.slot) := hP.at' 4 rfl
  have hlt := hP.lt
  clear hpe h
  go_enter Tryd.func56, Tryd.ntmps56
  go_wp2_with fail
  refine wp_region_later (by kernel_rfl) (by kernel_rfl) ?_
  repeat (go_big_quiet_step (first | (go_at_call 43; exact later_of _ (ha7 _))))
  refine wpQuiet_nil ?_
  rintro _ ⟨x0, rfl⟩
  have hP0 := hP.later x0
  have hM0 := hM.later x0
  have hV0 : Moved (fun b => rSpan p q b ∨ b = k) w x0.at' := (Moved.refl _ _).later x0
  generalize x0.at' = W0 at *
  clear c0 c1 c2 c4 hlt hP hM x0
  have c3 : W0.cell? ⟨k, 3, none⟩ = some (.bool true) := hP0.at' 3 rfl
  have c4 : W0.cell? ⟨k, 4, none⟩ = some (.int .i64 K.slot) := hP0.at' 4 rfl
  have c6 : W0.cell? ⟨k, 6, none⟩ = some (.int .i64 K.word) := hP0.at' 6 rfl
  have hlt := hP0.lt
  go_wp2_with fail
  refine wp_region_later (by kernel_rfl) (by kernel_rfl) ?_
  repeat (go_big_quiet_step (first | (go_at_call 74; exact later_same _ (hpu _))))
  refine wpQuiet_nil ?_
  rintro _ ⟨x1, rfl⟩
  go_wp2_with (first
    | (go_at_call 14; (with_reducible refine (hsr _ (hM0.later x1)).mono ?_); rintro _ W2 ⟨rfl, m2, n2, hM2⟩; have hP2 := (hP0.later x1).moved m2 (rSpan_not hp.symm hq.symm); have hV2 : Moved (fun b => rSpan p q b ∨ b = k) w W2 := (hV0.later x1).trans (m2.mono fun _ _ h => Or.inl h); have d7 : W2.cell? ⟨k, 7, none⟩ = some (.int .i64 K.to) := hP2.at' 7 rfl; have d5 : W2.cell? ⟨k, 5, none⟩ = some (.int .i64 K.next) := hP2.at' 5 rfl; have f7 := hP2.fz 7; have f5 := hP2.fz 5; clear m2))
  go_ret3
  rw [E.out]
  exact ⟨rfl, (hV2.setCell _ _ (Or.inr rfl)).setCell _ _ (Or.inr rfl), ⟨n2, hM2.set2 hp hq⟩, (hP2.set 7 (by simp [refL]) _).set 5 (by simp [refL]) _⟩

theorem k6 {L : List Value} {v : Value} (h : Fs w k L) (hv : L[6]? = some v) : w.cell? ⟨k, 6, none⟩ = some v ∧ Fs w k L := ⟨h.at' 6 hv, h⟩
theorem k6' {L : List Value} {c : Prop} (h : c ∧ Fs w k L) : Fs w k L := h.2

set_option maxHeartbeats 8000000 in
/-- Step 2 of a Pop. -/
theorem rSecond_pop (pl l : Int) (hpe : partN t s K.slot 2 = pl) (hle : atI ws pl = l) (hx : K.word ≤ 9223372036854775807) (h : mayC a s t = true) (hM : RMem w p q bv ws n) (hP : Fs w k (refL a s t false K)) (hp : p ≠ k) (hq : q ≠ k) :
    Calls Tryd.prog 56 #[.pointer (some ⟨k, 0, none⟩), .pointer (some ⟨p, 0, none⟩)] w (RRMach p q k bv w (.tuple #[.int .i64 (ref2 false pl l K ws).slot, .int .i64 (ref2 false pl l K ws).err, .bool (ref2 false pl l K ws).done]) (refL a s t false (ref2 false pl l K ws).k) (ref2 false pl l K ws).ws) := by
  have ha7 := fun W => at7 h K.slot W
  rw [hpe] at ha7
  have hld := fun (W : World) (h : ∃ n, RMem W p q bv ws n) => (h.elim fun n h => rLoad_any pl h : Calls Tryd.prog 73 #[.pointer (some ⟨p, 0, none⟩), .int .i64 pl] W (RRet p q bv W (.int .i64 (atI ws pl)) ws))
  rw [hle] at hld
  have hpu := fun W => refPop_any K.word l hx W
  have c0 : w.cell? ⟨k, 0, none⟩ = some (.int .i64 a) := hP.at' 0 rfl
  have c1 : w.cell? ⟨k, 1, none⟩ = some (.int .i64 s) := hP.at' 1 rfl
  have c2 : w.cell? ⟨k, 2, none⟩ = some (.int .i64 t) := hP.at' 2 rfl
  have c4 : w.cell? ⟨k, 4, none⟩ = some (.int .i64 K.slot) := hP.at' 4 rfl
  have hlt := hP.lt
  clear hpe h hle
  go_enter Tryd.func56, Tryd.ntmps56
  go_wp2_with fail
  refine wp_region_later (by kernel_rfl) (by kernel_rfl) ?_
  repeat (go_big_quiet_step (first | (go_at_call 43; exact later_of _ (ha7 _))))
  refine wpQuiet_nil ?_
  rintro _ ⟨x0, rfl⟩
  have hP0 := hP.later x0
  have hM0 := hM.later x0
  have hV0 : Moved (fun b => rSpan p q b ∨ b = k) w x0.at' := (Moved.refl _ _).later x0
  generalize x0.at' = W0 at *
  clear c0 c1 c2 c4 hlt hP hM x0
  have c3 : W0.cell? ⟨k, 3, none⟩ = some (.bool false) := hP0.at' 3 rfl
  have hnk := rSpan_not (p := p) (q := q) (b := k) hp.symm hq.symm
  go_wp2_with fail
  go_region_held3 (fun w' => w'.cell? ⟨k, 6, none⟩ = some (.int .i64 K.word) ∧ Fs w' k (refL a s t false K)) (first
    | exact k6 hP0 rfl
    | exact k6 hP0.drew rfl
    | assumption
    | exact k6 ((k6' ‹_ ∧ _›).moved (by assumption) hnk) rfl) (first
    | (go_at_call 73; (with_reducible refine (hld _ ⟨_, hM0.drew⟩).mono ?_); rintro _ W2 ⟨rfl, m2, n2, hM2⟩)
    | (go_at_call 75; (with_reducible refine (hpu _).mono ?_); rintro _ _ ⟨rfl, rfl⟩))
  all_goals
    rename_i hHeld
    have hP2 := k6' hHeld
    clear hHeld
    have hV2 : Moved (fun b => rSpan p q b ∨ b = k) w W2 := (hV0.drew).trans (m2.mono fun _ _ h => Or.inl h)
    have d7 : W2.cell? ⟨k, 7, none⟩ = some (.int .i64 K.to) := hP2.at' 7 rfl
    have d5 : W2.cell? ⟨k, 5, none⟩ = some (.int .i64 K.next) := hP2.at' 5 rfl
    have f7 := hP2.fz 7
    have f5 := hP2.fz 5
    clear m2 hld hpu ha7 hM0 hP0 c3
    by_cases h0 : popE K.word l = 0
    · have E := Lib.hid (show ref2 false pl l K ws = ⟨0, 0, false, { K with to := popV K.word l, next := 3 }, ws⟩ from by unfold ref2; rw [if_neg (by decide), if_pos h0])
      rw [h0]
      clear h0
      go_wp2_with fail
      go_ret3
      rw [E.out]
      exact ⟨rfl, (hV2.setCell _ _ (Or.inr rfl)).setCell _ _ (Or.inr rfl), ⟨n2, hM2.set2 hp hq⟩, (hP2.set 7 (by simp [refL]) _).set 5 (by simp [refL]) _⟩
    · have E := Lib.hid (show ref2 false pl l K ws = ⟨0, 2, true, { K with next := 0 }, ws⟩ from by unfold ref2; rw [if_neg (by decide), if_neg h0])
      have hdd : decide (popE K.word l = 0) = false := decide_eq_false h0
      generalize popE K.word l = pe at h0 hdd ⊢
      go_wp2_with (go_at_call 58; (with_reducible refine (rEnd_any 0 2 hP2 _ rfl).mono ?_); rintro _ _ ⟨rfl, rfl⟩)
      go_ret3
      rw [E.out]
      exact ⟨rfl, hV2.setCell _ _ (Or.inr rfl), ⟨n2, hM2.set1 hp hq⟩, hP2.set 5 (by simp [refL]) _⟩
end
end Go.Proofs.YtlidoicpfomfcaaDoor
