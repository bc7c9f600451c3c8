/-
  A step of the document's machine, whatever it has come to.
  Conditions: none but that the machine and such cells lie there, of a configuration that may be.
-/
import Derived.Test.YtlidoicpfomfcaaDoorRfMachB
namespace Go.Proofs.YtlidoicpfomfcaaDoor
open Go.RowKit
attribute [local go_sem] Later.cell Later.frozen Later.lt Later.le
set_option linter.unusedVariables false

section
variable {w : World} {p q k : Nat} {bv : Value} {ws : List Int} {n : Int} {a s t : Int} {push : Bool} {K : Rc}
theorem k5 (h : Fs w k (refL a s t push K)) : w.cell? ⟨k, 0, none⟩ = some (.int .i64 a) ∧ w.cell? ⟨k, 1, none⟩ = some (.int .i64 s) ∧ w.cell? ⟨k, 2, none⟩ = some (.int .i64 t) ∧ w.cell? ⟨k, 6, none⟩ = some (.int .i64 K.word) ∧ w.cell? ⟨k, 7, none⟩ = some (.int .i64 K.to) ∧ Fs w k (refL a s t push K) :=
  ⟨h.at' 0 rfl, h.at' 1 rfl, h.at' 2 rfl, h.at' 6 rfl, h.at' 7 rfl, h⟩
theorem k5' {L : List Value} {c1 c2 c3 c4 c5 : Prop} (h : c1 ∧ c2 ∧ c3 ∧ c4 ∧ c5 ∧ Fs w k L) : Fs w k L := h.2.2.2.2.2

set_option maxHeartbeats 8000000 in
theorem rThird_any (h : mayC a s t = true) (hn : K.next = 3) (hM : RMem w p q bv ws n) (hP : Fs w k (refL a s t push K)) (hp : p ≠ k) (hq : q ≠ k) :
    Calls Tryd.prog 34 #[.pointer (some ⟨k, 0, none⟩), .pointer (some ⟨p, 0, none⟩)] w (RRMach p q k bv w (.tuple #[.int .i64 (ref3 push K ws).slot, .int .i64 (ref3 push K ws).err, .bool (ref3 push K ws).done]) (refL a s t push (ref3 push K ws).k) (ref3 push K ws).ws) := by
  have ha1 := fun W => at1 h W
  have hcs := fun (W : World) (h : ∃ n, RMem W p q bv ws n) => (h.elim fun n h => rCas_any 1 K.word K.to h : Calls Tryd.prog 57 #[.pointer (some ⟨p, 0, none⟩), .int .i64 1, .int .i64 K.word, .int .i64 K.to] W (RRet p q bv W (.bool (casB ws 1 K.word)) (casW ws 1 K.word K.to)))
  have E := Lib.hid (show ref3 push K ws = if casB ws 1 K.word then ⟨if push then 0 else K.slot, 0, true, { K with next := 0 }, casW ws 1 K.word K.to⟩ else ⟨0, 0, false, { K with next := 1 }, casW ws 1 K.word K.to⟩ from by
    unfold ref3
    by_cases h : casB ws 1 K.word = true
    · rw [if_pos h, if_pos h]
    · rw [if_neg h, if_neg h, casW_no (by simpa using h)])
  generalize casW ws 1 K.word K.to = ws' at hcs E
  generalize casB ws 1 K.word = b at hcs E
  have c5 : w.cell? ⟨k, 5, none⟩ = some (.int .i64 3) := hn ▸ hP.at' 5 rfl
  have hnk := rSpan_not (p := p) (q := q) (b := k) hp.symm hq.symm
  have hMd := hM.drew
  clear h
  go_enter Tryd.func34, Tryd.ntmps34
  go_wp2_with fail
  go_region_held3 (fun w' => w'.cell? ⟨k, 0, none⟩ = some (.int .i64 a) ∧ w'.cell? ⟨k, 1, none⟩ = some (.int .i64 s) ∧ w'.cell? ⟨k, 2, none⟩ = some (.int .i64 t) ∧ w'.cell? ⟨k, 6, none⟩ = some (.int .i64 K.word) ∧ w'.cell? ⟨k, 7, none⟩ = some (.int .i64 K.to) ∧ Fs w' k (refL a s t push K)) (first
    | exact k5 hP
    | exact k5 hP.drew
    | assumption
    | exact k5 ((k5' ‹_ ∧ _›).later _)
    | exact k5 ((k5' ‹_ ∧ _›).moved (by assumption) hnk)) (first
    | (go_at_call 43; (with_reducible refine (ha1 _).mono ?_); rintro _ _ ⟨rfl, y, rfl⟩)
    | (go_at_call 57; (with_reducible refine (hcs _ ⟨_, hMd.later y⟩).mono ?_); rintro _ W2 ⟨rfl, m2, n2, hM2⟩))
  all_goals
    rename_i hHeld
    have hP2 := k5' hHeld
    clear hHeld
    have hV2 : Moved (fun b => rSpan p q b ∨ b = k) w W2 := (((Moved.refl _ _).drew).later y).trans (m2.mono fun _ _ h => Or.inl h)
    have d3 : W2.cell? ⟨k, 3, none⟩ = some (.bool push) := hP2.at' 3 rfl
    have d4 : W2.cell? ⟨k, 4, none⟩ = some (.int .i64 K.slot) := hP2.at' 4 rfl
    have d5 : W2.cell? ⟨k, 5, none⟩ = some (.int .i64 K.next) := hP2.at' 5 rfl
    have f5 := hP2.fz 5
    clear m2 hcs ha1 hMd y c5
    cases b
    · go_wp2_with fail
      go_ret3
      rw [E.out]
      exact ⟨rfl, hV2.setCell _ _ (Or.inr rfl), ⟨n2, hM2.set1 hp hq⟩, hP2.set 5 (by simp [refL]) _⟩
    · cases push
      · go_wp2_with (go_at_call 58; (with_reducible refine (rEnd_any K.slot 0 hP2 _ rfl).mono ?_); rintro _ _ ⟨rfl, rfl⟩)
        go_ret3
        rw [E.out]
        exact ⟨rfl, hV2.setCell _ _ (Or.inr rfl), ⟨n2, hM2.set1 hp hq⟩, hP2.set 5 (by simp [refL]) _⟩
      · go_wp2_with (go_at_call 58; (with_reducible refine (rEnd_any 0 0 hP2 _ rfl).mono ?_); rintro _ _ ⟨rfl, rfl⟩)
        go_ret3
        rw [E.out]
        exact ⟨rfl, hV2.setCell _ _ (Or.inr rfl), ⟨n2, hM2.set1 hp hq⟩, hP2.set 5 (by simp [refL]) _⟩

theorem refO_1 (h : K.next = 1) : refO push t s K ws = ref1 push (atI ws 1) (partN t s K.slot 2) K ws := if_pos h
theorem refO_2 (h : K.next = 2) : refO push t s K ws = ref2 push (partN t s K.slot 2) (atI ws (partN t s K.slot 2)) K ws := by unfold refO; rw [if_neg (by omega), if_pos h]
theorem refO_3 (h : K.next = 3) : refO push t s K ws = ref3 push K ws := by unfold refO; rw [if_neg (by omega), if_neg (by omega), if_pos h]
theorem refO_0 (h1 : K.next ≠ 1) (h2 : K.next ≠ 2) (h3 : K.next ≠ 3) : refO push t s K ws = ⟨0, 1, true, K, ws⟩ := by unfold refO; rw [if_neg h1, if_neg h2, if_neg h3]

theorem rStep_any (h : mayC a s t = true) (hx : atI ws 1 ≤ 9223372036854775807) (hw : K.word ≤ 9223372036854775807) (hM : RMem w p q bv ws n) (hP : Fs w k (refL a s t push K)) (hp : p ≠ k) (hq : q ≠ k) :
    Calls Tryd.prog 34 #[.pointer (some ⟨k, 0, none⟩), .pointer (some ⟨p, 0, none⟩)] w (RRMach p q k bv w (.tuple #[.int .i64 (refO push t s K ws).slot, .int .i64 (refO push t s K ws).err, .bool (refO push t s K ws).done]) (refL a s t push (refO push t s K ws).k) (refO push t s K ws).ws) := by
  have c5 : w.cell? ⟨k, 5, none⟩ = some (.int .i64 K.next) := hP.at' 5 rfl
  by_cases h1 : K.next = 1
  · rw [refO_1 h1]
    have hc : Calls Tryd.prog 55 #[.pointer (some ⟨k, 0, none⟩), .pointer (some ⟨p, 0, none⟩)] w (RRMach p q k bv w (.tuple #[.int .i64 (ref1 push (atI ws 1) (partN t s K.slot 2) K ws).slot, .int .i64 (ref1 push (atI ws 1) (partN t s K.slot 2) K ws).err, .bool (ref1 push (atI ws 1) (partN t s K.slot 2) K ws).done]) (refL a s t push (ref1 push (atI ws 1) (partN t s K.slot 2) K ws).k) (ref1 push (atI ws 1) (partN t s K.slot 2) K ws).ws) := by
      cases push
      · exact rFirst_pop _ _ rfl hx h hM hP hp hq
      · exact rFirst_push _ _ rfl rfl hx h hM hP hp hq
    rw [h1] at c5
    generalize ref1 push (atI ws 1) (partN t s K.slot 2) K ws = o at hc ⊢
    clear hP hM h1
    go_enter Tryd.func34, Tryd.ntmps34
    go_wp2_with (go_at_call 55; (with_reducible refine hc.mono ?_); rintro _ w1 ⟨rfl, hV, hM1, hP1⟩)
    go_ret3
    exact ⟨rfl, hV, hM1, hP1⟩
  · by_cases h2 : K.next = 2
    · rw [refO_2 h2]
      have hc : Calls Tryd.prog 56 #[.pointer (some ⟨k, 0, none⟩), .pointer (some ⟨p, 0, none⟩)] w (RRMach p q k bv w (.tuple #[.int .i64 (ref2 push (partN t s K.slot 2) (atI ws (partN t s K.slot 2)) K ws).slot, .int .i64 (ref2 push (partN t s K.slot 2) (atI ws (partN t s K.slot 2)) K ws).err, .bool (ref2 push (partN t s K.slot 2) (atI ws (partN t s K.slot 2)) K ws).done]) (refL a s t push (ref2 push (partN t s K.slot 2) (atI ws (partN t s K.slot 2)) K ws).k) (ref2 push (partN t s K.slot 2) (atI ws (partN t s K.slot 2)) K ws).ws) := by
        cases push
        · exact rSecond_pop _ _ rfl rfl hw h hM hP hp hq
        · exact rSecond_push _ _ rfl hw h hM hP hp hq
      rw [h2] at c5
      generalize ref2 push (partN t s K.slot 2) (atI ws (partN t s K.slot 2)) K ws = o at hc ⊢
      clear hP hM h1 h2
      go_enter Tryd.func34, Tryd.ntmps34
      go_wp2_with (go_at_call 56; (with_reducible refine hc.mono ?_); rintro _ w1 ⟨rfl, hV, hM1, hP1⟩)
      go_ret3
      exact ⟨rfl, hV, hM1, hP1⟩
    · by_cases h3 : K.next = 3
      · rw [refO_3 h3]
        exact rThird_any h h3 hM hP hp hq
      · rw [refO_0 h1 h2 h3]
        have hd1 : decide (K.next = 1) = false := decide_eq_false h1
        have hd2 : decide (K.next = 2) = false := decide_eq_false h2
        have hd3 : decide (K.next = 3) = false := decide_eq_false h3
        have hM1 : ∃ n, RMem w p q bv ws n := ⟨n, hM⟩
        clear hM
        go_enter Tryd.func34, Tryd.ntmps34
        go_wp2
        go_ret3
        exact ⟨rfl, Moved.refl _ _, hM1, hP⟩
end
end Go.Proofs.YtlidoicpfomfcaaDoor
