/-
  What the document's own functions answer for layer 3.
  Conditions: none.
-/
import Derived.Test.YtnojemmpgaibkaaDoorProg
import Derived.Test.YtnojemmpgaibkaaDoorLater
import Derived.Test.YtnojemmpgaibkaaDoorHandleMath
import Derived.WalkSpells
import Derived.WalkLawsBesides
import Derived.Lib.Hide
import Derived.BigQuiet
import Derived.LoopTactic
namespace Go.Proofs.YtnojemmpgaibkaaDoor
open Go.RowKit
attribute [local go_sem] Later.cell Later.frozen Later.lt Later.le

theorem ret_two {k : IntKind} {a b c d : Int} (h : a = b) (h' : c = d) : Ending.returned (.tuple #[.int k a, .int k c]) = .returned (.tuple #[.int k b, .int k d]) := by rw [h, h']
theorem ret_three {k : IntKind} {a b c d e f : Int} (h : a = b) (h' : c = d) (h'' : e = f) : Ending.returned (.tuple #[.int k a, .int k c, .int k e]) = .returned (.tuple #[.int k b, .int k d, .int k f]) := by rw [h, h', h'']
theorem ret_split {k : IntKind} {a b c d : Int} {e f : Bool} (h : a = b) (h' : c = d) (h'' : e = f) : Ending.returned (.tuple #[.int k a, .int k c, .bool e]) = .returned (.tuple #[.int k b, .int k d, .bool f]) := by rw [h, h', h'']

theorem refMake_any (s g : Int) (w : World) : Calls Tryd.prog 96 #[.int .i64 s, .int .i64 g] w fun e w' => e = .returned (.tuple #[.int .i64 (mkV s g), .int .i64 (mkE s g)]) ∧ w = w' := by
  by_cases h : 0 ≤ s ∧ s ≤ 63 ∧ 0 ≤ g ∧ g ≤ 1000
  · have k := mkP_true h
    rw [mkV_ok k, mkE_ok k]
    obtain ⟨h1, h2, h3, h4⟩ := h
    clear k
    go_enter Tryd.func96, Tryd.ntmps96
    go_wp2
    go_ret2
    exact ⟨ret_two (by omega) rfl, rfl⟩
  · have k := mkP_false h
    rw [mkV_bad k, mkE_bad k]
    clear k
    by_cases h1 : s < 0
    · go_enter Tryd.func96, Tryd.ntmps96
      go_wp2
      go_ret2
      exact ⟨rfl, rfl⟩
    · by_cases h2 : 63 < s
      · go_enter Tryd.func96, Tryd.ntmps96
        go_wp2
        go_ret2
        exact ⟨rfl, rfl⟩
      · by_cases h3 : g < 0
        · go_enter Tryd.func96, Tryd.ntmps96
          go_wp2
          go_ret2
          exact ⟨rfl, rfl⟩
        · have h4 : 1000 < g := by omega
          go_enter Tryd.func96, Tryd.ntmps96
          go_wp2
          go_ret2
          exact ⟨rfl, rfl⟩

/-- No generation below k is the number's. -/
def NotYet (h k : Int) : Prop := isH h = true → k ≤ genOf h
theorem here {h k : Int} (k0 : 0 ≤ k) (k1 : k ≤ 1000) (a : k * 1048576 + 1099511627776 ≤ h) (b : h ≤ k * 1048576 + 1099511627776 + 63) : isH h = true ∧ slotOf h = h - (k * 1048576 + 1099511627776) ∧ genOf h = k := by
  have e1 : slotOf h = h - (k * 1048576 + 1099511627776) := by unfold slotOf; omega
  have e2 : genOf h = k := by unfold genOf; omega
  refine ⟨?_, e1, e2⟩
  simp only [isH, e1, e2, decide_eq_true_eq]
  omega
theorem not_here {h k : Int} (hn : NotYet h k) (c : ¬ (k * 1048576 + 1099511627776 ≤ h ∧ h ≤ k * 1048576 + 1099511627776 + 63)) : NotYet h (k + 1) := fun hi => by
  have h1 := hn hi
  obtain ⟨a, b, d⟩ := isH_of hi
  by_cases e : genOf h = k
  · exfalso
    apply c
    unfold slotOf at b
    unfold genOf at e
    omega
  · omega
theorem never {h : Int} (hn : NotYet h 1001) : isH h = false := by
  cases hi : isH h
  · rfl
  · have := hn hi
    have := (isH_of hi).2.2
    omega

theorem refMake_at {k : Int} (k0 : 0 ≤ k) (k1 : k ≤ 1000) (w : World) : Calls Tryd.prog 96 #[.int .i64 0, .int .i64 k] w fun e w' => e = .returned (.tuple #[.int .i64 (k * 1048576 + 1099511627776), .int .i64 (0)]) ∧ w = w' := by
  have hp : mkP 0 k = true := mkP_true ⟨by decide, by decide, k0, k1⟩
  have h := refMake_any 0 k w
  rw [mkV_ok hp, mkE_ok hp] at h
  simpa using h

theorem refSplit_any (h : Int) (w : World) : Calls Tryd.prog 78 #[.int .i64 h] w fun e w' => e = .returned (.tuple #[.int .i64 (spS h), .int .i64 (spG h), .bool (isH h)]) ∧ w = w' := by
  go_enter Tryd.func78, Tryd.ntmps78
  go_wp2
  go_loop [5] (fun i => ∃ k : Int, 0 ≤ k ∧ k ≤ 1001 ∧ i = .int .i64 k ∧ NotYet h k) (fun i => (1001 - intOf i).toNat)
  case atStart => exact ⟨0, by omega, by omega, rfl, fun hi => by have := (isH_of hi).1; unfold genOf; omega⟩
  case round =>
    obtain ⟨k, k0, k1, rfl, hn⟩ := hrel
    by_cases hk : k ≤ 1000
    · by_cases ha : k * 1048576 + 1099511627776 ≤ h
      · by_cases hb : h ≤ k * 1048576 + 1099511627776 + 63
        · obtain ⟨e1, e2, e3⟩ := here k0 hk ha hb
          have E1 := Lib.hid ((spS_ok e1).trans e2)
          have E2 := Lib.hid ((spG_ok e1).trans e3)
          have E3 := Lib.hid e1
          clear e1 e2 e3
          go_wp2_with (go_at_call 96; (with_reducible refine (refMake_at k0 hk _).mono ?_); rintro _ _ ⟨rfl, rfl⟩)
          go_ret3
          exact ⟨ret_split E1.out.symm E2.out.symm E3.out.symm, rfl⟩
        · have hn' := not_here hn (fun c => hb c.2)
          go_wp2_with (go_at_call 96; (with_reducible refine (refMake_at k0 hk _).mono ?_); rintro _ _ ⟨rfl, rfl⟩)
          go_round
          case rel => exact ⟨k + 1, by omega, by omega, rfl, hn'⟩
          case measure => simp [intOf]; omega
      · have hn' := not_here hn (fun c => ha c.1)
        go_wp2_with (go_at_call 96; (with_reducible refine (refMake_at k0 hk _).mono ?_); rintro _ _ ⟨rfl, rfl⟩)
        go_round
        case rel => exact ⟨k + 1, by omega, by omega, rfl, hn'⟩
        case measure => simp [intOf]; omega
    · obtain rfl : k = 1001 := by omega
      have e := never hn
      have E1 := Lib.hid (spS_bad e)
      have E2 := Lib.hid (spG_bad e)
      have E3 := Lib.hid e
      clear e
      go_wp2
      go_ret3
      exact ⟨ret_split E1.out.symm E2.out.symm E3.out.symm, rfl⟩

end Go.Proofs.YtnojemmpgaibkaaDoor
