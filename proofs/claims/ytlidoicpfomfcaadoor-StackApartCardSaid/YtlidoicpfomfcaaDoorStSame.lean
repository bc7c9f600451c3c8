/-
  Whether both cells have the same words; the document's cells as they are at first; what is free, as the document tells it.
  Conditions: none but that both lie there; of a configuration that may be.
-/
import Derived.Test.YtlidoicpfomfcaaDoorStPair
import Derived.Deep.RegionHeld3
namespace Go.Proofs.YtlidoicpfomfcaaDoor
open Go.RowKit
attribute [local go_sem] Later.cell Later.frozen Later.lt Later.le
set_option linter.unusedVariables false

section
variable {w : World} {A : PAt} {bs ws : List Int} {p q : Nat} {bv : Value} {n m : Int}
/-- What is known all along. -/
structure SmS (A : PAt) (V : World) (p q : Nat) (bv : Value) (ws bs : List Int) (w' : World) : Prop where
  mem : ∃ n, Mem w' A ws bs n
  rm : ∃ n, RMem w' p q bv ws n
  tch : Touch A.lo A.hi V w'
theorem SmS.drew {V W : World} (h : SmS A V p q bv ws bs W) : SmS A V p q bv ws bs W.drew := ⟨h.mem.imp fun _ k => k.drew, h.rm.imp fun _ k => k.drew, h.tch.drew⟩
theorem SmS.turned {V W : World} (h : SmS A V p q bv ws bs W) (hp : A.hi ≤ p) (hq : A.hi ≤ q) (z : Turned A.lo A.hi W) {n : Int} (hm : Mem z.at' A ws bs n) : SmS A V p q bv ws bs z.at' :=
  ⟨⟨_, hm⟩, h.rm.imp fun _ k => k.of_block z.turn.size (z.turn.block p k.fp.lt (Or.inr hp)) (z.turn.block q k.lq (Or.inr hq)), h.tch.trans z.turn⟩
theorem smK {V W : World} {j : Nat} (hj : j < ws.length) (h : SmS A V p q bv ws bs W) : W.cell? ⟨p, 0, none⟩ = some (.slice (some ⟨q, 0, none⟩) ws.length ws.length) ∧ W.cell? ⟨q, j, none⟩ = some (.int .i64 (ws.getD j 0)) ∧ SmS A V p q bv ws bs W := by
  obtain ⟨n, k⟩ := h.rm
  exact ⟨k.fp.at' 0 rfl, k.row.cell hj, h⟩
theorem smL {V W : World} {a b : Prop} (h : a ∧ b ∧ SmS A V p q bv ws bs W) : SmS A V p q bv ws bs W := h.2.2

set_option maxHeartbeats 4000000 in
theorem same_any (hM : Mem w A ws bs n) (hR : RMem w p q bv ws m) (hp : A.hi ≤ p) (hq : A.hi ≤ q) :
    Calls Tryd.prog 16 #[.pointer (some ⟨A.p, 0, none⟩), .pointer (some ⟨p, 0, none⟩)] w fun e w' => e = .returned (.bool true) ∧ Touch A.lo A.hi w w' ∧ ∃ n, Mem w' A ws bs n := by
  have hS0 : SmS A w p q bv ws bs w := ⟨⟨_, hM⟩, ⟨_, hR⟩, Touch.refl _ _ _⟩
  have hml := hR.ml
  clear hM hR
  go_enter Tryd.func16, Tryd.ntmps16
  go_wp2_with fail
  go_loopw [5] (fun u wr => ∃ k : Nat, k ≤ ws.length ∧ u = .int .i64 k ∧ SmS A w p q bv ws bs wr) (fun u _ => (ws.length - intOf u).toNat)
  case atStart => exact ⟨0, by omega, rfl, hS0⟩
  case round =>
    obtain ⟨k, hk, rfl, hS⟩ := hrel
    have c0 : wr.cell? ⟨p, 0, none⟩ = some (.slice (some ⟨q, 0, none⟩) ws.length ws.length) := by
      obtain ⟨_, r⟩ := hS.rm
      exact r.fp.at' 0 rfl
    by_cases hkl : k < ws.length
    · have hi1 : (k : Int) < ws.length := by omega
      have hld : ∀ W, (∃ n, Mem W A ws bs n) → Calls Tryd.prog 35 #[.pointer (some ⟨A.p, 0, none⟩), .int .i64 k] W fun e w' => e = .returned (.int .i64 (ws.getD k 0)) ∧ ∃ m, ∃ z : Turned A.lo A.hi W, w' = z.at' ∧ Mem z.at' A ws bs m := fun W ⟨m, hm⟩ => by
        have := Load_any (k : Int) hm
        rw [atI_nat] at this
        exact this.mono fun _ _ ⟨he, z, hz, hm⟩ => ⟨he, _, z, hz, hm⟩
      have hsm := smK (j := k) hkl hS
      have hsd := smK (j := k) hkl hS.drew
      have hK := Lib.hid (show ∀ W, SmS A w p q bv ws bs W → _ from fun W h => smK (j := k) hkl h)
      generalize ws.getD k 0 = v at hld hsm hsd hK
      have e1 : (v != v) = false := by simp
      go_wp2_with fail
      go_region_held3 (fun w' => w'.cell? ⟨p, 0, none⟩ = some (.slice (some ⟨q, 0, none⟩) ws.length ws.length) ∧ w'.cell? ⟨q, k, none⟩ = some (.int .i64 v) ∧ SmS A w p q bv ws bs w') (first
        | exact hsm
        | exact hsd
        | assumption
        | exact hK.out _ ((smL ‹_ ∧ _›).turned hp hq _ (by assumption))) (first
        | (go_at_call 35; (with_reducible refine (hld _ (smL ‹_ ∧ _›).mem).mono ?_); rintro _ _ ⟨rfl, m, z, rfl, hmem⟩))
      all_goals
        rename_i hHeld
        have hS2 := smL hHeld
        clear hHeld
        go_wp2
        first
          | exact ⟨⟨k + 1, by omega, by go_num, hS2⟩, by simp [intOf]; omega⟩
          | (go_roundw
             case rel => exact ⟨k + 1, by omega, by go_num, hS2⟩
             case measure => simp [intOf]; omega)
    · clear hk
      go_wp2
      go_ret
      exact ⟨rfl, hS.tch, hS.mem⟩
end
end Go.Proofs.YtlidoicpfomfcaaDoor
