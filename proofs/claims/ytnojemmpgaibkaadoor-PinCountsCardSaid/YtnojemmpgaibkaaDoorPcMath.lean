/-
  Machines that pin and unpin one object: no count is lost.
  Conditions: none; plain lemmas.
-/
import Derived.Test.YtnojemmpgaibkaaDoorPbMath
namespace Go.Proofs.YtnojemmpgaibkaaDoor
open Go.RowKit
set_option linter.unusedVariables false
set_option linter.unusedSimpArgs false

/-- The word of the object with p pins. -/
def wP (p : Int) : Int := eW 0 0 p 0
theorem wP_ev {p : Int} (h0 : 0 ≤ p) (h7 : p ≤ 7) : EV 0 0 p 0 := ⟨by decide, by decide, by decide, by decide, h0, h7, by decide, by decide⟩
theorem wP_inj {p q : Int} : wP p = wP q ↔ p = q := by
  unfold wP eW En.word bitI
  simp
  omega
theorem wP_0 : wP 0 = 562949953421312 := by decide +kernel
theorem pa_over' {o g q : Int} (hv : EV o g 7 q) : turnC false (eW o g 7 q) = 7 := by
  have hl : (unp (eW o g 7 q)).lv = true := by rw [hv.unp]
  show pinC _ = 7
  unfold pinC
  rw [hv.unp]
  exact chE_err hv.uok hl rfl
theorem pa_none' {o g q : Int} (hv : EV o g 0 q) : turnC true (eW o g 0 q) = 8 := by
  have hl : (unp (eW o g 0 q)).lv = true := by rw [hv.unp]
  show unpinC _ = 8
  unfold unpinC
  rw [hv.unp]
  exact chE_err hv.uok hl rfl
theorem pmT_end {M X : Pm} {c : Int} (h : M.step ≠ 0) : pmT M (pmEnd c X) = (c, true) := by
  unfold pmT pmEnd
  rw [if_neg h]
  simp
theorem pmT_go {M X : Pm} (h : M.step ≠ 0) (k : X.step ≠ 0) : pmT M X = (0, false) := by
  unfold pmT
  rw [if_neg h, if_neg k]
/-- A machine under way. -/
structure Pi (M : Pm) : Prop where
  kn : M.kn = true
  sl : M.slot = 0
  ge : M.gen = 0
  st : M.step = 1 ∨ M.step = 2
  s2 : M.step = 2 → ∃ q, M.word = wP q ∧ ((M.un = true ∧ 1 ≤ q ∧ q ≤ 7 ∧ M.nx = wP (q - 1)) ∨ (M.un = false ∧ 0 ≤ q ∧ q ≤ 6 ∧ M.nx = wP (q + 1)))
/-- What a step comes to. -/
def PcOut (M M' : Pm) (p : Int) (ws' : List Int) (c : Int) (d : Bool) : Prop :=
  (d = false ∧ c = 0 ∧ ws' = wpX (wP p) ∧ Pi M' ∧ M'.un = M.un) ∨ (d = true ∧ ¬ c = 0 ∧ ws' = wpX (wP p)) ∨ (d = true ∧ c = 0 ∧ M.un = true ∧ 1 ≤ p ∧ ws' = wpX (wP (p - 1))) ∨ (d = true ∧ c = 0 ∧ M.un = false ∧ p ≤ 6 ∧ ws' = wpX (wP (p + 1)))
theorem pc_step {M : Pm} {p : Int} (h : Pi M) (h0 : 0 ≤ p) (h7 : p ≤ 7) : PcOut M (pmO 1 1 M (wpX (wP p))) p (pmW 1 1 M (wpX (wP p))) (pmT M (pmO 1 1 M (wpX (wP p)))).1 (pmT M (pmO 1 1 M (wpX (wP p)))).2 := by
  obtain ⟨kn, sl, ge, st, s2⟩ := h
  have hv := wP_ev h0 h7
  have hat := (wpX_cas (wP p) 0).1
  have hown : ownB (wP p) 0 = true := hv.own
  have hup : upV (wP p) = ⟨0, 0, p, 0, false, true⟩ := hv.up
  rcases st with e | e
  · rw [(pmO_1 e).1, (pmO_1 e).2, sl, hat]
    have hE : pm1 (wP p) M = if turnC M.un (wP p) = 0 then { M with word := wP p, nx := turnV M.un (wP p), step := 2 } else pmEnd (turnC M.un (wP p)) { M with word := wP p } := by
      unfold pm1
      rw [if_pos kn, ge, if_pos hown, hup]
      simp
    rw [hE]
    cases hu : M.un
    · by_cases hp : p = 7
      · subst hp
        have ht : turnC false (wP 7) = 7 := pa_over' hv
        rw [ht, if_neg (by decide)]
        rw [pmT_end (by omega)]
        exact Or.inr (Or.inl ⟨rfl, by decide, rfl⟩)
      · have ht := hv.pin (by omega)
        change turnV false (wP p) = wP (p + 1) ∧ turnC false (wP p) = 0 at ht
        rw [ht.1, ht.2, if_pos rfl]
        rw [pmT_go (by omega) (by simp)]
        exact Or.inl ⟨rfl, rfl, rfl, ⟨kn, sl, ge, Or.inr rfl, fun _ => ⟨p, rfl, Or.inr ⟨rfl, h0, by omega, rfl⟩⟩⟩, hu.symm⟩
    · by_cases hp : p = 0
      · subst hp
        have ht : turnC true (wP 0) = 8 := pa_none' hv
        rw [ht, if_neg (by decide)]
        rw [pmT_end (by omega)]
        exact Or.inr (Or.inl ⟨rfl, by decide, rfl⟩)
      · have ht := hv.unpin (by omega)
        change turnV true (wP p) = wP (p - 1) ∧ turnC true (wP p) = 0 at ht
        rw [ht.1, ht.2, if_pos rfl]
        rw [pmT_go (by omega) (by simp)]
        exact Or.inl ⟨rfl, rfl, rfl, ⟨kn, sl, ge, Or.inr rfl, fun _ => ⟨p, rfl, Or.inl ⟨rfl, by omega, h7, rfl⟩⟩⟩, hu.symm⟩
  · rw [(pmO_2 e).1, (pmO_2 e).2, sl]
    obtain ⟨q, hw, hq⟩ := s2 e
    by_cases hpq : q = p
    · subst hpq
      have hc := (wpX_cas (wP q) M.nx).2
      rw [hw, hc.1, hc.2]
      rw [show pm2 true M = pmEnd 0 M from rfl, pmT_end (by omega)]
      rcases hq with ⟨hu, q0, q1, hn⟩ | ⟨hu, q0, q1, hn⟩
      · exact Or.inr (Or.inr (Or.inl ⟨rfl, rfl, hu, q0, by rw [hn]⟩))
      · exact Or.inr (Or.inr (Or.inr ⟨rfl, rfl, hu, q1, by rw [hn]⟩))
    · have hc : casB (wpX (wP p)) (partN 1 1 0 0) M.word = false := by
        rw [show partN 1 1 0 0 = 5 from by decide]
        unfold casB
        rw [show inI (wpX (wP p)) 5 = true from rfl, show atI (wpX (wP p)) 5 = wP p from rfl, hw]
        simp [wP_inj]
        omega
      rw [casW_no hc, hc]
      rw [show pm2 false M = { M with step := 1 } from rfl, pmT_go (by omega) (by simp)]
      exact Or.inl ⟨rfl, rfl, rfl, ⟨kn, sl, ge, Or.inl rfl, fun k => by simp at k⟩, rfl⟩
theorem pi_new (un : Bool) : Pi ⟨true, 0, 0, un, 1, 0, 0, 0⟩ := ⟨rfl, rfl, rfl, Or.inl rfl, fun k => by simp at k⟩
end Go.Proofs.YtnojemmpgaibkaaDoor
