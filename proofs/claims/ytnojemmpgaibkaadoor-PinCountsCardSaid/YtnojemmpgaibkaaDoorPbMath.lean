/-
  What a machine that pins, or unpins, does alone to an entry that is live and not locked.
  Conditions: none; plain lemmas.
-/
import Derived.Test.YtnojemmpgaibkaaDoorPnLive
namespace Go.Proofs.YtnojemmpgaibkaaDoor
open Go.RowKit
set_option linter.unusedVariables false
set_option linter.unusedSimpArgs false

section
variable {t s : Int} {ws ws' : List Int} {M M' : Pm} {f i : Nat}
theorem pm_go (hO : pmO t s M ws = M') (hW : pmW t s M ws = ws') (h0 : M.step ≠ 0) (h1 : M'.step ≠ 0) : pmRun t s (f + 1) i M ws = pmRun t s f (i + 1) M' ws' := by
  have hT : pmT M M' = (0, false) := by unfold pmT; rw [if_neg h0, if_neg h1]
  show (if (pmT M (pmO t s M ws)).2 then (⟨(pmT M (pmO t s M ws)).1, i + 1, pmO t s M ws, pmW t s M ws⟩ : Pr) else pmRun t s f (i + 1) (pmO t s M ws) (pmW t s M ws)) = _
  rw [hO, hW, hT]
  rfl
theorem pm_end (hO : pmO t s M ws = M') (hW : pmW t s M ws = ws') (h0 : M.step ≠ 0) (h1 : M'.step = 0) : pmRun t s (f + 1) i M ws = ⟨M'.code, i + 1, M', ws'⟩ := by
  have hT : pmT M M' = (M'.code, true) := by unfold pmT; rw [if_neg h0, if_pos h1]
  show (if (pmT M (pmO t s M ws)).2 then (⟨(pmT M (pmO t s M ws)).1, i + 1, pmO t s M ws, pmW t s M ws⟩ : Pr) else pmRun t s f (i + 1) (pmO t s M ws) (pmW t s M ws)) = _
  rw [hO, hW, hT]
  rfl
end
/-- The word of a live entry that is not locked. -/
def eW (o g p q : Int) : Int := En.word ⟨o, g, p, q, false, true⟩
structure EV (o g p q : Int) : Prop where
  o0 : 0 ≤ o
  o1 : o ≤ 4096
  g0 : 0 ≤ g
  g1 : g ≤ 1000
  p0 : 0 ≤ p
  p1 : p ≤ 7
  q0 : 0 ≤ q
  q1 : q ≤ 15
section
variable {o g p q : Int}
theorem EV.may (h : EV o g p q) : En.may ⟨o, g, p, q, false, true⟩ = true := may_live ⟨h.g0, h.g1⟩ ⟨h.o0, h.o1⟩ ⟨h.p0, h.p1⟩ ⟨h.q0, h.q1⟩
theorem EV.unp (h : EV o g p q) : unp (eW o g p q) = ⟨o, g, p, q, false, true⟩ := unp_word h.may
theorem EV.uok (h : EV o g p q) : uok (eW o g p q) = true := uok_word h.may
theorem EV.up (h : EV o g p q) : upV (eW o g p q) = ⟨o, g, p, q, false, true⟩ := by rw [upV_ok h.uok, h.unp]
theorem EV.own (h : EV o g p q) : ownB (eW o g p q) g = true := by
  unfold ownB
  rw [upE_ok h.uok, h.up]
  simp
theorem EV.pin (h : EV o g p q) (h7 : p < 7) : turnV false (eW o g p q) = eW o g (p + 1) q ∧ turnC false (eW o g p q) = 0 := by
  have hl : (Go.Proofs.YtnojemmpgaibkaaDoor.unp (eW o g p q)).lv = true := by rw [h.unp]
  have he : pinE ⟨o, g, p, q, false, true⟩ = 0 := by unfold pinE; rw [if_neg (fun k => by cases k), if_neg (by simp; omega)]
  have hm : En.may ⟨o, g, p + 1, q, false, true⟩ = true := may_live ⟨h.g0, h.g1⟩ ⟨h.o0, h.o1⟩ ⟨by have := h.p0; omega, by omega⟩ ⟨h.q0, h.q1⟩
  show pinV _ = _ ∧ pinC _ = _
  unfold pinV pinC
  rw [h.unp, he, chV_ok h.uok hl, chE_ok h.uok hl]
  exact ⟨packV_ok hm, packE_ok hm⟩
theorem EV.unpin (h : EV o g p q) (h0 : 0 < p) : turnV true (eW o g p q) = eW o g (p - 1) q ∧ turnC true (eW o g p q) = 0 := by
  have hl : (Go.Proofs.YtnojemmpgaibkaaDoor.unp (eW o g p q)).lv = true := by rw [h.unp]
  have he : unpinE ⟨o, g, p, q, false, true⟩ = 0 := by unfold unpinE; rw [if_neg (by simp; omega)]
  have hm : En.may ⟨o, g, p - 1, q, false, true⟩ = true := may_live ⟨h.g0, h.g1⟩ ⟨h.o0, h.o1⟩ ⟨by omega, by have := h.p1; omega⟩ ⟨h.q0, h.q1⟩
  show unpinV _ = _ ∧ unpinC _ = _
  unfold unpinV unpinC
  rw [h.unp, he, chV_ok h.uok hl, chE_ok h.uok hl]
  exact ⟨packV_ok hm, packE_ok hm⟩
theorem pm_new (un : Bool) (g0 : 0 ≤ g) (g1 : g ≤ 1000) : pmNew (mkV 0 g) 1 un = ⟨true, 0, g, un, 1, 0, 0, 0⟩ := by
  obtain ⟨s1, s2, s3⟩ := split_made (mkP_true (s := 0) (g := g) ⟨by decide, by decide, g0, g1⟩)
  have hb : ofB (mkV 0 g) 1 = true := by unfold ofB; rw [s1, s2]; decide
  unfold pmNew
  rw [hb, ofS_ok hb, ofG_ok hb, s2, s3]
theorem wpX_cas (x y : Int) : atI (wpX x) (partN 1 1 0 0) = x ∧ casB (wpX x) (partN 1 1 0 0) x = true ∧ casW (wpX x) (partN 1 1 0 0) x y = wpX y := by
  have h5 : partN 1 1 0 0 = 5 := by decide
  have hb : casB (wpX x) 5 x = true := by
    unfold casB
    rw [show inI (wpX x) 5 = true from rfl, show atI (wpX x) 5 = x from rfl]
    simp
  rw [h5]
  exact ⟨rfl, hb, by rw [casW_yes hb]; rfl⟩
/-- A machine alone, where its word may be turned. -/
theorem EV.run {un : Bool} {y : Int} (h : EV o g p q) (hT : turnV un (eW o g p q) = y ∧ turnC un (eW o g p q) = 0) : ∃ M, pmRun 1 1 10 0 ⟨true, 0, g, un, 1, 0, 0, 0⟩ (wpX (eW o g p q)) = ⟨0, 2, M, wpX y⟩ := by
  have hw := h.own
  have hu := h.up
  obtain ⟨ha, hc, hs⟩ := wpX_cas (eW o g p q) y
  generalize eW o g p q = x at *
  have e1 : pmO 1 1 ⟨true, 0, g, un, 1, 0, 0, 0⟩ (wpX x) = ⟨true, 0, g, un, 2, x, y, 0⟩ := by
    rw [(pmO_1 rfl).1]
    show pm1 (atI (wpX x) (partN 1 1 0 0)) _ = _
    rw [ha]
    unfold pm1
    rw [if_pos rfl]
    simp only [hw, hu, hT.1, hT.2]
    simp
  have e2 : pmO 1 1 ⟨true, 0, g, un, 2, x, y, 0⟩ (wpX x) = ⟨true, 0, g, un, 0, x, y, 0⟩ := by
    rw [(pmO_2 rfl).1]
    show pm2 (casB (wpX x) (partN 1 1 0 0) x) _ = _
    rw [hc]
    rfl
  have w2 : pmW 1 1 ⟨true, 0, g, un, 2, x, y, 0⟩ (wpX x) = wpX y := by
    rw [(pmO_2 rfl).2]
    exact hs
  refine ⟨⟨true, 0, g, un, 0, x, y, 0⟩, ?_⟩
  rw [pm_go e1 (pmO_1 rfl).2 (by simp) (by simp), pm_end e2 w2 (by simp) rfl]
end
end Go.Proofs.YtnojemmpgaibkaaDoor
