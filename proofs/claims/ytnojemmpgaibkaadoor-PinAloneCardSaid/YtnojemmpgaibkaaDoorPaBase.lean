/-
  The walk of PinAlone.
  Conditions: none but that the tables read as they are laid.
-/
import Derived.Test.YtnojemmpgaibkaaDoorPbMath
import Derived.Test.YtnojemmpgaibkaaDoorPlainCopy
import Derived.Test.YtnojemmpgaibkaaDoorRefUnpack
import Derived.Deep.CutRange
namespace Go.Proofs.YtnojemmpgaibkaaDoor
open Go.RowKit
attribute [local go_sem] Later.cell Later.frozen Later.lt Later.le
set_option linter.unusedVariables false
set_option linter.unusedSimpArgs false

def pa0 : List Int := [0, 1, 0, 0, 0, 0, 0, 2, 0, 0, 0]
def paW (x : Int) : List Int := [0, 1, 0, 0, 0, 0, 0, 2, x, 0, 0]
theorem pa_set (x : Int) : setI pa0 8 x = paW x ∧ atI (paW x) 8 = x := ⟨rfl, rfl⟩
theorem pa_other (x y : Int) (i : Nat) (h : i ≠ 8) (hi : i < 11) : atI (paW x) i = atI (paW y) i := by
  rw [atI_nat, atI_nat]
  have : i = 0 ∨ i = 1 ∨ i = 2 ∨ i = 3 ∨ i = 4 ∨ i = 5 ∨ i = 6 ∨ i = 7 ∨ i = 9 ∨ i = 10 := by omega
  rcases this with rfl | rfl | rfl | rfl | rfl | rfl | rfl | rfl | rfl | rfl <;> rfl
/-- What comes of it: a code, the steps, the word behind it, the pins that are told. -/
structure PaOut (o g p q : Int) (lv un : Bool) (h c : Int) (j : Nat) (y pw : Int) : Prop where
  run : ∃ M, pmRun 1 2 10 0 (pmNew h 2 un) (paW (packV ⟨o, g, p, q, false, lv⟩)) = ⟨c, j, M, paW y⟩
  up : upV y = ⟨o, g, pw, q, false, lv⟩
  ue : upE y = 0
  n2 : c = 0 → j = 2
section
variable {o g p q h : Int} {lv un : Bool}
theorem pa_up (hm : En.may ⟨o, g, p, q, false, lv⟩ = true) : upV (packV ⟨o, g, p, q, false, lv⟩) = ⟨o, g, p, q, false, lv⟩ ∧ upE (packV ⟨o, g, p, q, false, lv⟩) = 0 := by
  rw [packV_ok hm, upV_ok (uok_word hm), upE_ok (uok_word hm), unp_word hm]
  exact ⟨rfl, rfl⟩
theorem pa_part : partN 1 2 0 0 = 5 ∧ partN 1 2 1 0 = 8 := by decide
theorem pa_stale (hm : En.may ⟨o, g, p, q, false, lv⟩ = true) (hn : ¬ (lv = true ∧ h = mkV 1 g)) : PaOut o g p q lv un h 4 1 (packV ⟨o, g, p, q, false, lv⟩) p := by
  obtain ⟨hu, he⟩ := pa_up hm
  refine ⟨?_, hu, he, fun k => absurd k (by decide)⟩
  generalize packV ⟨o, g, p, q, false, lv⟩ = x at hu he ⊢
  cases hk : ofB h 2
  · have e1 : pmO 1 2 (pmNew h 2 un) (paW x) = pmEnd 4 (pmNew h 2 un) := by
      rw [(pmO_1 rfl).1]
      unfold pm1
      rw [if_neg (by show ¬ ofB h 2 = true; rw [hk]; decide)]
    exact ⟨_, pm_end e1 (pmO_1 rfl).2 (by unfold pmNew; simp) rfl⟩
  · have hI : isH h = true ∧ slotOf h < 2 := by simpa [ofB] using hk
    obtain ⟨hi, hs2⟩ := hI
    have hb := isH_of hi
    have hsb := slotOf_bd (h := h)
    have hms := made_split hi
    have hM : pmNew h 2 un = ⟨true, slotOf h, genOf h, un, 1, 0, 0, 0⟩ := by unfold pmNew; rw [hk, ofS_ok hk, ofG_ok hk]
    rw [hM]
    have hw : ∃ z, atI (paW x) (partN 1 2 (slotOf h) 0) = z ∧ ownB z (genOf h) = false := by
      have h01 : slotOf h = 0 ∨ slotOf h = 1 := by omega
      rcases h01 with e | e
      · rw [e, pa_part.1]
        refine ⟨0, rfl, ?_⟩
        unfold ownB
        rw [show (upV 0).lv = false from by decide +kernel]
        simp
      · rw [e, pa_part.2]
        refine ⟨x, rfl, ?_⟩
        unfold ownB
        rw [hu]
        cases lv
        · simp
        · have : ¬ g = genOf h := fun e2 => hn ⟨rfl, by rw [← hms.2, e, e2]⟩
          simp [this]
    obtain ⟨z, hz, ho⟩ := hw
    have e1 : pmO 1 2 ⟨true, slotOf h, genOf h, un, 1, 0, 0, 0⟩ (paW x) = pmEnd 4 ⟨true, slotOf h, genOf h, un, 1, z, 0, 0⟩ := by
      rw [(pmO_1 rfl).1]
      show pm1 (atI (paW x) (partN 1 2 (slotOf h) 0)) _ = _
      rw [hz]
      unfold pm1
      rw [if_pos rfl]
      simp only [ho]
      rfl
    exact ⟨_, pm_end e1 (pmO_1 rfl).2 (by simp) rfl⟩
theorem pa_new (g0 : 0 ≤ g) (g1 : g ≤ 1000) : pmNew (mkV 1 g) 2 un = ⟨true, 1, g, un, 1, 0, 0, 0⟩ := by
  obtain ⟨s1, s2, s3⟩ := split_made (mkP_true (s := 1) (g := g) ⟨by decide, by decide, g0, g1⟩)
  have hb : ofB (mkV 1 g) 2 = true := by unfold ofB; rw [s1, s2]; decide
  unfold pmNew
  rw [hb, ofS_ok hb, ofG_ok hb, s2, s3]
theorem pa_err {c : Int} (hv : EV o g p q) (hc : turnC un (eW o g p q) = c) (hc0 : ¬ c = 0) : PaOut o g p q true un (mkV 1 g) c 1 (packV ⟨o, g, p, q, false, true⟩) p := by
  obtain ⟨hu, he⟩ := pa_up hv.may
  refine ⟨?_, hu, he, fun k => absurd k hc0⟩
  rw [pa_new hv.g0 hv.g1, show packV ⟨o, g, p, q, false, true⟩ = eW o g p q from packV_ok hv.may]
  have ho := hv.own
  have hup := hv.up
  generalize eW o g p q = x at *
  have e1 : pmO 1 2 ⟨true, 1, g, un, 1, 0, 0, 0⟩ (paW x) = pmEnd c ⟨true, 1, g, un, 1, x, 0, 0⟩ := by
    rw [(pmO_1 rfl).1]
    show pm1 (atI (paW x) (partN 1 2 1 0)) _ = _
    rw [pa_part.2, (pa_set x).2]
    unfold pm1
    rw [if_pos rfl]
    simp only [ho, hup, hc]
    simp [hc0]
  exact ⟨_, pm_end e1 (pmO_1 rfl).2 (by simp) rfl⟩
theorem pa_ok {pw : Int} (hv : EV o g p q) (hw : EV o g pw q) (hT : turnV un (eW o g p q) = eW o g pw q ∧ turnC un (eW o g p q) = 0) : PaOut o g p q true un (mkV 1 g) 0 2 (eW o g pw q) pw := by
  refine ⟨?_, hw.up, by rw [upE_ok hw.uok], fun _ => rfl⟩
  rw [pa_new hv.g0 hv.g1, show packV ⟨o, g, p, q, false, true⟩ = eW o g p q from packV_ok hv.may]
  have ho := hv.own
  have hup := hv.up
  generalize eW o g p q = x at *
  generalize eW o g pw q = y at *
  have e1 : pmO 1 2 ⟨true, 1, g, un, 1, 0, 0, 0⟩ (paW x) = ⟨true, 1, g, un, 2, x, y, 0⟩ := by
    rw [(pmO_1 rfl).1]
    show pm1 (atI (paW x) (partN 1 2 1 0)) _ = _
    rw [pa_part.2, (pa_set x).2]
    unfold pm1
    rw [if_pos rfl]
    simp only [ho, hup, hT.1, hT.2]
    simp
  have hb : casB (paW x) (partN 1 2 1 0) x = true := by
    rw [pa_part.2]
    unfold casB
    rw [show inI (paW x) 8 = true from rfl, show atI (paW x) 8 = x from rfl]
    simp
  have e2 : pmO 1 2 ⟨true, 1, g, un, 2, x, y, 0⟩ (paW x) = ⟨true, 1, g, un, 0, x, y, 0⟩ := by
    rw [(pmO_2 rfl).1]
    show pm2 (casB (paW x) (partN 1 2 1 0) x) _ = _
    rw [hb]
    rfl
  have w2 : pmW 1 2 ⟨true, 1, g, un, 2, x, y, 0⟩ (paW x) = paW y := by
    rw [(pmO_2 rfl).2]
    show casW (paW x) (partN 1 2 1 0) x y = _
    rw [casW_yes hb, pa_part.2]
    rfl
  refine ⟨⟨true, 1, g, un, 0, x, y, 0⟩, ?_⟩
  rw [pm_go e1 (pmO_1 rfl).2 (by simp) (by simp), pm_end e2 w2 (by simp) rfl]
/-- The errors of an entry's pins. -/
theorem pa_over (hv : EV o g 7 q) : turnC false (eW o g 7 q) = 7 := by
  have hl : (unp (eW o g 7 q)).lv = true := by rw [hv.unp]
  show pinC _ = 7
  unfold pinC
  rw [hv.unp]
  exact chE_err hv.uok hl rfl
theorem pa_none (hv : EV o g 0 q) : turnC true (eW o g 0 q) = 8 := by
  have hl : (unp (eW o g 0 q)).lv = true := by rw [hv.unp]
  show unpinC _ = 8
  unfold unpinC
  rw [hv.unp]
  exact chE_err hv.uok hl rfl
end
theorem Rv.touchO {w W W' : World} {A : PAt} {t s : Int} {ws bs : List Int} {lo hi : Nat} (h : Rv w A t s ws bs [] W) (x : Touch lo hi W W') (h1 : A.hi ≤ lo) (h2 : w.heap.size ≤ lo) : Rv w A t s ws bs [] W' :=
  { h with bel := x.below h.bel h2 h.bel.size, mem := h.mem.imp fun _ m => m.touch x (Or.inl h1), keep := fun p hp => absurd hp (by simp) }
/-- All that is known in the rounds. -/
structure Pa (W0 : World) (A A2 : PAt) (ws ws2 bs : List Int) (kr kw kx : Nat) (Lr Lw Lx : List Value) (W : World) : Prop where
  rv : Rv W0 A 1 2 ws bs [] W
  mem : ∃ n, Mem W A2 ws2 bs n
  fr : Fs W kr Lr
  fw : Fs W kw Lw
  fx : Fs W kx Lx
  a2 : A.hi ≤ A2.lo
  w2 : W0.heap.size ≤ A2.lo
  hr : A2.hi ≤ kr
  hw : A2.hi ≤ kw
  hx : A2.hi ≤ kx
theorem Pa.load1 {W0 W : World} {A A2 : PAt} {ws ws2 bs : List Int} {kr kw kx : Nat} {Lr Lw Lx : List Value} (h : Pa W0 A A2 ws ws2 bs kr kw kx Lr Lw Lx W) (i : Int) :
    Calls Tryd.prog 22 #[.pointer (some ⟨A.p, 0, none⟩), .int .i64 i] W fun e W' => e = .returned (.int .i64 (atI ws i)) ∧ Pa W0 A A2 ws ws2 bs kr kw kx Lr Lw Lx W' := by
  refine (rvLoad h.rv i).mono ?_
  rintro _ W' ⟨he, hr, ht⟩
  have h2 : A2.lo ≤ A2.hi := by
    obtain ⟨n, hm⟩ := h.mem
    have := hm.lp; have := hm.up; omega
  have := h.a2; have := h.hr; have := h.hw; have := h.hx
  exact ⟨he, { h with rv := hr, mem := h.mem.imp fun _ m => m.touch ht (Or.inr h.a2), fr := h.fr.touch ht (Or.inr (by omega)), fw := h.fw.touch ht (Or.inr (by omega)), fx := h.fx.touch ht (Or.inr (by omega)) }⟩
theorem Pa.load2 {W0 W : World} {A A2 : PAt} {ws ws2 bs : List Int} {kr kw kx : Nat} {Lr Lw Lx : List Value} (h : Pa W0 A A2 ws ws2 bs kr kw kx Lr Lw Lx W) (i : Int) :
    Calls Tryd.prog 22 #[.pointer (some ⟨A2.p, 0, none⟩), .int .i64 i] W fun e W' => e = .returned (.int .i64 (atI ws2 i)) ∧ Pa W0 A A2 ws ws2 bs kr kw kx Lr Lw Lx W' := by
  obtain ⟨n, hm⟩ := h.mem
  refine (Load_any i hm).mono ?_
  rintro _ _ ⟨he, x, rfl, hm'⟩
  exact ⟨he, { h with rv := h.rv.touchO x.turn h.a2 h.w2, mem := ⟨_, hm'⟩, fr := h.fr.touch x.turn (Or.inr h.hr), fw := h.fw.touch x.turn (Or.inr h.hw), fx := h.fx.touch x.turn (Or.inr h.hx) }⟩
/-- The rounds' relation. -/
def PaRel (W0 : World) (A A2 : PAt) (ws ws2 bs : List Int) (kr kw kx : Nat) (Lr Lw Lx : List Value) (v : Value) (wr : World) : Prop := ∃ i : Nat, v = .int .i64 i ∧ i ≤ 11 ∧ Pa W0 A A2 ws ws2 bs kr kw kx Lr Lw Lx wr
end Go.Proofs.YtnojemmpgaibkaaDoor
