/-
  Two machines that write to one object, as plain steps: guards are counted.
  Conditions: none; definitions and plain lemmas.
-/
import Derived.Test.YtnojemmpgaibkaaDoorWrMath
namespace Go.Proofs.YtnojemmpgaibkaaDoor
open Go.RowKit
set_option linter.unusedVariables false
set_option linter.unusedSimpArgs false

/-- The word of an object at 0, of generation 0, with q guards. -/
def wE (q : Int) : Int := 562949953421312 + q * 17592186044416
theorem wE_word (q : Int) : En.word ⟨0, 0, 0, q, false, true⟩ = wE q := by
  unfold En.word wE bitI
  simp
  omega
section
variable {q d p : Int}
theorem wE_may (h0 : 0 ≤ q) (h1 : q ≤ 15) : En.may ⟨0, 0, 0, q, false, true⟩ = true := may_live ⟨by omega, by omega⟩ ⟨by omega, by omega⟩ ⟨by omega, by omega⟩ ⟨h0, h1⟩
theorem wE_unp (h0 : 0 ≤ q) (h1 : q ≤ 15) : unp (wE q) = ⟨0, 0, 0, q, false, true⟩ := by rw [← wE_word]; exact unp_word (wE_may h0 h1)
theorem wE_uok (h0 : 0 ≤ q) (h1 : q ≤ 15) : uok (wE q) = true := by rw [← wE_word]; exact uok_word (wE_may h0 h1)
theorem wE_up (h0 : 0 ≤ q) (h1 : q ≤ 15) : upV (wE q) = ⟨0, 0, 0, q, false, true⟩ := by rw [upV_ok (wE_uok h0 h1), wE_unp h0 h1]
theorem wE_own (h0 : 0 ≤ q) (h1 : q ≤ 15) : ownB (wE q) 0 = true := by
  unfold ownB
  rw [upE_ok (wE_uok h0 h1), wE_up h0 h1]
  rfl
theorem wE_guard (h0 : 0 ≤ q) (h1 : q ≤ 15) (k0 : 0 ≤ q + d) (k1 : q + d ≤ 15) : guardV d (wE q) = wE (q + d) ∧ guardC d (wE q) = 0 := by
  have hl : (unp (wE q)).lv = true := by rw [wE_unp h0 h1]
  have hw : wrap64 (q + d) = q + d := by unfold wrap64; omega
  unfold guardV guardC
  rw [chV_ok (wE_uok h0 h1) hl, chE_ok (wE_uok h0 h1) hl, wE_unp h0 h1]
  unfold guardN
  simp only [hw]
  rw [packV_ok (wE_may k0 k1), packE_ok (wE_may k0 k1), wE_word]
  exact ⟨rfl, rfl⟩
theorem wE_inj : wE p = wE q ↔ p = q := by unfold wE; omega
end
/-- The words of a layout of two threads and one slot, with the object of 8 bytes. -/
def wgW (q : Int) : List Int := [0, 1, 0, 0, 0, 0, wE q, 8, 0]
theorem wgW_at (q : Int) : atI (wgW q) (partN 2 1 0 0) = wE q ∧ atI (wgW q) (partN 2 1 0 1) = 8 := by
  rw [show partN 2 1 0 0 = 6 from by decide, show partN 2 1 0 1 = 7 from by decide]
  exact ⟨rfl, rfl⟩
theorem wgW_set (q p : Int) : setI (wgW q) (partN 2 1 0 0) (wE p) = wgW p := by
  rw [show partN 2 1 0 0 = 6 from by decide]
  rfl
theorem wgW_cas (q x : Int) : casB (wgW q) (partN 2 1 0 0) x = decide (wE q = x) := by
  rw [show partN 2 1 0 0 = 6 from by decide]
  rfl

/-- A machine that writes b to off, where another one writes to off'. -/
structure Wi (off b off' : Int) (M : Wm) (bs : List Int) : Prop where
  kn : M.kn = true
  sl : M.slot = 0
  ge : M.gen = 0
  of : M.off = off
  by' : M.b = b
  st : 0 ≤ M.step ∧ M.step ≤ 6
  ba : 2 ≤ M.step → M.base = 0
  s2 : M.step = 2 → ∃ q, 0 ≤ q ∧ q ≤ 14 ∧ M.word = wE q
  s4 : M.step = 4 → 0 ≤ off ∧ off ≤ 7
  s6 : M.step = 6 → ∃ q, 1 ≤ q ∧ q ≤ 15 ∧ M.word = wE q
  dn : 5 ≤ M.step ∨ M.step = 0 → 0 ≤ off → off ≤ 7 → off ≠ off' → atI bs off = b % 256
  bl : bs.length = 8
/-- The guards that it has. -/
def gI (M : Wm) : Int := if 3 ≤ M.step then 1 else 0
theorem gI_01 (M : Wm) : 0 ≤ gI M ∧ gI M ≤ 1 := by unfold gI; split <;> decide
/-- How many steps there are to its end, alone. -/
def muW (M : Wm) (q : Int) : Nat :=
  if M.step = 1 then 6 else if M.step = 2 then (if wE q = M.word then 5 else 7) else if M.step = 3 then 4 else if M.step = 4 then 3 else if M.step = 5 then 2 else if M.step = 6 then (if wE q = M.word then 1 else 3) else 0

theorem muW_1 {M : Wm} {q : Int} (h : M.step = 1) : muW M q = 6 := by unfold muW; simp [h]
theorem muW_2y {M : Wm} {q : Int} (h : M.step = 2) (e : wE q = M.word) : muW M q = 5 := by unfold muW; simp [h, e]
theorem muW_2n {M : Wm} {q : Int} (h : M.step = 2) (e : ¬ wE q = M.word) : muW M q = 7 := by unfold muW; simp [h, e]
theorem muW_3 {M : Wm} {q : Int} (h : M.step = 3) : muW M q = 4 := by unfold muW; simp [h]
theorem muW_4 {M : Wm} {q : Int} (h : M.step = 4) : muW M q = 3 := by unfold muW; simp [h]
theorem muW_5 {M : Wm} {q : Int} (h : M.step = 5) : muW M q = 2 := by unfold muW; simp [h]
theorem muW_6y {M : Wm} {q : Int} (h : M.step = 6) (e : wE q = M.word) : muW M q = 1 := by unfold muW; simp [h, e]
theorem muW_6n {M : Wm} {q : Int} (h : M.step = 6) (e : ¬ wE q = M.word) : muW M q = 3 := by unfold muW; simp [h, e]
theorem muW_0 {M : Wm} {q : Int} (h : M.step = 0) : muW M q = 0 := by unfold muW; simp [h]

section
variable {off b off' G : Int} {M : Wm} {bs : List Int}
/-- What a step comes to. -/
structure Wo (off b off' G : Int) (M : Wm) (bs : List Int) (M' : Wm) (ws' bs' : List Int) : Prop where
  wi : Wi off b off' M' bs'
  ws : ws' = wgW (G + gI M')
  ot : ∀ j, j ≠ off → atI bs' j = atI bs j
  mu : M.step ≠ 0 → muW M' (G + gI M') < muW M (G + gI M)
theorem atI_other {l : List Int} {i j v : Int} (h : j ≠ i) : atI (setI l i v) j = atI l j := by
  cases k : inI l i
  · rw [setI_no k]
  · rw [setI_in k]
    obtain ⟨k0, k1⟩ := inI_iff.1 k
    unfold atI
    split
    · rw [List.getD_eq_getElem?_getD, List.getD_eq_getElem?_getD, List.getElem?_set_ne (by omega)]
    · rfl
theorem atI_same {l : List Int} {i v : Int} (h0 : 0 ≤ i) (h1 : i < l.length) : atI (setI l i v) i = v := by
  have k : inI l i = true := inI_iff.2 ⟨h0, h1⟩
  rw [setI_in k]
  unfold atI
  rw [if_pos h0, List.getD_eq_getElem?_getD, List.getElem?_set_self (by omega)]
  rfl
theorem wi_step (h : Wi off b off' M bs) (g0 : 0 ≤ G) (g1 : G ≤ 14) : Wo off b off' G M bs (wmO 2 1 M (wgW (G + gI M)) bs) (wmW 2 1 M (wgW (G + gI M))) (wmB M bs) := by
  obtain ⟨kn, sl, ge, hof, hby, st, ba, s2, s4, s6, dn, bl⟩ := h
  have hg := gI_01 M
  obtain ⟨a6, a7⟩ := wgW_at (G + gI M)
  have hcs : M.step = 0 ∨ M.step = 1 ∨ M.step = 2 ∨ M.step = 3 ∨ M.step = 4 ∨ M.step = 5 ∨ M.step = 6 := by omega
  rcases hcs with e | e | e | e | e | e | e
  · rw [(wmO_0 e).1, (wmO_0 (t := 2) (s := 1) (bs := bs) e).2.1, (wmO_0 (t := 2) (s := 1) (ws := wgW (G + gI M)) e).2.2]
    exact ⟨⟨kn, sl, ge, hof, hby, st, ba, s2, s4, s6, dn, bl⟩, rfl, fun _ _ => rfl, fun k => absurd e k⟩
  · rw [(wmO_1 e).1, (wmO_1 (t := 2) (s := 1) (bs := bs) e).2.1, (wmO_1 (t := 2) (s := 1) (ws := wgW (G + gI M)) e).2.2, sl, a6]
    have hgi : gI M = 0 := by unfold gI; rw [if_neg (by omega)]
    rw [hgi, Int.add_zero]
    have hE : wm1 (wE G) M = { M with word := wE G, base := 0, step := 2 } := by
      unfold wm1
      rw [if_pos kn, ge, if_pos (wE_own g0 (by omega)), if_neg, wE_up g0 (by omega)]
      unfold waitW
      rw [wE_up g0 (by omega)]
      simp
      omega
    rw [hE]
    have hg' : gI { M with word := wE G, base := 0, step := 2 } = 0 := rfl
    refine ⟨⟨kn, sl, ge, hof, hby, by simp, fun _ => rfl, fun _ => ⟨G, g0, g1, rfl⟩, fun k => by simp at k, fun k => by simp at k, fun k => by simp at k, bl⟩, by rw [hg', Int.add_zero], fun _ _ => rfl, fun _ => ?_⟩
    rw [muW_1 e, hg', Int.add_zero, muW_2y rfl rfl]
    decide
  · rw [(wmO_2 e).1, (wmO_2 (t := 2) (s := 1) (bs := bs) e).2.1, (wmO_2 (t := 2) (s := 1) (ws := wgW (G + gI M)) e).2.2, sl]
    have hgi : gI M = 0 := by unfold gI; rw [if_neg (by omega)]
    rw [hgi, Int.add_zero]
    obtain ⟨q, q0, q1, hw⟩ := s2 e
    have hG := wE_guard (q := q) (d := 1) q0 (by omega) (by omega) (by omega)
    by_cases hq : q = G
    · subst hq
      have hc : casB (wgW q) (partN 2 1 0 0) M.word = true := by rw [wgW_cas, hw]; simp
      have hE : wm2 true M = { M with step := 3 } := rfl
      rw [casW_yes hc, hc, hE, hw, hG.1, wgW_set]
      have hg' : gI { M with step := 3 } = 1 := rfl
      refine ⟨⟨kn, sl, ge, hof, hby, by simp, fun _ => ba (by omega), fun k => by simp at k, fun k => by simp at k, fun k => by simp at k, fun k => by simp at k, bl⟩, rfl, fun _ _ => rfl, fun _ => ?_⟩
      rw [muW_3 rfl, muW_2y e (by rw [hgi, Int.add_zero, hw])]
      decide
    · have hc : casB (wgW G) (partN 2 1 0 0) M.word = false := by rw [wgW_cas, hw]; simp [wE_inj]; omega
      have hE : wm2 false M = { M with step := 1 } := rfl
      rw [casW_no hc, hc, hE]
      have hg' : gI { M with step := 1 } = 0 := rfl
      refine ⟨⟨kn, sl, ge, hof, hby, by simp, fun k => by simp at k, fun k => by simp at k, fun k => by simp at k, fun k => by simp at k, fun k => by simp at k, bl⟩, by rw [hg', Int.add_zero], fun _ _ => rfl, fun _ => ?_⟩
      rw [muW_1 rfl, muW_2n e (by rw [hgi, Int.add_zero, hw, wE_inj]; omega)]
      decide
  · rw [(wmO_3 e).1, (wmO_3 (t := 2) (s := 1) (bs := bs) e).2.1, (wmO_3 (t := 2) (s := 1) (ws := wgW (G + gI M)) e).2.2, sl, a7]
    have hgi : gI M = 1 := by unfold gI; rw [if_pos (by omega)]
    rw [hgi]
    have hm : muW M (G + 1) = 4 := muW_3 e
    have h81 : wrap64 (8 - 1) = 7 := by decide +kernel
    by_cases hr : off < 0 ∨ 7 < off
    · have hE : wm3 8 M = { M with kept := 5, step := 5 } := if_pos (by rw [hof, h81]; exact hr)
      rw [hE]
      have hg' : gI { M with kept := 5, step := 5 } = 1 := rfl
      refine ⟨⟨kn, sl, ge, hof, hby, by simp, fun _ => ba (by omega), fun k => by simp at k, fun k => by simp at k, fun k => by simp at k, fun _ k0 k1 => by omega, bl⟩, by rw [hg'], fun _ _ => rfl, fun _ => ?_⟩
      rw [hgi, hm, muW_5 rfl]
      decide
    · have hE : wm3 8 M = { M with step := 4 } := if_neg (by rw [hof, h81]; exact hr)
      rw [hE]
      have hg' : gI { M with step := 4 } = 1 := rfl
      refine ⟨⟨kn, sl, ge, hof, hby, by simp, fun _ => ba (by omega), fun k => by simp at k, fun _ => by omega, fun k => by simp at k, fun k => by simp at k, bl⟩, by rw [hg'], fun _ _ => rfl, fun _ => ?_⟩
      rw [hgi, hm, muW_4 rfl]
      decide
  · rw [(wmO_4 e).1, (wmO_4 (t := 2) (s := 1) (bs := bs) e).2.1, (wmO_4 (t := 2) (s := 1) (ws := wgW (G + gI M)) e).2.2]
    have hgi : gI M = 1 := by unfold gI; rw [if_pos (by omega)]
    rw [hgi]
    obtain ⟨o0, o1⟩ := s4 e
    have hw : wrap64 (M.base + M.off) = off := by rw [ba (by omega), hof]; unfold wrap64; omega
    rw [hw, hby]
    have hE : wm4 M = { M with step := 5 } := rfl
    rw [hE]
    have hg' : gI { M with step := 5 } = 1 := rfl
    refine ⟨⟨kn, sl, ge, hof, hby, by simp, fun _ => ba (by omega), fun k => by simp at k, fun k => by simp at k, fun k => by simp at k, fun _ _ _ _ => atI_same o0 (by omega), by rw [setI_length]; exact bl⟩, by rw [hg'], fun j hj => atI_other hj, fun _ => ?_⟩
    rw [muW_5 rfl, muW_4 e]
    decide
  · rw [(wmO_5 e).1, (wmO_5 (t := 2) (s := 1) (bs := bs) e).2.1, (wmO_5 (t := 2) (s := 1) (ws := wgW (G + gI M)) e).2.2, sl, a6]
    have hgi : gI M = 1 := by unfold gI; rw [if_pos (by omega)]
    rw [hgi]
    have hE : wm5 (wE (G + 1)) M = { M with word := wE (G + 1), step := 6 } := rfl
    rw [hE]
    have hg' : gI { M with word := wE (G + 1), step := 6 } = 1 := rfl
    refine ⟨⟨kn, sl, ge, hof, hby, by simp, fun _ => ba (by omega), fun k => by simp at k, fun k => by simp at k, fun _ => ⟨G + 1, by omega, by omega, rfl⟩, fun _ => dn (Or.inl (by omega)), bl⟩, by rw [hg'], fun _ _ => rfl, fun _ => ?_⟩
    rw [hg', muW_6y rfl rfl, muW_5 e]
    decide
  · rw [(wmO_6 e).1, (wmO_6 (t := 2) (s := 1) (bs := bs) e).2.1, (wmO_6 (t := 2) (s := 1) (ws := wgW (G + gI M)) e).2.2, sl]
    have hgi : gI M = 1 := by unfold gI; rw [if_pos (by omega)]
    rw [hgi]
    obtain ⟨q, q0, q1, hw⟩ := s6 e
    have hG := wE_guard (q := q) (d := -1) (by omega) (by omega) (by omega) (by omega)
    rw [hw, hG.1, hG.2, if_pos rfl]
    by_cases hq : q = G + 1
    · subst hq
      have hc : casB (wgW (G + 1)) (partN 2 1 0 0) (wE (G + 1)) = true := by rw [wgW_cas]; simp
      have hE : wm6 0 true M = { M with step := 0 } := rfl
      rw [casW_yes hc, hc, hE, wgW_set]
      have hg' : gI { M with step := 0 } = 0 := rfl
      refine ⟨⟨kn, sl, ge, hof, hby, by simp, fun k => by simp at k, fun k => by simp at k, fun k => by simp at k, fun k => by simp at k, fun _ => dn (Or.inl (by omega)), bl⟩, by rw [hg', show G + 1 + -1 = G + 0 from by omega], fun _ _ => rfl, fun _ => ?_⟩
      rw [hgi, muW_0 rfl, muW_6y e hw.symm]
      decide
    · have hc : casB (wgW (G + 1)) (partN 2 1 0 0) (wE q) = false := by rw [wgW_cas]; simp [wE_inj]; omega
      have hE : wm6 0 false M = { M with step := 5 } := rfl
      rw [casW_no hc, hc, hE]
      have hg' : gI { M with step := 5 } = 1 := rfl
      refine ⟨⟨kn, sl, ge, hof, hby, by simp, fun _ => ba (by omega), fun k => by simp at k, fun k => by simp at k, fun k => by simp at k, fun _ => dn (Or.inl (by omega)), bl⟩, by rw [hg'], fun _ _ => rfl, fun _ => ?_⟩
      rw [hgi, muW_5 rfl, muW_6n e (by rw [hw, wE_inj]; omega)]
      decide
/-- Another one's byte is as it was. -/
theorem Wi.other (h : Wi off' b off M bs) {bs' : List Int} (hl : bs'.length = 8) (ho : ∀ j, j ≠ off → atI bs' j = atI bs j) : Wi off' b off M bs' :=
  { h with bl := hl, dn := fun k k0 k1 k2 => by rw [ho _ k2]; exact h.dn k k0 k1 k2 }
/-- Alone it ends. -/
structure We (off b off' G : Int) (bs : List Int) (R : Wr) : Prop where
  wi : Wi off b off' R.M R.bs
  ws : R.ws = wgW G
  ot : ∀ j, j ≠ off → atI R.bs j = atI bs j
  en : R.M.step = 0
theorem wi_run (g0 : 0 ≤ G) (g1 : G ≤ 14) : ∀ (f i : Nat) (M : Wm) (bs : List Int), Wi off b off' M bs → muW M (G + gI M) < f → We off b off' G bs (wmRun 2 1 f i M (wgW (G + gI M)) bs)
  | 0, i, M, bs, h, hf => absurd hf (Nat.not_lt_zero _)
  | f + 1, i, M, bs, h, hf => by
    have hs := wi_step (G := G) h g0 g1
    show We off b off' G bs (if (wmT M (wmO 2 1 M (wgW (G + gI M)) bs)).2 then (⟨(wmT M (wmO 2 1 M (wgW (G + gI M)) bs)).1, i + 1, wmO 2 1 M (wgW (G + gI M)) bs, wmW 2 1 M (wgW (G + gI M)), wmB M bs⟩ : Wr) else wmRun 2 1 f (i + 1) (wmO 2 1 M (wgW (G + gI M)) bs) (wmW 2 1 M (wgW (G + gI M))) (wmB M bs))
    generalize hM' : wmO 2 1 M (wgW (G + gI M)) bs = M' at hs ⊢
    generalize wmW 2 1 M (wgW (G + gI M)) = ws' at hs ⊢
    generalize wmB M bs = bs' at hs ⊢
    by_cases e0 : M.step = 0
    · have eM : M' = M := by rw [← hM']; exact (wmO_0 e0).1
      have hT : (wmT M M').2 = true := by unfold wmT; rw [if_pos e0]
      rw [if_pos hT]
      have hg : gI M' = 0 := by rw [eM]; unfold gI; rw [if_neg (by omega)]
      exact ⟨hs.wi, by rw [hs.ws, hg, Int.add_zero], hs.ot, by rw [eM]; exact e0⟩
    · by_cases e1 : M'.step = 0
      · have hT : (wmT M M').2 = true := by unfold wmT; rw [if_neg e0, if_pos e1]
        rw [if_pos hT]
        have hg : gI M' = 0 := by unfold gI; rw [if_neg (by omega)]
        exact ⟨hs.wi, by rw [hs.ws, hg, Int.add_zero], hs.ot, e1⟩
      · have hT : (wmT M M').2 = false := by unfold wmT; rw [if_neg e0, if_neg e1]
        rw [hT, if_neg (by decide), hs.ws]
        have hmu := hs.mu e0
        have := wi_run g0 g1 f (i + 1) M' bs' hs.wi (by omega)
        exact ⟨this.wi, this.ws, fun j hj => (this.ot j hj).trans (hs.ot j hj), this.en⟩
theorem muW_le (M : Wm) (q : Int) : muW M q ≤ 7 := by
  unfold muW
  repeat' split
  all_goals omega
end
end Go.Proofs.YtnojemmpgaibkaaDoor
