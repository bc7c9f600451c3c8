/-
  What holds of a stack, four machines, and what was taken, whatever is picked: plain steps.
  Conditions: none; plain lemmas.
-/
import Derived.Test.YtlidoicpfomfcaaDoorStAlone
namespace Go.Proofs.YtlidoicpfomfcaaDoor
open Go.RowKit
set_option linter.unusedVariables false

/-- A slot's link. -/
def lk (t : Int) (ws : List Int) (x : Int) : Int := atI ws (4 + t + x * 3 + 2)
def topOf : List Int → Int
  | [] => 0
  | x :: _ => x + 1
/-- One comes from slot to slot. -/
def Chain (t : Int) (ws : List Int) : List Int → Prop
  | [] => True
  | x :: F => lk t ws x = topOf F ∧ Chain t ws F
def c1 (o : Option Int) (x : Int) : Nat := if o = some x then 1 else 0
def cu (u : Nat → Option Int) (x : Int) : Nat := c1 (u 0) x + c1 (u 1) x + c1 (u 2) x + c1 (u 3) x
def n1 (o : Option Int) : Nat := if o = none then 0 else 1
def nu (u : Nat → Option Int) : Nat := n1 (u 0) + n1 (u 1) + n1 (u 2) + n1 (u 3)
def setU {α : Type} (u : Nat → α) (n : Nat) (v : α) : Nat → α := fun i => if i = n then v else u i
theorem setU_same {α : Type} (u : Nat → α) (n : Nat) (v : α) : setU u n v n = v := if_pos rfl
theorem setU_other {α : Type} (u : Nat → α) {n i : Nat} (v : α) (h : i ≠ n) : setU u n v i = u i := if_neg h
theorem setU_self {α : Type} (u : Nat → α) (n : Nat) : setU u n (u n) = u := funext fun i => by
  by_cases e : i = n
  · subst e; exact setU_same _ _ _
  · exact setU_other _ _ e
theorem cu_set (u : Nat → Option Int) {n : Nat} (hn : n < 4) (v : Option Int) (x : Int) : cu (setU u n v) x + c1 (u n) x = cu u x + c1 v x := by
  have h4 : n = 0 ∨ n = 1 ∨ n = 2 ∨ n = 3 := by omega
  rcases h4 with rfl | rfl | rfl | rfl <;> simp [cu, setU] <;> omega
theorem nu_set (u : Nat → Option Int) {n : Nat} (hn : n < 4) (v : Option Int) : nu (setU u n v) + n1 (u n) = nu u + n1 v := by
  have h4 : n = 0 ∨ n = 1 ∨ n = 2 ∨ n = 3 := by omega
  rcases h4 with rfl | rfl | rfl | rfl <;> simp [nu, setU] <;> omega
theorem cu_ge (u : Nat → Option Int) {n : Nat} (hn : n < 4) {x : Int} (h : u n = some x) : 1 ≤ cu u x := by
  have h4 : n = 0 ∨ n = 1 ∨ n = 2 ∨ n = 3 := by omega
  rcases h4 with rfl | rfl | rfl | rfl <;> simp [cu, c1, h] <;> omega
theorem cu_two (u : Nat → Option Int) {n m : Nat} (hn : n < 4) (hm : m < 4) (hnm : n ≠ m) {x : Int} (h : u n = some x) (k : u m = some x) : 2 ≤ cu u x := by
  have h4 : n = 0 ∨ n = 1 ∨ n = 2 ∨ n = 3 := by omega
  have k4 : m = 0 ∨ m = 1 ∨ m = 2 ∨ m = 3 := by omega
  rcases h4 with rfl | rfl | rfl | rfl <;> rcases k4 with rfl | rfl | rfl | rfl <;> first | exact absurd rfl hnm | (simp [cu, c1, h, k]; try omega)

/-- What holds of a machine: a Pop, or the Push of a slot. -/
def Mok (t s g : Int) (ws F : List Int) (o : Option Int) (M : Mc) : Prop :=
  (M.step = 0 ∨ M.step = 1 ∨ M.step = 2) ∧
  match o with
  | none => M.step ≠ 0 → ∃ tw gw, M.word = tw + gw * 1048576 ∧ 1 ≤ tw ∧ tw ≤ s ∧ 0 ≤ gw ∧ gw ≤ g ∧ M.slot = tw - 1 ∧ (gw = g → tw = topOf F) ∧ (M.step = 2 → ∃ l, 0 ≤ l ∧ l ≤ 64 ∧ M.next = l + (gw + 1) * 1048576 ∧ (gw = g → l = topOf F.tail))
  | some σ => M.slot = σ ∧ (M.step ≠ 0 → ∃ tw gw, M.word = tw + gw * 1048576 ∧ 0 ≤ tw ∧ tw ≤ 64 ∧ 0 ≤ gw ∧ gw ≤ g ∧ (gw = g → tw = topOf F) ∧ M.next = σ + 1 + (gw + 1) * 1048576 ∧ M.link = tw ∧ (M.step = 2 → lk t ws σ = tw))
structure Inv (t s g : Int) (ws F T : List Int) (u : Nat → Option Int) (M : Nat → Mc) : Prop where
  len : (ws.length : Int) = wordsN t s
  cur : atI ws 1 = topOf F + g * 1048576
  ch : Chain t ws F
  lb : ∀ x, 0 ≤ x → x < s → 0 ≤ lk t ws x ∧ lk t ws x ≤ 64
  wb : ∀ y, y ≠ 1 → 0 ≤ atI ws y ∧ atI ws y ≤ 100
  pm : ∀ x, F.count x + T.count x + cu u x = if 0 ≤ x ∧ x < s then 1 else 0
  ln : ((F.length + T.length + nu u : Nat) : Int) = s
  g0 : 0 ≤ g
  mc : ∀ n, n < 4 → Mok t s g ws F (u n) (M n)

section
variable {t s g : Int} {ws F T : List Int} {u : Nat → Option Int} {M : Nat → Mc}
theorem mok_new (o : Option Int) (σ : Int) (h : ∀ x, o = some x → σ = x) : Mok t s g ws F o ⟨σ, 0, 0, 0, 0⟩ := by
  refine ⟨Or.inl rfl, ?_⟩
  cases o with
  | none => exact fun k => absurd rfl k
  | some x => exact ⟨h x rfl, fun k => absurd rfl k⟩
theorem Inv.inS (h : Inv t s g ws F T u M) {x : Int} (hx : 0 < F.count x + T.count x + cu u x) : 0 ≤ x ∧ x < s := by
  have := h.pm x
  by_cases c : 0 ≤ x ∧ x < s
  · exact c
  · rw [if_neg c] at this; omega
theorem Inv.one (h : Inv t s g ws F T u M) (x : Int) : F.count x + T.count x + cu u x ≤ 1 := by
  have := h.pm x
  split at this <;> omega
theorem Inv.inF (h : Inv t s g ws F T u M) {x : Int} (hx : x ∈ F) : 0 ≤ x ∧ x < s := h.inS (by have := List.count_pos_iff.2 hx; omega)
theorem Inv.top (h : Inv t s g ws F T u M) : 0 ≤ topOf F ∧ topOf F ≤ s := by
  have hs := h.ln
  cases F with
  | nil => exact ⟨Int.le_refl 0, by show (0 : Int) ≤ s; omega⟩
  | cons x F =>
    have := h.inF List.mem_cons_self
    show 0 ≤ x + 1 ∧ x + 1 ≤ s
    omega
theorem Inv.in1 (h : Inv t s g ws F T u M) (t0 : 1 ≤ t) : inI ws 1 = true := inI_iff.2 (by have := h.len; have := h.ln; unfold wordsN at *; omega)
/-- A machine made anew. -/
theorem Inv.fresh (h : Inv t s g ws F T u M) (n : Nat) (hn : u n = none) : Inv t s g ws F T u (setU M n ⟨0, 0, 0, 0, 0⟩) :=
  { h with
    mc := fun i hi => by
      by_cases e : i = n
      · subst e; rw [setU_same, hn]; exact mok_new _ _ (fun x hx => by cases hx)
      · rw [setU_other _ _ e]; exact h.mc i hi }
/-- What was taken first is given. -/
theorem Inv.give {y : Int} {T' : List Int} (h : Inv t s g ws F (y :: T') u M) {n : Nat} (hn : n < 4) (hu : u n = none) : Inv t s g ws F T' (setU u n (some y)) (setU M n ⟨y, 0, 0, 0, 0⟩) :=
  { h with
    pm := fun x => by
      rw [← h.pm x]
      have := cu_set u hn (some y) x
      rw [hu] at this
      simp only [c1, List.count_cons, Option.some.injEq, beq_iff_eq, reduceCtorEq, if_false] at this ⊢
      omega
    ln := by
      rw [← h.ln]
      have := nu_set u hn (some y)
      rw [hu] at this
      simp only [n1, reduceCtorEq, if_false, if_true, List.length_cons] at this ⊢
      omega
    mc := fun i hi => by
      by_cases e : i = n
      · subst e; rw [setU_same, setU_same]; exact mok_new _ _ (fun x hx => by simpa using hx)
      · rw [setU_other _ _ e, setU_other _ _ e]; exact h.mc i hi }
theorem word_eq2 {q q' g g' : Int} (h0 : 0 ≤ q) (h1 : q ≤ 64) (k0 : 0 ≤ q') (k1 : q' ≤ 64) (h : q + g * 1048576 = q' + g' * 1048576) : g = g' ∧ q = q' := by omega
theorem Mok.mono {o : Option Int} {M' : Mc} (h : Mok t s g ws F o M') {F' : List Int} {ws' : List Int} (hl : ∀ σ, o = some σ → lk t ws' σ = lk t ws σ) : Mok t s (g + 1) ws' F' o M' := by
  refine ⟨h.1, ?_⟩
  have h2 := h.2
  cases o with
  | none =>
    intro hs
    obtain ⟨tw, gw, a1, a2, a3, a4, a5, a6, a7, a8⟩ := h2 hs
    exact ⟨tw, gw, a1, a2, a3, a4, by omega, a6, fun e => by omega, fun k => by
      obtain ⟨l, b1, b2, b3, b4⟩ := a8 k
      exact ⟨l, b1, b2, b3, fun e => by omega⟩⟩
  | some σ =>
    refine ⟨h2.1, fun hs => ?_⟩
    obtain ⟨tw, gw, a1, a2, a3, a4, a5, a6, a7, a8, a9⟩ := h2.2 hs
    exact ⟨tw, gw, a1, a2, a3, a4, by omega, fun e => by omega, a7, a8, fun k => by rw [hl σ rfl]; exact a9 k⟩
/-- A word that is no link, or another's, is stored: the links that matter stay. -/
theorem Chain.keep {ws' : List Int} : ∀ {F : List Int}, Chain t ws F → (∀ x, x ∈ F → lk t ws' x = lk t ws x) → Chain t ws' F
  | [], _, _ => trivial
  | x :: F, h, hk => ⟨(hk x List.mem_cons_self).trans h.1, Chain.keep h.2 fun y hy => hk y (List.mem_cons_of_mem _ hy)⟩
theorem lk_top {v : Int} (t0 : 1 ≤ t) {x : Int} (hx : 0 ≤ x) : lk t (setI ws 1 v) x = lk t ws x := by
  unfold lk
  by_cases k : inI ws 1 = true
  · rw [atI_set _ _ _ _ k, if_neg (by omega)]
  · rw [setI_no (by simpa using k)]
theorem lk_set {v σ x : Int} (hin : inI ws (4 + t + σ * 3 + 2) = true) : lk t (setI ws (4 + t + σ * 3 + 2) v) x = if x = σ then v else lk t ws x := by
  unfold lk
  rw [atI_set _ _ _ _ hin]
  by_cases e : x = σ
  · rw [if_pos e, if_pos (by omega)]
  · rw [if_neg e, if_neg (by omega)]
theorem Inv.lin (h : Inv t s g ws F T u M) (t0 : 1 ≤ t) {x : Int} (h0 : 0 ≤ x) (h1 : x < s) : inI ws (4 + t + x * 3 + 2) = true := inI_iff.2 (by have := h.len; unfold wordsN at this; omega)

/-- The Stack's word turned: one more tag, another row. -/
theorem Inv.turn (h : Inv t s g ws F T u M) (t0 : 1 ≤ t) {F' T' : List Int} {u' : Nat → Option Int} {n : Nat} (hn : n < 4) {M' : Mc} (hM : Mok t s (g + 1) (setI ws 1 (topOf F' + (g + 1) * 1048576)) F' (u' n) M')
    (hu : ∀ i, i ≠ n → u' i = u i) (hch : Chain t ws F') (hpm : ∀ x, F'.count x + T'.count x + cu u' x = F.count x + T.count x + cu u x) (hln : F'.length + T'.length + nu u' = F.length + T.length + nu u) :
    Inv t s (g + 1) (setI ws 1 (topOf F' + (g + 1) * 1048576)) F' T' u' (setU M n M') := by
  have hF' : ∀ x, x ∈ F' → 0 ≤ x := fun x hx => (h.inS (x := x) (by have := hpm x; have := List.count_pos_iff.2 hx; omega)).1
  exact {
    len := by rw [setI_length]; exact h.len
    cur := by rw [atI_set _ _ _ _ (h.in1 t0), if_pos rfl]
    ch := hch.keep fun x hx => lk_top t0 (hF' x hx)
    lb := fun x h0 h1 => by rw [lk_top t0 h0]; exact h.lb x h0 h1
    wb := fun y hy => by rw [atI_set _ _ _ _ (h.in1 t0), if_neg hy]; exact h.wb y hy
    pm := fun x => by rw [hpm x]; exact h.pm x
    ln := by rw [hln]; exact h.ln
    g0 := by have := h.g0; omega
    mc := fun i hi => by
      by_cases e : i = n
      · subst e; rw [setU_same]; exact hM
      · rw [setU_other _ _ e, hu i e]
        exact (h.mc i hi).mono fun σ hσ => lk_top t0 (h.inS (x := σ) (by have := cu_ge u hi hσ; omega)).1 }
/-- One machine is another one. -/
theorem Inv.setM (h : Inv t s g ws F T u M) {n : Nat} {M' : Mc} (hM : Mok t s g ws F (u n) M') : Inv t s g ws F T u (setU M n M') :=
  { h with
    mc := fun i hi => by
      by_cases e : i = n
      · subst e; rw [setU_same]; exact hM
      · rw [setU_other _ _ e]; exact h.mc i hi }

/-- A step of a Pop. -/
theorem inv_pop (h : Inv t s g ws F T u M) (t0 : 1 ≤ t) (s64 : s ≤ 64) (hg : g ≤ 1000) {n : Nat} (hn : n < 4) (hu : u n = none) :
    ((popO t s (M n) ws).done = false ∧ Inv t s g (popO t s (M n) ws).ws F T u (setU M n (popO t s (M n) ws).m)) ∨
    ((popO t s (M n) ws).done = true ∧ (popO t s (M n) ws).err = 11 ∧ Inv t s g (popO t s (M n) ws).ws F T u (setU M n ⟨0, 0, 0, 0, 0⟩)) ∨
    ((popO t s (M n) ws).done = true ∧ (popO t s (M n) ws).err = 0 ∧ ∃ x F', F = x :: F' ∧ (popO t s (M n) ws).slot = x ∧ Inv t s (g + 1) (popO t s (M n) ws).ws F' (T ++ [x]) u (setU M n ⟨0, 0, 0, 0, 0⟩)) := by
  have hmc := h.mc n hn
  rw [hu] at hmc
  have htop := h.top
  have hcur := h.cur
  have hg0 := h.g0
  obtain ⟨hb, hm, hd⟩ := hd_of (q := topOf F) (g := g) htop.1 (by omega) hg0 (by omega)
  generalize hMn : M n = Mn at hmc ⊢
  obtain ⟨slot, step, word, next, link⟩ := Mn
  obtain ⟨hst, hrest⟩ := hmc
  dsimp only at hst hrest
  rcases hst with rfl | rfl | rfl
  · -- the first step
    have hp : popO t s ⟨slot, 0, word, next, link⟩ ws = pop1 (topOf F + g * 1048576) ⟨slot, 0, word, next, link⟩ ws := by rw [← hcur]; rfl
    rw [hp]
    unfold pop1
    rw [if_pos hb, hm]
    by_cases h0 : topOf F = 0
    · rw [if_pos h0]
      exact Or.inr (Or.inl ⟨rfl, rfl, h.fresh n hu⟩)
    · rw [if_neg h0]
      refine Or.inl ⟨rfl, h.setM ?_⟩
      rw [hu]
      exact ⟨Or.inr (Or.inl rfl), fun _ => ⟨topOf F, g, rfl, by omega, htop.2, hg0, Int.le_refl _, rfl, fun _ => rfl, fun k => by have k' : (1 : Int) = 2 := k; omega⟩⟩
  · -- the second
    obtain ⟨tw, gw, rfl, b1, b2, b3, b4, b5, b6, -⟩ := hrest (by decide)
    subst b5
    have hpn : partN t s (tw - 1) 2 = 4 + t + (tw - 1) * 3 + 2 := partN_in (by omega)
    have hl := h.lb (tw - 1) (by omega) (by omega)
    obtain ⟨wb, wm, wd⟩ := hd_of (q := tw) (g := gw) (by omega) (by omega) b3 (by omega)
    have hE : popE (tw + gw * 1048576) (lk t ws (tw - 1)) = 0 := popE_ok wb (topP_true hl) (by rw [wm]; omega)
    have hV : popV (tw + gw * 1048576) (lk t ws (tw - 1)) = lk t ws (tw - 1) + (gw + 1) * 1048576 := by rw [popV_ok hE, wd, nx_of b3 (by omega)]
    have hp : popO t s ⟨tw - 1, 1, tw + gw * 1048576, next, link⟩ ws = ⟨0, 0, false, ⟨tw - 1, 2, tw + gw * 1048576, lk t ws (tw - 1) + (gw + 1) * 1048576, link⟩, ws⟩ := by
      show pop2 (atI ws (partN t s (tw - 1) 2)) _ ws = _
      rw [hpn]
      show (if popE (tw + gw * 1048576) (lk t ws (tw - 1)) = 0 then (⟨0, 0, false, ⟨tw - 1, 2, tw + gw * 1048576, popV (tw + gw * 1048576) (lk t ws (tw - 1)), link⟩, ws⟩ : Out) else _) = _
      rw [if_pos hE, hV]
    rw [hp]
    refine Or.inl ⟨rfl, h.setM ?_⟩
    rw [hu]
    refine ⟨Or.inr (Or.inr rfl), fun _ => ⟨tw, gw, rfl, b1, b2, b3, b4, rfl, b6, fun _ => ⟨lk t ws (tw - 1), hl.1, hl.2, rfl, fun e => ?_⟩⟩⟩
    have ht := b6 e
    cases F with
    | nil => have ht' : tw = 0 := ht; omega
    | cons x F =>
      have ht' : tw = x + 1 := ht
      have hc := h.ch.1
      rw [show tw - 1 = x from by omega]
      exact hc
  · -- the third
    obtain ⟨tw, gw, rfl, b1, b2, b3, b4, b5, b6, b7⟩ := hrest (by decide)
    obtain ⟨l, l0, l1, rfl, l3⟩ := b7 rfl
    subst b5
    by_cases hc : casB ws 1 (tw + gw * 1048576) = true
    · have hceq : topOf F + g * 1048576 = tw + gw * 1048576 := by
        unfold casB at hc
        rw [h.in1 t0, hcur] at hc
        simpa using hc
      obtain ⟨e1, e2⟩ := word_eq2 htop.1 (by omega) (by omega) (by omega) hceq
      subst e1
      have hl := l3 rfl
      have hp : popO t s ⟨tw - 1, 2, tw + g * 1048576, l + (g + 1) * 1048576, link⟩ ws = ⟨tw - 1, 0, true, ⟨tw - 1, 3, tw + g * 1048576, l + (g + 1) * 1048576, link⟩, setI ws 1 (l + (g + 1) * 1048576)⟩ := by
        show pop3 _ ws = _
        show (if casB ws 1 (tw + g * 1048576) then (⟨tw - 1, 0, true, ⟨tw - 1, 3, tw + g * 1048576, l + (g + 1) * 1048576, link⟩, casW ws 1 (tw + g * 1048576) (l + (g + 1) * 1048576)⟩ : Out) else _) = _
        rw [if_pos hc, casW_yes hc]
      rw [hp]
      cases F with
      | nil => have e2' : (0 : Int) = tw := e2; omega
      | cons x F =>
        have e2' : x + 1 = tw := e2
        have hl' : l = topOf F := hl
        refine Or.inr (Or.inr ⟨rfl, rfl, x, F, rfl, by show tw - 1 = x; omega, ?_⟩)
        rw [hl']
        exact h.turn t0 hn (by rw [hu]; exact mok_new _ _ (fun x hx => by cases hx)) (fun i _ => rfl) h.ch.2
          (fun y => by simp only [List.count_append, List.count_cons, List.count_nil]; omega) (by simp only [List.length_append, List.length_cons, List.length_nil]; omega)
    · have hp : popO t s ⟨tw - 1, 2, tw + gw * 1048576, l + (gw + 1) * 1048576, link⟩ ws = ⟨0, 0, false, ⟨tw - 1, 0, tw + gw * 1048576, l + (gw + 1) * 1048576, link⟩, ws⟩ := by
        show (if casB ws 1 (tw + gw * 1048576) then _ else _) = _
        rw [if_neg hc]
      rw [hp]
      refine Or.inl ⟨rfl, h.setM ?_⟩
      rw [hu]
      exact ⟨Or.inl rfl, fun k => absurd rfl k⟩

/-- A step of a Push. -/
theorem inv_push (h : Inv t s g ws F T u M) (t0 : 1 ≤ t) (s64 : s ≤ 64) (hg : g ≤ 1000) {n : Nat} (hn : n < 4) {σ : Int} (hu : u n = some σ) :
    ((pushO t s (M n) ws).done = false ∧ Inv t s g (pushO t s (M n) ws).ws F T u (setU M n (pushO t s (M n) ws).m)) ∨
    ((pushO t s (M n) ws).done = true ∧ (pushO t s (M n) ws).err = 0 ∧ Inv t s (g + 1) (pushO t s (M n) ws).ws (σ :: F) T (setU u n none) (setU M n ⟨0, 0, 0, 0, 0⟩)) := by
  have hmc := h.mc n hn
  rw [hu] at hmc
  have htop := h.top
  have hcur := h.cur
  have hg0 := h.g0
  have hσ := h.inS (x := σ) (by have := cu_ge u hn hu; omega)
  have hpn : partN t s σ 2 = 4 + t + σ * 3 + 2 := partN_in (by omega)
  obtain ⟨hb, hm, hd⟩ := hd_of (q := topOf F) (g := g) htop.1 (by omega) hg0 (by omega)
  generalize hMn : M n = Mn at hmc ⊢
  obtain ⟨slot, step, word, next, link⟩ := Mn
  obtain ⟨hst, hsl, hrest⟩ := hmc
  dsimp only at hst hsl hrest
  subst hsl
  rcases hst with rfl | rfl | rfl
  · have hE : pushE (topOf F + g * 1048576) slot = 0 := pushE_ok hb (slotP_true (by omega))
    have hV : pushV (topOf F + g * 1048576) slot = slot + 1 + (g + 1) * 1048576 := by rw [pushV_ok hE, hd, nx_of hg0 (by omega)]
    have hK : pushL (topOf F + g * 1048576) slot = topOf F := by rw [pushL_ok hE, hm]
    have hp : pushO t s ⟨slot, 0, word, next, link⟩ ws = ⟨0, 0, false, ⟨slot, 1, topOf F + g * 1048576, slot + 1 + (g + 1) * 1048576, topOf F⟩, ws⟩ := by
      show push1 (atI ws 1) (partN t s slot 2) _ ws = _
      rw [hpn, hcur]
      show (if 0 ≤ 4 + t + slot * 3 + 2 then if pushE (topOf F + g * 1048576) slot = 0 then (⟨0, 0, false, ⟨slot, 1, topOf F + g * 1048576, pushV (topOf F + g * 1048576) slot, pushL (topOf F + g * 1048576) slot⟩, ws⟩ : Out) else _ else _) = _
      rw [if_pos (by omega), if_pos hE, hV, hK]
    rw [hp]
    refine Or.inl ⟨rfl, h.setM ?_⟩
    rw [hu]
    exact ⟨Or.inr (Or.inl rfl), rfl, fun _ => ⟨topOf F, g, rfl, htop.1, by omega, hg0, Int.le_refl _, fun _ => rfl, rfl, rfl, fun k => by have k' : (1 : Int) = 2 := k; omega⟩⟩
  · obtain ⟨tw, gw, rfl, b1, b2, b3, b4, b5, rfl, rfl, -⟩ := hrest (by decide)
    have hin := h.lin t0 hσ.1 hσ.2
    have hp : pushO t s ⟨slot, 1, link + gw * 1048576, slot + 1 + (gw + 1) * 1048576, link⟩ ws = ⟨0, 0, false, ⟨slot, 2, link + gw * 1048576, slot + 1 + (gw + 1) * 1048576, link⟩, setI ws (4 + t + slot * 3 + 2) link⟩ := by
      show push2 (partN t s slot 2) _ ws = _
      rw [hpn]
      rfl
    rw [hp]
    refine Or.inl ⟨rfl, ?_⟩
    have h1 := h.one slot
    have h2 := cu_ge u hn hu
    exact {
      len := by rw [setI_length]; exact h.len
      cur := by rw [atI_set _ _ _ _ hin, if_neg (by omega)]; exact hcur
      ch := h.ch.keep fun x hx => by
        rw [lk_set hin, if_neg]
        intro e
        subst e
        have := List.count_pos_iff.2 hx
        omega
      lb := fun x k0 k1 => by
        rw [lk_set hin]
        split
        · omega
        · exact h.lb x k0 k1
      wb := fun y hy => by
        rw [atI_set _ _ _ _ hin]
        split
        · omega
        · exact h.wb y hy
      pm := h.pm
      ln := h.ln
      g0 := hg0
      mc := fun i hi => by
        by_cases e : i = n
        · subst e
          rw [setU_same, hu]
          exact ⟨Or.inr (Or.inr rfl), rfl, fun _ => ⟨link, gw, rfl, b1, b2, b3, b4, b5, rfl, rfl, fun _ => by rw [lk_set hin, if_pos rfl]⟩⟩
        · rw [setU_other _ _ e]
          have hmi := h.mc i hi
          refine ⟨hmi.1, ?_⟩
          have h3 := hmi.2
          cases hui : u i with
          | none => rw [hui] at h3; exact h3
          | some σ' =>
            rw [hui] at h3
            refine ⟨h3.1, fun hs => ?_⟩
            obtain ⟨tw, gw, a1, a2, a3, a4, a5, a6, a7, a8, a9⟩ := h3.2 hs
            refine ⟨tw, gw, a1, a2, a3, a4, a5, a6, a7, a8, fun k => ?_⟩
            rw [lk_set hin, if_neg]
            · exact a9 k
            · intro e2
              subst e2
              have := cu_two u hi hn e hui hu
              omega }
  · obtain ⟨tw, gw, rfl, b1, b2, b3, b4, b5, rfl, rfl, b9⟩ := hrest (by decide)
    have hlk := b9 rfl
    by_cases hc : casB ws 1 (link + gw * 1048576) = true
    · have hceq : topOf F + g * 1048576 = link + gw * 1048576 := by
        unfold casB at hc
        rw [h.in1 t0, hcur] at hc
        simpa using hc
      obtain ⟨e1, e2⟩ := word_eq2 htop.1 (by omega) b1 b2 hceq
      subst e1
      have hp : pushO t s ⟨slot, 2, link + g * 1048576, slot + 1 + (g + 1) * 1048576, link⟩ ws = ⟨0, 0, true, ⟨slot, 3, link + g * 1048576, slot + 1 + (g + 1) * 1048576, link⟩, setI ws 1 (slot + 1 + (g + 1) * 1048576)⟩ := by
        show push3 _ ws = _
        show (if casB ws 1 (link + g * 1048576) then (⟨0, 0, true, ⟨slot, 3, link + g * 1048576, slot + 1 + (g + 1) * 1048576, link⟩, casW ws 1 (link + g * 1048576) (slot + 1 + (g + 1) * 1048576)⟩ : Out) else _) = _
        rw [if_pos hc, casW_yes hc]
      rw [hp]
      refine Or.inr ⟨rfl, rfl, ?_⟩
      refine h.turn t0 (F' := slot :: F) hn (by rw [setU_same]; exact mok_new _ _ (fun x hx => by cases hx)) (fun i hi => setU_other _ _ hi) ⟨by rw [hlk, e2], h.ch⟩ (fun y => ?_) ?_
      · have := cu_set u hn none y
        rw [hu] at this
        simp only [c1, List.count_cons, Option.some.injEq, beq_iff_eq, reduceCtorEq, if_false] at this ⊢
        omega
      · have := nu_set u hn none
        rw [hu] at this
        simp only [n1, reduceCtorEq, if_false, if_true, List.length_cons] at this ⊢
        omega
    · have hp : pushO t s ⟨slot, 2, link + gw * 1048576, slot + 1 + (gw + 1) * 1048576, link⟩ ws = ⟨0, 0, false, ⟨slot, 0, link + gw * 1048576, slot + 1 + (gw + 1) * 1048576, link⟩, ws⟩ := by
        show (if casB ws 1 (link + gw * 1048576) then _ else _) = _
        rw [if_neg hc]
      rw [hp]
      refine Or.inl ⟨rfl, h.setM ?_⟩
      rw [hu]
      exact ⟨Or.inl rfl, rfl, fun k => absurd rfl k⟩
/-- What is free at last. -/
theorem inv_chain (t0 : 1 ≤ t) : ∀ (F : List Int) (f : Nat), Chain t ws F → (∀ x, x ∈ F → 0 ≤ x ∧ x < s) → F.length ≤ f → freeF t s ws f (topOf F) = F
  | [], f, _, _, _ => freeF_out f (by show ¬ (1 ≤ (0 : Int) ∧ (0 : Int) ≤ s); omega)
  | x :: F, 0, _, _, hl => by simp at hl
  | x :: F, f + 1, hc, hx, hl => by
    have h0 := hx x List.mem_cons_self
    show freeF t s ws (f + 1) (x + 1) = _
    rw [freeF_in (by omega), show x + 1 - 1 = x from by omega, partN_in (by omega)]
    congr 1
    have := inv_chain t0 F f hc.2 (fun y hy => hx y (List.mem_cons_of_mem _ hy)) (by simpa using hl)
    rw [← this]
    show freeF t s ws f (lk t ws x) = _
    rw [hc.1]
theorem inv_free (h : Inv t s g ws F T u M) (t0 : 1 ≤ t) (s64 : s ≤ 64) (hg : g ≤ 1000) : freeL t s ws = F := by
  have htop := h.top
  obtain ⟨hb, hm, hd⟩ := hd_of (q := topOf F) (g := g) htop.1 (by omega) h.g0 (by omega)
  unfold freeL
  rw [h.cur, if_pos hb, hm]
  exact inv_chain t0 F _ h.ch (fun x hx => h.inF hx) (by have := h.ln; omega)
end
end Go.Proofs.YtlidoicpfomfcaaDoor
