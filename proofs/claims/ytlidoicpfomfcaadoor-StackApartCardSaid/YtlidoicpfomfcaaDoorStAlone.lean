/-
  Slots taken one behind the other, and given back, alone: what the words are, and what each step comes to.
  Conditions: none; plain lemmas; the steps' contracts where all that a round knows is laid down once.
-/
import Derived.Test.YtlidoicpfomfcaaDoorStStart
import Derived.Test.YtlidoicpfomfcaaDoorStFree
import Derived.Test.YtlidoicpfomfcaaDoorStPopC
import Derived.Test.YtlidoicpfomfcaaDoorStPushB
namespace Go.Proofs.YtlidoicpfomfcaaDoor
open Go.RowKit
set_option linter.unusedVariables false

/-- The top behind k slots: the next one, or none. -/
def frTop (s : Int) (k : Nat) : Int := if (k : Int) < s then k + 1 else 0
theorem frTop_bd {s : Int} (k : Nat) (hs : s ≤ 64) : 0 ≤ frTop s k ∧ frTop s k ≤ 64 := by unfold frTop; split <;> omega
theorem stV_link {t s : Int} {f : Int → Int} (h0 : 1 ≤ t) (k : Nat) (hk : (k : Int) < s) : stV t s f (4 + t + k * 3 + 2) = frTop s (k + 1) := by
  unfold stV lkV faV frTop
  rw [if_neg (by omega), if_pos (by omega)]
  have e : (4 + t + (k : Int) * 3 + 2 - 6 - t) / 3 = k := by omega
  rw [e]
  by_cases c : (k : Int) + 1 < s
  · rw [if_pos c, if_pos (by omega)]; omega
  · rw [if_neg c, if_neg (by omega)]

/-- The words where n slots are taken and j of these, the first ones, given back. -/
def giV (t s : Int) (n j : Nat) (y : Int) : Int :=
  if y = 1 then (if j = 0 then frTop s n else j) + (n + j) * 1048576
  else if 6 + t ≤ y ∧ (y - 6 - t) % 3 = 0 ∧ (y - 6 - t) / 3 < j then (if y = 6 + t then frTop s n else (y - 6 - t) / 3)
  else stV t s (fun _ => 0) y
/-- Such words lie in the list. -/
def GiW (t s : Int) (n j : Nat) (ws : List Int) : Prop := (ws.length : Int) = wordsN t s ∧ ∀ y, atI ws y = giV t s n j y

section
variable {t s : Int} {n j k : Nat} {ws : List Int}
theorem gi_top (h : GiW t s n j ws) : atI ws 1 = (if j = 0 then frTop s n else j) + (n + j) * 1048576 := by rw [h.2]; exact if_pos rfl
theorem gi_start (h0 : 1 ≤ t) (hl : (ws.length : Int) = wordsN t s) (ha : ∀ y, atI ws y = stV t s (fun _ => 0) y) (h1 : 1 ≤ s) : GiW t s 0 0 ws := by
  refine ⟨hl, fun y => ?_⟩
  rw [ha]
  unfold giV
  by_cases e : y = 1
  · rw [if_pos e, if_pos rfl, e]
    have : frTop s 0 = 1 := by unfold frTop; rw [if_pos (by omega)]; rfl
    rw [this]
    rfl
  · rw [if_neg e, if_neg (by omega)]
theorem gi_link_new (h : GiW t s n j ws) (h0 : 1 ≤ t) (hk : (k : Int) < s) (hj : j ≤ k) : atI ws (4 + t + k * 3 + 2) = frTop s (k + 1) := by
  rw [h.2]
  unfold giV
  rw [if_neg (by omega), if_neg (by omega)]
  exact stV_link h0 k hk
theorem gi_link_old (h : GiW t s n j ws) (h0 : 1 ≤ t) (hj : k < j) : atI ws (4 + t + k * 3 + 2) = if k = 0 then frTop s n else k := by
  rw [h.2]
  unfold giV
  have e : (4 + t + (k : Int) * 3 + 2 - 6 - t) / 3 = k := by omega
  rw [if_neg (by omega), if_pos ⟨by omega, by omega, by omega⟩, e]
  by_cases c : k = 0
  · rw [if_pos c, if_pos (by omega)]
  · rw [if_neg c, if_neg (by omega)]
theorem gi_in (h : GiW t s n j ws) (h0 : 1 ≤ t) (h1 : 1 ≤ s) : inI ws 1 = true := inI_iff.2 (by have := h.1; unfold wordsN at this; omega)
/-- One more is taken. -/
theorem gi_take (h : GiW t s n 0 ws) (h0 : 1 ≤ t) (h1 : 1 ≤ s) : GiW t s (n + 1) 0 (setI ws 1 (frTop s (n + 1) + ((n : Int) + 1) * 1048576)) := by
  refine ⟨by rw [setI_length]; exact h.1, fun y => ?_⟩
  rw [atI_set _ _ _ _ (gi_in h h0 h1), h.2]
  unfold giV
  by_cases e : y = 1
  · rw [if_pos e, if_pos e, if_pos rfl]
    congr 1
  · rw [if_neg e, if_neg e, if_neg e, if_neg (by omega), if_neg (by omega)]
/-- One more is given back. -/
theorem gi_give (h : GiW t s n j ws) (h0 : 1 ≤ t) (h1 : 1 ≤ s) (hn : (n : Int) ≤ s) (hj : j < n) : GiW t s n (j + 1) (setI (setI ws (4 + t + j * 3 + 2) (if j = 0 then frTop s n else j)) 1 (((j : Int) + 1) + ((n : Int) + j + 1) * 1048576)) := by
  have hl := h.1
  have hin : inI ws (4 + t + j * 3 + 2) = true := inI_iff.2 (by unfold wordsN at hl; omega)
  refine ⟨by rw [setI_length, setI_length]; exact hl, fun y => ?_⟩
  have hin1 : inI (setI ws (4 + t + j * 3 + 2) (if j = 0 then frTop s n else j)) 1 = true := inI_iff.2 (by rw [setI_length]; unfold wordsN at hl; omega)
  rw [atI_set _ _ _ _ hin1, atI_set _ _ _ _ hin, h.2]
  unfold giV
  by_cases e : y = 1
  · rw [if_pos e, if_pos e, if_neg (by omega)]
    omega
  · rw [if_neg e, if_neg e, if_neg e]
    by_cases e2 : y = 4 + t + j * 3 + 2
    · have e3 : (y - 6 - t) / 3 = j := by omega
      have hc : 6 + t ≤ y ∧ (y - 6 - t) % 3 = 0 ∧ (y - 6 - t) / 3 < ((j + 1 : Nat) : Int) := ⟨by omega, by omega, by omega⟩
      rw [if_pos e2, if_pos hc, e3]
      by_cases c : j = 0
      · have hy : y = 6 + t := by omega
        rw [if_pos c, if_pos hy]
      · have hy : ¬ y = 6 + t := by omega
        rw [if_neg c, if_neg hy]
    · rw [if_neg e2]
      by_cases c : 6 + t ≤ y ∧ (y - 6 - t) % 3 = 0 ∧ (y - 6 - t) / 3 < j
      · have hc : 6 + t ≤ y ∧ (y - 6 - t) % 3 = 0 ∧ (y - 6 - t) / 3 < ((j + 1 : Nat) : Int) := ⟨c.1, c.2.1, by omega⟩
        rw [if_pos c, if_pos hc]
      · have hc : ¬ (6 + t ≤ y ∧ (y - 6 - t) % 3 = 0 ∧ (y - 6 - t) / 3 < ((j + 1 : Nat) : Int)) := by omega
        rw [if_neg c, if_neg hc]

/-- What three steps of a Pop come to where j is 0 and a slot is left. -/
def gP1 (n : Nat) : Mc := ⟨n, 1, n + 1 + n * 1048576, 0, 0⟩
def gP2 (s : Int) (n : Nat) : Mc := ⟨n, 2, n + 1 + n * 1048576, frTop s (n + 1) + ((n : Int) + 1) * 1048576, 0⟩
def gP3 (s : Int) (n : Nat) : Mc := ⟨n, 3, n + 1 + n * 1048576, frTop s (n + 1) + ((n : Int) + 1) * 1048576, 0⟩
/-- A head's word, its parts. -/
theorem hd_of {q g : Int} (h0 : 0 ≤ q) (h1 : q ≤ 64) (h2 : 0 ≤ g) (h3 : g ≤ 1000) : heB (q + g * 1048576) = true ∧ (q + g * 1048576) % 1048576 = q ∧ (q + g * 1048576) / 1048576 = g :=
  head_made (hpB_true ⟨h0, h1, h2, by omega⟩)
theorem nx_of {g : Int} (h2 : 0 ≤ g) (h3 : g ≤ 1000) : nx g = g + 1 := by unfold nx; omega
theorem gi_p1 (h : GiW t s n 0 ws) (h64 : s ≤ 64) (hn : (n : Int) < s) : popO t s ⟨0, 0, 0, 0, 0⟩ ws = ⟨0, 0, false, gP1 n, ws⟩ := by
  have ht := gi_top h
  rw [if_pos rfl] at ht
  have e1 : frTop s n = n + 1 := if_pos hn
  have e2 : atI ws 1 = (n : Int) + 1 + n * 1048576 := by rw [ht, e1]; simp
  obtain ⟨hb, hm, -⟩ := hd_of (q := (n : Int) + 1) (g := n) (by omega) (by omega) (by omega) (by omega)
  show pop1 (atI ws 1) _ _ = _
  rw [e2]
  unfold pop1
  rw [if_pos hb, hm, if_neg (by omega), show (n : Int) + 1 - 1 = n from by omega]
  rfl
theorem gi_p2 (h : GiW t s n 0 ws) (h0 : 1 ≤ t) (h64 : s ≤ 64) (hn : (n : Int) < s) : popO t s (gP1 n) ws = ⟨0, 0, false, gP2 s n, ws⟩ := by
  have hp : partN t s (n : Int) 2 = 4 + t + n * 3 + 2 := partN_in (by omega)
  have hl := gi_link_new h h0 hn (Nat.zero_le _)
  have hbd := frTop_bd (s := s) (n + 1) h64
  obtain ⟨hb, hm, hd⟩ := hd_of (q := (n : Int) + 1) (g := n) (by omega) (by omega) (by omega) (by omega)
  show pop2 (atI ws (partN t s (n : Int) 2)) (gP1 n) ws = _
  rw [hp, hl]
  have hE : popE ((n : Int) + 1 + n * 1048576) (frTop s (n + 1)) = 0 := popE_ok hb (topP_true hbd) (by rw [hm]; omega)
  show (if popE ((n : Int) + 1 + n * 1048576) (frTop s (n + 1)) = 0 then _ else _) = _
  rw [if_pos hE]
  have hV : popV ((n : Int) + 1 + n * 1048576) (frTop s (n + 1)) = frTop s (n + 1) + ((n : Int) + 1) * 1048576 := by
    rw [popV_ok hE, hd, nx_of (by omega) (by omega)]
  show (⟨0, 0, false, ⟨n, 2, n + 1 + n * 1048576, popV ((n : Int) + 1 + n * 1048576) (frTop s (n + 1)), 0⟩, ws⟩ : Out) = _
  rw [hV]
  rfl
theorem gi_p3 (h : GiW t s n 0 ws) (h0 : 1 ≤ t) (h1 : 1 ≤ s) (hn : (n : Int) < s) : popO t s (gP2 s n) ws = ⟨n, 0, true, gP3 s n, setI ws 1 (frTop s (n + 1) + ((n : Int) + 1) * 1048576)⟩ := by
  have ht := gi_top h
  rw [if_pos rfl] at ht
  have e1 : frTop s n = n + 1 := if_pos hn
  rw [e1] at ht
  have hc : casB ws 1 (gP2 s n).word = true := by
    unfold casB
    rw [gi_in h h0 h1, ht]
    show (true && decide ((n : Int) + 1 + (n + (0 : Nat)) * 1048576 = n + 1 + n * 1048576)) = true
    simp
  show pop3 _ _ = _
  unfold pop3
  rw [if_pos hc, casW_yes hc]
  rfl
theorem gi_p0 (h : GiW t s n 0 ws) (h64 : s ≤ 64) (hn0 : (n : Int) = s) : popO t s ⟨0, 0, 0, 0, 0⟩ ws = ⟨0, 11, true, ⟨0, 3, 0 + n * 1048576, 0, 0⟩, ws⟩ := by
  have ht := gi_top h
  rw [if_pos rfl] at ht
  have e1 : frTop s n = 0 := if_neg (by omega)
  have e2 : atI ws 1 = 0 + (n : Int) * 1048576 := by rw [ht, e1]; simp
  obtain ⟨hb, hm, -⟩ := hd_of (q := 0) (g := n) (by omega) (by omega) (by omega) (by omega)
  show pop1 (atI ws 1) _ _ = _
  rw [e2]
  unfold pop1
  rw [if_pos hb, if_pos hm]

/-- What three steps of a Push come to. -/
def gLink (s : Int) (n j : Nat) : Int := if j = 0 then frTop s n else j
def gHd (s : Int) (n j : Nat) : Int := gLink s n j + (n + j) * 1048576
def gNext (n j : Nat) : Int := (j : Int) + 1 + ((n : Int) + j + 1) * 1048576
def gQ1 (s : Int) (n j : Nat) : Mc := ⟨j, 1, gHd s n j, gNext n j, gLink s n j⟩
def gQ2 (s : Int) (n j : Nat) : Mc := ⟨j, 2, gHd s n j, gNext n j, gLink s n j⟩
def gQ3 (s : Int) (n j : Nat) : Mc := ⟨j, 3, gHd s n j, gNext n j, gLink s n j⟩
theorem gLink_bd (h64 : s ≤ 64) (hn : (n : Int) ≤ s) (hj : j < n) : 0 ≤ gLink s n j ∧ gLink s n j ≤ 64 := by
  have := frTop_bd (s := s) n h64
  unfold gLink
  split <;> omega
theorem gi_q1 (h : GiW t s n j ws) (h0 : 1 ≤ t) (h64 : s ≤ 64) (hn : (n : Int) ≤ s) (hj : j < n) : pushO t s ⟨j, 0, 0, 0, 0⟩ ws = ⟨0, 0, false, gQ1 s n j, ws⟩ := by
  have ht : atI ws 1 = gHd s n j := gi_top h
  have hp : partN t s (j : Int) 2 = 4 + t + j * 3 + 2 := partN_in (by omega)
  have hlb := gLink_bd h64 hn hj
  obtain ⟨hb, hm, hd⟩ := hd_of (q := gLink s n j) (g := (n : Int) + j) hlb.1 hlb.2 (by omega) (by omega)
  have hE : pushE (gHd s n j) j = 0 := pushE_ok hb (slotP_true (by omega))
  have hV : pushV (gHd s n j) j = gNext n j := by
    rw [pushV_ok hE]
    show (j : Int) + 1 + nx ((gLink s n j + (n + j) * 1048576) / 1048576) * 1048576 = _
    rw [hd, nx_of (by omega) (by omega)]
    rfl
  have hK : pushL (gHd s n j) j = gLink s n j := by
    rw [pushL_ok hE]
    exact hm
  show push1 (atI ws 1) (partN t s (j : Int) 2) ⟨j, 0, 0, 0, 0⟩ ws = _
  rw [hp, ht]
  show (if 0 ≤ 4 + t + (j : Int) * 3 + 2 then if pushE (gHd s n j) j = 0 then (⟨0, 0, false, ⟨j, 1, gHd s n j, pushV (gHd s n j) j, pushL (gHd s n j) j⟩, ws⟩ : Out) else _ else _) = _
  rw [if_pos (by omega), if_pos hE, hV, hK]
  rfl
theorem gi_q2 (hj : (j : Int) < s) (h0 : 1 ≤ t) : pushO t s (gQ1 s n j) ws = ⟨0, 0, false, gQ2 s n j, setI ws (4 + t + j * 3 + 2) (gLink s n j)⟩ := by
  have hp : partN t s (j : Int) 2 = 4 + t + j * 3 + 2 := partN_in (by omega)
  show push2 (partN t s (j : Int) 2) (gQ1 s n j) ws = _
  rw [hp]
  rfl
theorem gi_q3 (h : GiW t s n j ws) (h0 : 1 ≤ t) (h1 : 1 ≤ s) (hj : (j : Int) < s) : pushO t s (gQ2 s n j) (setI ws (4 + t + j * 3 + 2) (gLink s n j)) = ⟨0, 0, true, gQ3 s n j, setI (setI ws (4 + t + j * 3 + 2) (gLink s n j)) 1 (gNext n j)⟩ := by
  have hl := h.1
  have hin : inI ws (4 + t + j * 3 + 2) = true := inI_iff.2 (by unfold wordsN at hl; omega)
  have hin1 : inI (setI ws (4 + t + j * 3 + 2) (gLink s n j)) 1 = true := inI_iff.2 (by rw [setI_length]; unfold wordsN at hl; omega)
  have ht : atI ws 1 = gHd s n j := gi_top h
  have hc : casB (setI ws (4 + t + j * 3 + 2) (gLink s n j)) 1 (gHd s n j) = true := by
    unfold casB
    rw [hin1, atI_set _ _ _ _ hin, if_neg (by omega), ht]
    simp
  show push3 (gQ2 s n j) (setI ws (4 + t + j * 3 + 2) (gLink s n j)) = _
  show (if casB (setI ws (4 + t + j * 3 + 2) (gLink s n j)) 1 (gHd s n j) then (⟨0, 0, true, ⟨j, 3, gHd s n j, gNext n j, gLink s n j⟩, casW (setI ws (4 + t + j * 3 + 2) (gLink s n j)) 1 (gHd s n j) (gNext n j)⟩ : Out) else _) = _
  rw [if_pos hc, casW_yes hc]
  rfl

/-- Where the links lead. -/
def gO (n i : Nat) : Int := if i < n then (n : Int) - i else i + 1
theorem freeF_row {ws : List Int} (o : Nat → Int) : ∀ (f i : Nat), (∀ k, i ≤ k → k < i + f → 1 ≤ o k ∧ o k ≤ s) → (∀ k, i ≤ k → k + 1 < i + f → atI ws (partN t s (o k - 1) 2) = o (k + 1)) → ∀ v, v = o i → freeF t s ws f v = (List.range f).map fun m => o (i + m) - 1
  | 0, _, _, _, _, _ => rfl
  | f + 1, i, h, hn, v, hv => by
    subst hv
    rw [freeF_in (h i (Nat.le_refl _) (by omega)), List.range_succ_eq_map, List.map_cons, List.map_map]
    congr 1
    cases f with
    | zero => rfl
    | succ f =>
      rw [freeF_row o (f + 1) (i + 1) (fun k a b => h k (by omega) (by omega)) (fun k a b => hn k (by omega) (by omega)) _ (hn i (Nat.le_refl _) (by omega))]
      refine List.map_congr_left fun m _ => ?_
      show o (i + 1 + m) - 1 = o (i + (m + 1)) - 1
      rw [Nat.add_right_comm, Nat.add_assoc]
/-- What is free behind all of it: the other way round, and then what was never taken. -/
theorem gi_free (h : GiW t s n n ws) (h0 : 1 ≤ t) (h1 : 1 ≤ s) (h64 : s ≤ 64) (hn : (n : Int) ≤ s) : freeL t s ws = (List.range s.toNat).map fun m => gO n m - 1 := by
  have ht := gi_top h
  have e2 : atI ws 1 = gO n 0 + ((n : Int) + n) * 1048576 := by
    rw [ht]
    congr 1
    unfold gO
    by_cases c : n = 0
    · rw [if_pos c, if_neg (by omega), c]
      unfold frTop
      rw [if_pos (by omega)]
    · rw [if_neg c, if_pos (by omega)]
      omega
  have hob : ∀ k : Nat, (k : Int) < s → 1 ≤ gO n k ∧ gO n k ≤ s := fun k hk => by unfold gO; split <;> omega
  obtain ⟨hb, hm, hd⟩ := hd_of (q := gO n 0) (g := (n : Int) + n) (by have := hob 0 (by omega); omega) (by have := hob 0 (by omega); omega) (by omega) (by omega)
  unfold freeL
  rw [e2, if_pos hb, hm]
  rw [freeF_row (t := t) (s := s) (gO n) s.toNat 0 (fun k _ hk => hob k (by omega)) (fun k _ hk => ?_) _ rfl]
  · simp
  · have hk' : ((k + 1 : Nat) : Int) < s := by omega
    unfold gO
    by_cases c : k < n
    · rw [if_pos c]
      have e : (n : Int) - k - 1 = ((n - 1 - k : Nat) : Int) := by omega
      rw [e, partN_in (by omega)]
      have hlt : n - 1 - k < n := by omega
      rw [gi_link_old h h0 hlt]
      by_cases c2 : k + 1 < n
      · rw [if_neg (by omega), if_pos c2]; omega
      · rw [if_pos (by omega), if_neg c2]
        have : n = k + 1 := by omega
        subst this
        unfold frTop
        rw [if_pos (by omega)]
    · rw [if_neg c, if_neg (by omega)]
      have e : (k : Int) + 1 - 1 = (k : Int) := by omega
      rw [e, partN_in (by omega), gi_link_new h h0 (by omega) (by omega)]
      unfold frTop
      rw [if_pos (by omega)]
/-- Nothing is free where all are taken. -/
theorem gi_none (h : GiW t s n 0 ws) (h64 : s ≤ 64) (hn0 : (n : Int) = s) : freeL t s ws = [] := by
  have ht := gi_top h
  rw [if_pos rfl] at ht
  have e1 : frTop s n = 0 := if_neg (by omega)
  have e2 : atI ws 1 = 0 + (n : Int) * 1048576 := by rw [ht, e1]; simp
  obtain ⟨hb, hm, -⟩ := hd_of (q := 0) (g := n) (by omega) (by omega) (by omega) (by omega)
  unfold freeL
  rw [e2, if_pos hb, hm]
  exact freeF_out _ (by omega)
end
end Go.Proofs.YtlidoicpfomfcaaDoor
