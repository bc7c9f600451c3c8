/-
  A pair of machines, the program's and the document's, that steps as one.
  Conditions: none but that both lie there, on cells of the same words, of a configuration that may be.
-/
import Derived.Test.YtlidoicpfomfcaaDoorRfMachC
import Derived.Test.YtlidoicpfomfcaaDoorStPopC
import Derived.Test.YtlidoicpfomfcaaDoorStPushB
import Derived.Test.YtlidoicpfomfcaaDoorStFree
namespace Go.Proofs.YtlidoicpfomfcaaDoor
open Go.RowKit
set_option linter.unusedVariables false

theorem wd_set {ws : List Int} (h : Wd ws) (i v : Int) (h0 : -9223372036854775808 ≤ v) (h1 : v ≤ 9223372036854775807) : Wd (setI ws i v) := fun y => by
  by_cases k : inI ws i = true
  · rw [atI_set _ _ _ _ k]
    by_cases e : y = i
    · rw [if_pos e]; exact ⟨h0, h1⟩
    · rw [if_neg e]; exact h y
  · rw [setI_no (by simpa using k)]; exact h y
theorem wd_cas {ws : List Int} (h : Wd ws) (i o v : Int) (h0 : -9223372036854775808 ≤ v) (h1 : v ≤ 9223372036854775807) : Wd (casW ws i o v) := by
  unfold casW
  split
  · exact wd_set h i v h0 h1
  · exact h
theorem popV_bd (x l : Int) : -9223372036854775808 ≤ popV x l ∧ popV x l ≤ 9223372036854775807 := by
  by_cases e : popE x l = 0
  · have hn := nx_bd (x / 1048576)
    have hl : topP l = true := by
      by_cases k : topP l = true
      · exact k
      · by_cases hb : heB x = true
        · rw [popE_arg hb (by simpa using k)] at e; exact absurd e (by decide)
        · rw [popE_form (by simpa using hb)] at e; exact absurd e (by decide)
    have := topP_of hl
    rw [popV_ok e]
    omega
  · rw [popV_bad e]; decide
theorem pushV_bd (x l : Int) : -9223372036854775808 ≤ pushV x l ∧ pushV x l ≤ 9223372036854775807 := by
  by_cases e : pushE x l = 0
  · have hn := nx_bd (x / 1048576)
    have hl : slotP l = true := by
      by_cases k : slotP l = true
      · exact k
      · by_cases hb : heB x = true
        · rw [pushE_arg hb (by simpa using k)] at e; exact absurd e (by decide)
        · rw [pushE_form (by simpa using hb)] at e; exact absurd e (by decide)
    have := slotP_of hl
    rw [pushV_ok e]
    omega
  · rw [pushV_bad e]; decide
theorem pushL_bd (x l : Int) : -9223372036854775808 ≤ pushL x l ∧ pushL x l ≤ 9223372036854775807 := by
  by_cases e : pushE x l = 0
  · rw [pushL_ok e]; omega
  · rw [pushL_bad e]; decide
/-- What a machine of the document keeps is a number of 64 bits. -/
def KB (K : Rc) : Prop := -9223372036854775808 ≤ K.to ∧ K.to ≤ 9223372036854775807
theorem ref_bd {push : Bool} {t s : Int} {K : Rc} {ws : List Int} (hK : KB K) (hW : Wd ws) : KB (refO push t s K ws).k ∧ Wd (refO push t s K ws).ws := by
  unfold refO
  split
  · unfold ref1
    split
    · exact ⟨hK, hW⟩
    · split
      · split
        · exact ⟨hK, hW⟩
        · exact ⟨hK, hW⟩
      · exact ⟨hK, hW⟩
  · split
    · unfold ref2
      split
      · exact ⟨pushV_bd _ _, wd_set hW _ _ (pushL_bd _ _).1 (pushL_bd _ _).2⟩
      · split
        · exact ⟨popV_bd _ _, hW⟩
        · exact ⟨hK, hW⟩
    · split
      · unfold ref3
        split
        · exact ⟨hK, wd_cas hW _ _ _ hK.1 hK.2⟩
        · exact ⟨hK, hW⟩
      · exact ⟨hK, hW⟩

/-- Both cells, of the same words. -/
structure Env (w : World) (A : PAt) (bs : List Int) (p q : Nat) (bv : Value) (a s t : Int) (ws : List Int) : Prop where
  hF : HasHead w
  mem : ∃ n, Mem w A ws bs n
  rm : ∃ n, RMem w p q bv ws n
  may : mayC a s t = true
  g0 : 0 < A.lo
  g1 : 1 < A.lo
  lh : A.lo ≤ A.hi
  pA : A.hi ≤ p
  qA : A.hi ≤ q
  wd : Wd ws
/-- Where a pair lies, and what it has come to. -/
structure Pr where
  push : Bool
  x : Nat
  kp : Nat
  kr : Nat
  lo : Nat
  hi : Nat
  M : Mc
  K : Rc
def pairL (P : Pr) : List Value := [.pointer (if P.push then none else some ⟨P.kp, 0, none⟩), .pointer (if P.push then some ⟨P.kp, 0, none⟩ else none), .pointer (some ⟨P.kr, 0, none⟩)]
def machL (push : Bool) (t s : Int) (M : Mc) : List Value := if push then pushC t s M else popL t s M
structure PairAt (w : World) (a s t : Int) (P : Pr) : Prop where
  fx : Fs w P.x (pairL P)
  fp : Fs w P.kp (machL P.push t s P.M)
  fr : Fs w P.kr (refL a s t P.push P.K)
  sim : Sim P.push P.M P.K
  kb : KB P.K
  xl : P.lo ≤ P.x
  pl : P.lo ≤ P.kp
  rl : P.lo ≤ P.kr
  xh : P.x < P.hi
  ph : P.kp < P.hi
  rh : P.kr < P.hi
  xp : P.x ≠ P.kp
  xr : P.x ≠ P.kr
  pr : P.kp ≠ P.kr
/-- The blocks that a step of a pair may turn. -/
def pairS (A : PAt) (p q : Nat) (P : Pr) : Nat → Prop := fun b => (A.lo ≤ b ∧ b < A.hi) ∨ rSpan p q b ∨ (P.lo ≤ b ∧ b < P.hi)
theorem pairS_not {A : PAt} {p q b : Nat} {P : Pr} (h1 : b < A.lo ∨ A.hi ≤ b) (h2 : b ≠ p) (h3 : b ≠ q) (h4 : b < P.lo ∨ P.hi ≤ b) : ¬ pairS A p q P b := by
  rintro (h | (h | h) | h) <;> omega
/-- Behind a step. -/
def Pr.on (P : Pr) (t s : Int) (ws : List Int) : Pr := { P with M := (machO P.push t s P.M ws).m, K := (refO P.push t s P.K ws).k }
theorem PairAt.moved {S : Nat → Prop} {w w' : World} {a s t : Int} {P : Pr} (h : PairAt w a s t P) (m : Moved S w w') (hS : ∀ b, P.lo ≤ b → b < P.hi → ¬ S b) : PairAt w' a s t P :=
  { h with fx := h.fx.moved m (hS _ h.xl h.xh), fp := h.fp.moved m (hS _ h.pl h.ph), fr := h.fr.moved m (hS _ h.rl h.rh) }
theorem Env.moved {S : Nat → Prop} {w w' : World} {A : PAt} {bs : List Int} {p q : Nat} {bv : Value} {a s t : Int} {ws : List Int} (h : Env w A bs p q bv a s t ws) (m : Moved S w w') (hS : ∀ b, b < A.hi → ¬ S b) (hp : ¬ S p) (hq : ¬ S q) : Env w' A bs p q bv a s t ws :=
  { h with
    hF := h.hF.moved m (hS _ (by have := h.g0; have := h.lh; omega)) (hS _ (by have := h.g1; have := h.lh; omega))
    mem := h.mem.imp fun _ k => k.moved m fun b _ hb => hS b hb
    rm := h.rm.imp fun _ k => k.moved m hp hq }

section
variable {w : World} {A : PAt} {bs ws : List Int} {p q : Nat} {bv : Value} {a s t : Int} {P : Pr}
theorem pairStep_any (hE : Env w A bs p q bv a s t ws) (hP : PairAt w a s t P) (hA : A.hi ≤ P.lo) (hp : p < P.lo) (hq : q < P.lo) :
    Calls Tryd.prog 15 #[.pointer (some ⟨P.x, 0, none⟩), .pointer (some ⟨A.p, 0, none⟩), .pointer (some ⟨p, 0, none⟩)] w fun e w' =>
      e = .returned (.tuple #[.int .i64 (refO P.push t s P.K ws).slot, .int .i64 (refO P.push t s P.K ws).err, .bool (refO P.push t s P.K ws).done, .bool true]) ∧ Moved (pairS A p q P) w w' ∧ Env w' A bs p q bv a s t (refO P.push t s P.K ws).ws ∧ PairAt w' a s t (P.on t s ws) := by
  obtain ⟨-, -, -, s0, s64, t0, t4⟩ := mayC_iff.1 hE.may
  obtain ⟨n, hM⟩ := hE.mem
  obtain ⟨m, hR⟩ := hE.rm
  have hlh := hE.lh
  have hpA := hE.pA
  have hqA := hE.qA
  have b1 := hP.pl
  have b2 := hP.rl
  have b3 := hP.xl
  have r1 := rStep_any hE.may (hE.wd 1).2 hP.sim.kw hR hP.fr (by omega) (by omega)
  obtain ⟨e1, e2, e3, e4, hsim⟩ := sim_step (t := t) (s := s) (ws := ws) hP.sim t0 s64 (hE.wd 1).2
  obtain ⟨hkb, hwd⟩ := ref_bd (push := P.push) (t := t) (s := s) hP.kb hE.wd
  have fin : ∀ w1 w2, Moved (fun b => rSpan p q b ∨ b = P.kr) w w1 → (∃ n, RMem w1 p q bv (refO P.push t s P.K ws).ws n) → Fs w1 P.kr (refL a s t P.push (refO P.push t s P.K ws).k) → Moved (spanS A P.kp) w1 w2 → (∃ n, Mem w2 A (machO P.push t s P.M ws).ws bs n) → Fs w2 P.kp (machL P.push t s (machO P.push t s P.M ws).m) →
      Moved (pairS A p q P) w w2 ∧ Env w2 A bs p q bv a s t (refO P.push t s P.K ws).ws ∧ PairAt w2 a s t (P.on t s ws) := fun w1 w2 m1 hR1 hK1 m2 hM2 hP2 => by
    have b4 := hP.ph
    have b5 := hP.rh
    have hm : Moved (pairS A p q P) w w2 := (m1.mono fun b hb hs => by
      rcases hs with h | h
      · exact Or.inr (Or.inl h)
      · exact Or.inr (Or.inr ⟨by omega, by omega⟩)).trans (m2.mono fun b hb hs => by
      rcases hs with h | h
      · exact Or.inl h
      · exact Or.inr (Or.inr ⟨by omega, by omega⟩))
    have n1 : ∀ b, b < A.lo → ¬ spanS A P.kp b := fun b hb => spanS_not (Or.inl hb) (by omega)
    have hF1 : HasHead w1 := hE.hF.moved m1 (by rintro ((h | h) | h) <;> (have := hE.g0; omega)) (by rintro ((h | h) | h) <;> (have := hE.g1; omega))
    refine ⟨hm, { hE with hF := hF1.moved m2 (n1 _ hE.g0) (n1 _ hE.g1), mem := e4 ▸ hM2, rm := hR1.imp fun _ k => k.moved m2 (spanS_not (Or.inr hpA) (by omega)) (spanS_not (Or.inr hqA) (by omega)), wd := hwd }, ?_⟩
    have hx1 : Fs w1 P.x (pairL P) := hP.fx.moved m1 (by
      have := hP.xr
      rintro ((h | h) | h) <;> omega)
    exact { hP with
      fx := hx1.moved m2 (spanS_not (Or.inr (by omega)) hP.xp)
      fp := hP2
      fr := hK1.moved m2 (spanS_not (Or.inr (by omega)) hP.pr.symm)
      sim := hsim
      kb := hkb }
  have pg : ∀ w1, Moved (fun b => rSpan p q b ∨ b = P.kr) w w1 → Mem w1 A ws bs n ∧ Seat w1 A P.kp t s ∧ Fs w1 P.kp (machL P.push t s P.M) := fun w1 m1 => by
    have hF1 : HasHead w1 := hE.hF.moved m1 (by rintro ((h | h) | h) <;> (have := hE.g0; omega)) (by rintro ((h | h) | h) <;> (have := hE.g1; omega))
    exact ⟨hM.moved m1 (fun b _ hb => by rintro ((h | h) | h) <;> omega), ⟨hF1, hE.g0, hE.g1, by have := hE.g0; omega, by have := hE.g1; omega, by omega, t0, t4, s0, s64⟩, hP.fp.moved m1 (by have := hP.pr; rintro ((h | h) | h) <;> omega)⟩
  have hx := (hE.wd 1).2
  have hwm := hP.sim.wm
  have hx1 : ∀ w1, Moved (fun b => rSpan p q b ∨ b = P.kr) w w1 → Fs w1 P.x (pairL P) := fun w1 m1 => hP.fx.moved m1 (by
      have := hP.xr
      rintro ((h | h) | h) <;> omega)
  have c2 : w.cell? ⟨P.x, 2, none⟩ = some (.pointer (some ⟨P.kr, 0, none⟩)) := hP.fx.at' 2 rfl
  have FIN := Lib.hid fin
  have PG := Lib.hid pg
  have HX1 := Lib.hid hx1
  clear fin pg hx1 hE hM hR hsim hkb hwd b1 b2 b3 hlh hpA hqA hA hp hq
  obtain ⟨push, x, kp, kr, lo, hi, M, K⟩ := P
  dsimp only at *
  cases push
  · have hst := fun (w1 : World) (hM : Mem w1 A ws bs n) (hS : Seat w1 A kp t s) (hP : Fs w1 kp (machL false t s M)) => popStep_any hS hM hP hx hwm
    generalize refO false t s K ws = r at r1 e1 e2 e3 e4 FIN ⊢
    have hmo : machO false t s M ws = popO t s M ws := rfl
    rw [hmo] at e1 e2 e3 e4 FIN
    generalize hoo : popO t s M ws = o at hst e1 e2 e3 e4 FIN
    rw [e1, e2, e3] at hst
    have HO := Lib.hid hoo
    clear e1 e2 e3 e4 hmo hx hwm hoo hP
    unfold ifc at hst
    go_enter Tryd.func15, Tryd.ntmps15
    go_wp2_with (first
      | (go_at_call 34; (with_reducible refine r1.mono ?_); rintro _ w1 ⟨rfl, m1, hR1, hK1⟩; obtain ⟨g1, g2, g3⟩ := PG.out w1 m1; have d0 : w1.cell? ⟨x, 0, none⟩ = some (.pointer (some ⟨kp, 0, none⟩)) := (HX1.out w1 m1).at' 0 rfl; have d1 : w1.cell? ⟨x, 1, none⟩ = some (.pointer none) := (HX1.out w1 m1).at' 1 rfl)
      | (go_at_call 22; (with_reducible refine (hst w1 g1 g2 g3).mono ?_); rintro _ w2 ⟨rfl, m2, hM2, hP2⟩))
    obtain ⟨f1, f2, f3⟩ := FIN.out w1 w2 m1 hR1 hK1 m2 hM2 hP2
    refine bodyPost_ret (v := .tuple #[.int .i64 r.slot, .int .i64 r.err, .bool r.done, .bool true]) (by simp [results, Tryd.results15]) rfl ?_
    exact ⟨rfl, f1, f2, f3⟩
  · have hst := fun (w1 : World) (hM : Mem w1 A ws bs n) (hS : Seat w1 A kp t s) (hP : Fs w1 kp (machL true t s M)) => pushStep_any hS hM hP hx
    generalize refO true t s K ws = r at r1 e1 e2 e3 e4 FIN ⊢
    have hmo : machO true t s M ws = pushO t s M ws := rfl
    rw [hmo] at e1 e2 e3 e4 FIN
    generalize hoo : pushO t s M ws = o at hst e1 e2 e3 e4 FIN
    rw [e2, e3] at hst
    have HO := Lib.hid hoo
    clear e1 e2 e3 e4 hmo hx hwm hoo hP
    unfold ifc at hst
    go_enter Tryd.func15, Tryd.ntmps15
    go_wp2_with (first
      | (go_at_call 34; (with_reducible refine r1.mono ?_); rintro _ w1 ⟨rfl, m1, hR1, hK1⟩; obtain ⟨g1, g2, g3⟩ := PG.out w1 m1; have d1 : w1.cell? ⟨x, 1, none⟩ = some (.pointer (some ⟨kp, 0, none⟩)) := (HX1.out w1 m1).at' 1 rfl)
      | (go_at_call 21; (with_reducible refine (hst w1 g1 g2 g3).mono ?_); rintro _ w2 ⟨rfl, m2, hM2, hP2⟩))
    obtain ⟨f1, f2, f3⟩ := FIN.out w1 w2 m1 hR1 hK1 m2 hM2 hP2
    refine bodyPost_ret (v := .tuple #[.int .i64 r.slot, .int .i64 r.err, .bool r.done, .bool true]) (by simp [results, Tryd.results15]) rfl ?_
    exact ⟨rfl, f1, f2, f3⟩

/-- A new pair, made by one call. -/
theorem begin_any (a s t : Int) (push : Bool) (slot : Int) (w : World) : Calls Tryd.prog 12 #[.agg #[.int .i64 a, .int .i64 s, .int .i64 t], .agg #[.int .i64 t, .int .i64 s], .bool push, .int .i64 slot] w fun e w' =>
    ∃ P : Pr, e = .returned (.pointer (some ⟨P.x, 0, none⟩)) ∧ Below w.heap.size w w' ∧ PairAt w' a s t P ∧ P.lo = w.heap.size ∧ P.hi = w'.heap.size := by
  have hrn := fun W => refNew_any a s t push slot W
  have hnp := fun W => NewPush_any t s slot W
  have hno := fun W => NewPop_any t s W
  have hsim := sim_begin push slot
  have hb0 : Below w.heap.size w ((w.alloc (.cells #[.int .i64 a, .int .i64 s, .int .i64 t] 23)).alloc (.cells #[.int .i64 t, .int .i64 s] 31)) := ((Below.refl _ _).alloc (Nat.le_refl _) _).alloc (by simp) _
  have hl0 : Fs ((w.alloc (.cells #[.int .i64 a, .int .i64 s, .int .i64 t] 23)).alloc (.cells #[.int .i64 t, .int .i64 s] 31)) (w.heap.size + 1) [.int .i64 t, .int .i64 s] := Fs.new' _ _ (by simp) rfl
  cases push
  · go_enter Tryd.func12, Tryd.ntmps12
    go_wp2_with (first
      | (go_at_call 32; (with_reducible refine (hrn _).mono ?_); rintro _ W1 ⟨kr, rfl, hk1, hb1, hf1⟩; have hl2 := (hl0.below hb1 hl0.lt).alloc (.cells #[.pointer none, .pointer none, .pointer (some ⟨kr, 0, none⟩)] 78); have hx2 : Fs (W1.alloc (.cells #[.pointer none, .pointer none, .pointer (some ⟨kr, 0, none⟩)] 78)) W1.heap.size [.pointer none, .pointer none, .pointer (some ⟨kr, 0, none⟩)] := Fs.new' _ _ rfl rfl; have l0 : (W1.alloc (.cells #[.pointer none, .pointer none, .pointer (some ⟨kr, 0, none⟩)] 78)).cell? ⟨w.heap.size + 1, 0, none⟩ = some (.int .i64 t) := hl2.at' 0 rfl; have l1 : (W1.alloc (.cells #[.pointer none, .pointer none, .pointer (some ⟨kr, 0, none⟩)] 78)).cell? ⟨w.heap.size + 1, 1, none⟩ = some (.int .i64 s) := hl2.at' 1 rfl)
      | (go_at_call 20; (with_reducible refine (hno _).mono ?_); rintro _ W2 ⟨kp, rfl, hk2, hb2, hf2⟩; have hx3 := hx2.below hb2 hx2.lt; have x0 : W2.cell? ⟨W1.heap.size, 0, none⟩ = some (.pointer none) := hx3.at' 0 rfl; have xf := hx3.fz 0))
    go_ret
    have z1 : W1.heap.size = W1.heap.size := rfl
    have hz0 := hb0.size
    have hz1 := hb1.size
    have hz2 := hb2.size
    have hkl := hf1.lt
    have hpl := hf2.lt
    have e0 : ((w.alloc (.cells #[.int .i64 a, .int .i64 s, .int .i64 t] 23)).alloc (.cells #[.int .i64 t, .int .i64 s] 31)).heap.size = w.heap.size + 2 := by simp
    have e1 : (W1.alloc (.cells #[.pointer none, .pointer none, .pointer (some ⟨kr, 0, none⟩)] 78)).heap.size = W1.heap.size + 1 := by simp
    rw [e0] at hk1 hz1
    rw [e1] at hk2 hz2
    refine ⟨⟨false, W1.heap.size, kp, kr, w.heap.size, W2.heap.size, ⟨0, 0, 0, 0, 0⟩, ⟨slot, 1, 0, 0⟩⟩, rfl, ?_, ?_, rfl, by simp⟩
    · exact ((hb0.trans (hb1.mono (by rw [e0]; omega))).alloc (by omega) _ |>.trans (hb2.mono (by rw [e1]; omega))).setCell (by show w.heap.size ≤ W1.heap.size; omega) _
    · have hr2 : Fs W2 kr (refL a s t false ⟨slot, 1, 0, 0⟩) := (hf1.alloc _).below hb2 (by rw [e1]; omega)
      exact ⟨hx3.set 0 (by simp) _, hf2.other _ _ (by show W1.heap.size ≠ kp; omega), hr2.other _ _ (by show W1.heap.size ≠ kr; omega), hsim, (show KB ⟨slot, 1, 0, 0⟩ from ⟨show (-9223372036854775808 : Int) ≤ 0 by decide, show (0 : Int) ≤ 9223372036854775807 by decide⟩), by show w.heap.size ≤ W1.heap.size; omega, by show w.heap.size ≤ kp; omega, by show w.heap.size ≤ kr; omega, by show W1.heap.size < W2.heap.size; omega, hpl, by show kr < W2.heap.size; omega, by show W1.heap.size ≠ kp; omega, by show W1.heap.size ≠ kr; omega, by show kp ≠ kr; omega⟩
  · go_enter Tryd.func12, Tryd.ntmps12
    go_wp2_with (first
      | (go_at_call 32; (with_reducible refine (hrn _).mono ?_); rintro _ W1 ⟨kr, rfl, hk1, hb1, hf1⟩; have hl2 := (hl0.below hb1 hl0.lt).alloc (.cells #[.pointer none, .pointer none, .pointer (some ⟨kr, 0, none⟩)] 78); have hx2 : Fs (W1.alloc (.cells #[.pointer none, .pointer none, .pointer (some ⟨kr, 0, none⟩)] 78)) W1.heap.size [.pointer none, .pointer none, .pointer (some ⟨kr, 0, none⟩)] := Fs.new' _ _ rfl rfl; have l0 : (W1.alloc (.cells #[.pointer none, .pointer none, .pointer (some ⟨kr, 0, none⟩)] 78)).cell? ⟨w.heap.size + 1, 0, none⟩ = some (.int .i64 t) := hl2.at' 0 rfl; have l1 : (W1.alloc (.cells #[.pointer none, .pointer none, .pointer (some ⟨kr, 0, none⟩)] 78)).cell? ⟨w.heap.size + 1, 1, none⟩ = some (.int .i64 s) := hl2.at' 1 rfl)
      | (go_at_call 24; (with_reducible refine (hnp _).mono ?_); rintro _ W2 ⟨kp, rfl, hk2, hb2, hf2⟩; have hx3 := hx2.below hb2 hx2.lt; have x0 : W2.cell? ⟨W1.heap.size, 1, none⟩ = some (.pointer none) := hx3.at' 1 rfl; have xf := hx3.fz 1))
    go_ret
    have z1 : W1.heap.size = W1.heap.size := rfl
    have hz0 := hb0.size
    have hz1 := hb1.size
    have hz2 := hb2.size
    have hkl := hf1.lt
    have hpl := hf2.lt
    have e0 : ((w.alloc (.cells #[.int .i64 a, .int .i64 s, .int .i64 t] 23)).alloc (.cells #[.int .i64 t, .int .i64 s] 31)).heap.size = w.heap.size + 2 := by simp
    have e1 : (W1.alloc (.cells #[.pointer none, .pointer none, .pointer (some ⟨kr, 0, none⟩)] 78)).heap.size = W1.heap.size + 1 := by simp
    rw [e0] at hk1 hz1
    rw [e1] at hk2 hz2
    refine ⟨⟨true, W1.heap.size, kp, kr, w.heap.size, W2.heap.size, ⟨slot, 0, 0, 0, 0⟩, ⟨slot, 1, 0, 0⟩⟩, rfl, ?_, ?_, rfl, by simp⟩
    · exact ((hb0.trans (hb1.mono (by rw [e0]; omega))).alloc (by omega) _ |>.trans (hb2.mono (by rw [e1]; omega))).setCell (by show w.heap.size ≤ W1.heap.size; omega) _
    · have hr2 : Fs W2 kr (refL a s t true ⟨slot, 1, 0, 0⟩) := (hf1.alloc _).below hb2 (by rw [e1]; omega)
      exact ⟨hx3.set 1 (by simp) _, hf2.other _ _ (by show W1.heap.size ≠ kp; omega), hr2.other _ _ (by show W1.heap.size ≠ kr; omega), hsim, (show KB ⟨slot, 1, 0, 0⟩ from ⟨show (-9223372036854775808 : Int) ≤ 0 by decide, show (0 : Int) ≤ 9223372036854775807 by decide⟩), by show w.heap.size ≤ W1.heap.size; omega, by show w.heap.size ≤ kp; omega, by show w.heap.size ≤ kr; omega, by show W1.heap.size < W2.heap.size; omega, hpl, by show kr < W2.heap.size; omega, by show W1.heap.size ≠ kp; omega, by show W1.heap.size ≠ kr; omega, by show kp ≠ kr; omega⟩
end
end Go.Proofs.YtlidoicpfomfcaaDoor
