/-
  Four pairs of machines on two cells of the same words: what is known all along, and behind each thing that is done.
  Conditions: none; plain lemmas.
-/
import Derived.Test.YtlidoicpfomfcaaDoorStSame
import Derived.Test.YtlidoicpfomfcaaDoorRfFree
namespace Go.Proofs.YtlidoicpfomfcaaDoor
open Go.RowKit
set_option linter.unusedVariables false

theorem casW_length (ws : List Int) (i o v : Int) : (casW ws i o v).length = ws.length := by
  unfold casW
  split
  · exact setI_length _ _ _
  · rfl
theorem ref_length (push : Bool) (t s : Int) (K : Rc) (ws : List Int) : (refO push t s K ws).ws.length = ws.length := by
  unfold refO
  split
  · unfold ref1
    split
    · rfl
    · split
      · split <;> rfl
      · rfl
  · split
    · unfold ref2
      split
      · exact setI_length _ _ _
      · split <;> rfl
    · split
      · unfold ref3
        split
        · exact casW_length _ _ _ _
        · rfl
      · rfl

/-- Where all lies. -/
structure At4 where
  A : PAt
  bs : List Int
  p : Nat
  q : Nat
  bv : Value
  bc : Nat
  bp : Nat
  bl : Nat
  r : Nat
  base : Nat
def upd (P : Nat → Pr) (n : Nat) (x : Pr) : Nat → Pr := fun i => if i = n then x else P i
theorem upd_same (P : Nat → Pr) (n : Nat) (x : Pr) : upd P n x n = x := if_pos rfl
theorem upd_other (P : Nat → Pr) {n i : Nat} (x : Pr) (h : i ≠ n) : upd P n x i = P i := if_neg h
/-- What is known all along. -/
structure St4 (w : World) (X : At4) (a s t s0 s1 : Int) (ws : List Int) (P : Nat → Pr) (W : World) : Prop where
  bel : Below w.heap.size w W
  env : Env W X.A X.bs X.p X.q X.bv a s t ws
  fc : Fs W X.bc [.int .i64 a, .int .i64 s, .int .i64 t]
  fp : Fs W X.bp [.int .i64 s0, .int .i64 s1]
  fl : Fs W X.bl [.int .i64 t, .int .i64 s]
  fr : Fs W X.r [.pointer (some ⟨(P 0).x, 0, none⟩), .pointer (some ⟨(P 1).x, 0, none⟩), .pointer (some ⟨(P 2).x, 0, none⟩), .pointer (some ⟨(P 3).x, 0, none⟩)]
  pr : ∀ n, n < 4 → PairAt W a s t (P n)
  lo : ∀ n, n < 4 → X.base ≤ (P n).lo ∧ (P n).hi ≤ W.heap.size
  dj : ∀ n m, n < 4 → m < 4 → n ≠ m → (P n).hi ≤ (P m).lo ∨ (P m).hi ≤ (P n).lo
  rn : ∀ n, n < 4 → X.r < (P n).lo ∨ (P n).hi ≤ X.r
  wl : (ws.length : Int) = wordsN t s
  wA : w.heap.size ≤ X.A.lo
  wp : w.heap.size ≤ X.p
  wq : w.heap.size ≤ X.q
  cA : X.bc < X.A.lo ∨ X.A.hi ≤ X.bc
  pA : X.bp < X.A.lo ∨ X.A.hi ≤ X.bp
  lA : X.bl < X.A.lo ∨ X.A.hi ≤ X.bl
  rA : X.A.hi ≤ X.r
  cp : X.bc ≠ X.p
  cq : X.bc ≠ X.q
  pp : X.bp ≠ X.p
  pq : X.bp ≠ X.q
  lp : X.bl ≠ X.p
  lq : X.bl ≠ X.q
  rp : X.r ≠ X.p
  rq : X.r ≠ X.q
  bc0 : X.bc < X.base
  bp0 : X.bp < X.base
  bl0 : X.bl < X.base
  p0 : X.p < X.base
  q0 : X.q < X.base
  A0 : X.A.hi ≤ X.base
  w0 : w.heap.size ≤ X.base
  wr : w.heap.size ≤ X.r
  rc : X.r ≠ X.bc
  rb : X.r ≠ X.bp
  rl : X.r ≠ X.bl

section
variable {w W W' : World} {X : At4} {a s t s0 s1 : Int} {ws ws' : List Int} {P : Nat → Pr}
/-- A step of one pair, or less. -/
theorem St4.step (h : St4 w X a s t s0 s1 ws P W) {n : Nat} (hn : n < 4) {Q : Pr} (m : Moved (pairS X.A X.p X.q (P n)) W W') (hE : Env W' X.A X.bs X.p X.q X.bv a s t ws') (hQ : PairAt W' a s t Q) (hx : Q.x = (P n).x) (hlo : Q.lo = (P n).lo) (hhi : Q.hi = (P n).hi) (hl : ws'.length = ws.length) : St4 w X a s t s0 s1 ws' (upd P n Q) W' := by
  have hb := h.lo n hn
  have hA := h.env.lh
  have ux : ∀ i, (upd P n Q i).x = (P i).x := fun i => by
    by_cases e : i = n
    · subst e; rw [upd_same, hx]
    · rw [upd_other _ _ e]
  have ulo : ∀ i, (upd P n Q i).lo = (P i).lo := fun i => by
    by_cases e : i = n
    · subst e; rw [upd_same, hlo]
    · rw [upd_other _ _ e]
  have uhi : ∀ i, (upd P n Q i).hi = (P i).hi := fun i => by
    by_cases e : i = n
    · subst e; rw [upd_same, hhi]
    · rw [upd_other _ _ e]
  have hr := h.rn n hn
  exact { h with
    bel := m.below h.bel h.bel.size fun b hbb => pairS_not (Or.inl (by have := h.wA; omega)) (by have := h.wp; omega) (by have := h.wq; omega) (Or.inl (by have := h.w0; omega))
    env := hE
    fc := h.fc.moved m (pairS_not h.cA h.cp h.cq (Or.inl (by have := h.bc0; omega)))
    fp := h.fp.moved m (pairS_not h.pA h.pp h.pq (Or.inl (by have := h.bp0; omega)))
    fl := h.fl.moved m (pairS_not h.lA h.lp h.lq (Or.inl (by have := h.bl0; omega)))
    fr := by
      rw [ux, ux, ux, ux]
      exact h.fr.moved m (pairS_not (Or.inr h.rA) h.rp h.rq hr)
    pr := fun i hi => by
      by_cases e : i = n
      · subst e; rw [upd_same]; exact hQ
      · rw [upd_other _ _ e]
        refine (h.pr i hi).moved m fun b h1 h2 => pairS_not (Or.inr (by have := h.A0; have := (h.lo i hi).1; omega)) (by have := h.p0; have := (h.lo i hi).1; omega) (by have := h.q0; have := (h.lo i hi).1; omega) ?_
        rcases h.dj i n hi hn e with k | k <;> omega
    lo := fun i hi => by rw [ulo, uhi]; exact ⟨(h.lo i hi).1, Nat.le_trans (h.lo i hi).2 m.size⟩
    dj := fun i j hi hj e => by rw [ulo, uhi, ulo, uhi]; exact h.dj i j hi hj e
    rn := fun i hi => by rw [ulo, uhi]; exact h.rn i hi
    wl := by rw [hl]; exact h.wl }
theorem upd_self (P : Nat → Pr) (n : Nat) : upd P n (P n) = P := funext fun i => by
  by_cases e : i = n
  · subst e; exact upd_same _ _ _
  · exact upd_other _ _ e
/-- What turns both cells alone. -/
theorem St4.cells (h : St4 w X a s t s0 s1 ws P W) {S : Nat → Prop} (m : Moved S W W') (hS : ∀ b, S b → (X.A.lo ≤ b ∧ b < X.A.hi) ∨ rSpan X.p X.q b) (hE : Env W' X.A X.bs X.p X.q X.bv a s t ws') (hl : ws'.length = ws.length) : St4 w X a s t s0 s1 ws' P W' := by
  have hb := (h.lo 0 (by omega)).1
  have := h.step (n := 0) (by omega) (Q := P 0) (m.mono fun b _ hs => (hS b hs).elim Or.inl fun k => Or.inr (Or.inl k)) hE ((h.pr 0 (by omega)).moved m fun b h1 h2 hs => by
    have hA := h.A0
    have h3 := h.p0
    have h4 := h.q0
    rcases hS b hs with k | (k | k) <;> omega) rfl rfl rfl hl
  rwa [upd_self] at this
/-- What makes memory alone. -/
theorem St4.below (h : St4 w X a s t s0 s1 ws P W) (hb : Below W.heap.size W W') : St4 w X a s t s0 s1 ws P W' :=
  h.cells (S := fun _ => False) (Moved.of_below hb |>.mono fun _ _ k => k) (fun _ k => k.elim) (h.env.moved (S := fun _ => False) (Moved.of_below hb) (fun _ _ k => k) (fun k => k) (fun k => k)) rfl
/-- One pair made anew. -/
theorem St4.anew (h : St4 w X a s t s0 s1 ws P W) {n : Nat} (hn : n < 4) {Q : Pr} (hQ : PairAt W a s t Q) (hlo : X.base ≤ Q.lo) (hhi : Q.hi ≤ W.heap.size) (hd : ∀ m, m < 4 → m ≠ n → (P m).hi ≤ Q.lo ∨ Q.hi ≤ (P m).lo) (hr : X.r < Q.lo ∨ Q.hi ≤ X.r) : St4 w X a s t s0 s1 ws (upd P n Q) (W.setCell ⟨X.r, n, none⟩ (.pointer (some ⟨Q.x, 0, none⟩))) := by
  have hm : Moved (fun b => b = X.r) W (W.setCell ⟨X.r, n, none⟩ (.pointer (some ⟨Q.x, 0, none⟩))) := (Moved.refl _ _).setCell _ _ rfl
  have hA := h.env.lh
  have hrA := h.rA
  exact { h with
    bel := hm.below h.bel h.bel.size fun b hb e => by have := h.wr; omega
    env := h.env.moved hm (fun b hb e => by omega) h.rp.symm h.rq.symm
    fc := h.fc.moved hm h.rc.symm
    fp := h.fp.moved hm h.rb.symm
    fl := h.fl.moved hm h.rl.symm
    fr := by
      have h4 : n = 0 ∨ n = 1 ∨ n = 2 ∨ n = 3 := by omega
      rcases h4 with rfl | rfl | rfl | rfl
      · exact h.fr.set 0 (by simp) _
      · exact h.fr.set 1 (by simp) _
      · exact h.fr.set 2 (by simp) _
      · exact h.fr.set 3 (by simp) _
    pr := fun i hi => by
      by_cases e : i = n
      · subst e; rw [upd_same]
        exact hQ.moved hm fun b h1 h2 e => by omega
      · rw [upd_other _ _ e]
        exact (h.pr i hi).moved hm fun b h1 h2 e => by have := h.rn i hi; omega
    lo := fun i hi => by
      by_cases e : i = n
      · subst e; rw [upd_same]; exact ⟨hlo, Nat.le_trans hhi hm.size⟩
      · rw [upd_other _ _ e]; exact ⟨(h.lo i hi).1, Nat.le_trans (h.lo i hi).2 hm.size⟩
    dj := fun i j hi hj e => by
      by_cases e1 : i = n
      · subst e1
        rw [upd_same, upd_other _ _ (Ne.symm e)]
        exact (hd j hj (Ne.symm e)).symm
      · rw [upd_other _ _ e1]
        by_cases e2 : j = n
        · subst e2; rw [upd_same]; exact hd i hi e1
        · rw [upd_other _ _ e2]; exact h.dj i j hi hj e
    rn := fun i hi => by
      by_cases e : i = n
      · subst e; rw [upd_same]; exact hr
      · rw [upd_other _ _ e]; exact h.rn i hi }

/-- A step of pair n. -/
theorem st4_step (h : St4 w X a s t s0 s1 ws P W) {n : Nat} (hn : n < 4) :
    Calls Tryd.prog 15 #[.pointer (some ⟨(P n).x, 0, none⟩), .pointer (some ⟨X.A.p, 0, none⟩), .pointer (some ⟨X.p, 0, none⟩)] W fun e W' =>
      ∃ (sl er : Int) (d : Bool) (ws' : List Int) (Q : Pr), e = .returned (.tuple #[.int .i64 sl, .int .i64 er, .bool d, .bool true]) ∧ St4 w X a s t s0 s1 ws' (upd P n Q) W' ∧ Q.x = (P n).x ∧ Q.lo = (P n).lo ∧ Q.hi = (P n).hi := by
  have hb := (h.lo n hn).1
  refine (pairStep_any h.env (h.pr n hn) (by have := h.A0; omega) (by have := h.p0; omega) (by have := h.q0; omega)).mono fun e W' ⟨he, hm, hE, hP⟩ => ⟨_, _, _, _, (P n).on t s ws, he, h.step hn hm hE hP rfl rfl rfl (ref_length _ _ _ _ _), rfl, rfl, rfl⟩
theorem st4_same (h : St4 w X a s t s0 s1 ws P W) :
    Calls Tryd.prog 16 #[.pointer (some ⟨X.A.p, 0, none⟩), .pointer (some ⟨X.p, 0, none⟩)] W fun e W' => e = .returned (.bool true) ∧ St4 w X a s t s0 s1 ws P W' := by
  obtain ⟨n, hM⟩ := h.env.mem
  obtain ⟨m, hR⟩ := h.env.rm
  refine (same_any hM hR h.env.pA h.env.qA).mono fun e W' ⟨he, ht, hm⟩ => ⟨he, ?_⟩
  have hmv : Moved (fun b => X.A.lo ≤ b ∧ b < X.A.hi) W W' := Moved.of_touch ht fun b h1 h2 => ⟨h1, h2⟩
  exact h.cells hmv (fun b k => Or.inl k) { h.env with hF := h.env.hF.touch ht h.env.g0 h.env.g1, mem := hm, rm := ⟨m, hR.moved hmv (by have := h.env.pA; omega) (by have := h.env.qA; omega)⟩ } rfl
/-- A word of the program's cells stored, and of the document's. -/
theorem st4_store (h : St4 w X a s t s0 s1 ws P W) (h0 : -9223372036854775808 ≤ s1) (h1 : s1 ≤ 9223372036854775807) :
    Calls Tryd.prog 13 #[.pointer (some ⟨X.A.p, 0, none⟩), .int .i64 s0, .int .i64 s1] W fun e W1 => e = .returned (.tuple #[]) ∧
      (W1.cell? ⟨X.bp, 0, none⟩ = some (.int .i64 s0) ∧ W1.cell? ⟨X.bp, 1, none⟩ = some (.int .i64 s1)) ∧ Calls Tryd.prog 14 #[.pointer (some ⟨X.p, 0, none⟩), .int .i64 s0, .int .i64 s1] W1 fun e W' => e = .returned (.tuple #[]) ∧ St4 w X a s t s0 s1 (setI ws s0 s1) P W' := by
  obtain ⟨n, hM⟩ := h.env.mem
  obtain ⟨m, hR⟩ := h.env.rm
  refine (Store_any s0 s1 hM).mono fun e W1 ⟨he, z, hz, hm⟩ => ?_
  subst hz
  have hmv : Moved (fun b => (X.A.lo ≤ b ∧ b < X.A.hi) ∨ rSpan X.p X.q b) W z.at' := Moved.of_touch z.turn fun b h1 h2 => Or.inl ⟨h1, h2⟩
  have hf : Fs z.at' X.bp [.int .i64 s0, .int .i64 s1] := h.fp.touch z.turn h.pA
  have hR1 := hR.of_block z.turn.size (z.turn.block _ hR.fp.lt (Or.inr h.env.pA)) (z.turn.block _ hR.lq (Or.inr h.env.qA))
  refine ⟨he, ⟨hf.at' 0 rfl, hf.at' 1 rfl⟩, (rStore_any s0 s1 hR1).mono fun e W' ⟨he2, hm2, hr2⟩ => ⟨he2, ?_⟩⟩
  have hA := h.env.lh
  have hpA := h.env.pA
  have hqA := h.env.qA
  have g0 := h.env.g0
  have g1 := h.env.g1
  exact h.cells (hmv.trans (hm2.mono fun _ _ k => Or.inr k)) (fun _ k => k) { h.env with
    hF := (h.env.hF.touch z.turn h.env.g0 h.env.g1).moved hm2 (by rintro (k | k) <;> omega) (by rintro (k | k) <;> omega)
    mem := ⟨_, hm.moved hm2 fun b _ hb => by rintro (k | k) <;> omega⟩
    rm := hr2
    wd := wd_set h.env.wd _ _ h0 h1 } (setI_length _ _ _)
end
end Go.Proofs.YtlidoicpfomfcaaDoor
