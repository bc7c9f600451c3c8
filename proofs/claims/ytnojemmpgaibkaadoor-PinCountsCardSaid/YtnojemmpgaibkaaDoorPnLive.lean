/-
  Some answers that the document gives for a pin: the statements' own sample.
  Conditions: none but that the tables read as they are laid.
-/
import Derived.Test.YtnojemmpgaibkaaDoorPnRun
import Derived.Test.YtnojemmpgaibkaaDoorPnStart
import Derived.Test.YtnojemmpgaibkaaDoorRvMore
import Derived.Test.YtnojemmpgaibkaaDoorEntryRef
namespace Go.Proofs.YtnojemmpgaibkaaDoor
open Go.RowKit
attribute [local go_sem] Later.cell Later.frozen Later.lt Later.le
set_option linter.unusedVariables false
set_option linter.unusedSimpArgs false

section
variable {w W : World} {A : PAt} {t s : Int} {ws bs ws' bs' : List Int} {K : List (Nat × List Value)} {k : Nat} {M M' : Pm}
/-- Many steps, and one, where all is known. -/
theorem rvpRun (N : Nat) (NI : Int) (hNI : NI = N) (hN : N ≤ 1000) {R : Pr} (h : Rv w A t s ws bs K W) (hk : A.hi ≤ k) (hK : ∀ p ∈ K, p.1 ≠ k) (hP : Fs W k (pmL t s M)) (hst : 0 ≤ M.step ∧ M.step ≤ 2) (hr : pmRun t s N 0 M ws = R) :
    Calls Tryd.prog 37 #[.pointer (some ⟨A.p, 0, none⟩), .pointer (some ⟨k, 0, none⟩), .int .i64 NI] W fun e w' => e = .returned (.tuple #[.agg #[.int .i64 R.c, .int .i64 0], .int .i64 R.j]) ∧ Rv w A t s R.ws bs K w' ∧ Fs w' k (pmL t s R.M) ∧ Moved (spanS A k) W w' := by
  subst hNI
  obtain ⟨n, hm⟩ := h.mem
  have := prun_any N hN hst (h.seat hk) hm hP
  rw [hr] at this
  exact this.mono fun _ _ ⟨he, m, hm', hf⟩ => ⟨he, h.turns hk hK m hm', hf, m⟩
theorem rvpStep {c : Int} {d : Bool} (h : Rv w A t s ws bs K W) (hk : A.hi ≤ k) (hK : ∀ p ∈ K, p.1 ≠ k) (hP : Fs W k (pmL t s M)) (hst : 0 ≤ M.step ∧ M.step ≤ 2) (hO : pmO t s M ws = M') (hW : pmW t s M ws = ws') (hT : pmT M M' = (c, d)) :
    Calls Tryd.prog 32 #[.pointer (some ⟨k, 0, none⟩), ifc A] W fun e w' => e = .returned (.tuple #[.agg #[.int .i64 c, .int .i64 0], .bool d]) ∧ Rv w A t s ws' bs K w' ∧ Fs w' k (pmL t s M') ∧ Moved (spanS A k) W w' := by
  obtain ⟨n, hm⟩ := h.mem
  have := pstep_any hst (h.seat hk) hm hP
  rw [hO, hW, hT] at this
  exact this.mono fun _ _ ⟨he, m, hm', hf⟩ => ⟨he, h.turns hk hK m hm', hf, m⟩
/-- A machine that New has just made. -/
theorem rvpNew {W0 : World} (N : Nat) (NI : Int) (hNI : NI = N) (hN : N ≤ 1000) {R : Pr} (h0 : Rv w A t s ws bs K W0) (hk0 : W0.heap.size ≤ k) (hb : Below W0.heap.size W0 W) (hP : Fs W k (pmL t s M)) (hst : 0 ≤ M.step ∧ M.step ≤ 2) (hr : pmRun t s N 0 M ws = R) :
    Calls Tryd.prog 37 #[.pointer (some ⟨A.p, 0, none⟩), .pointer (some ⟨k, 0, none⟩), .int .i64 NI] W fun e w' => e = .returned (.tuple #[.agg #[.int .i64 R.c, .int .i64 0], .int .i64 R.j]) ∧ Rv w A t s R.ws bs K w' :=
  (rvpRun N NI hNI hN (h0.below hb) (Nat.le_trans h0.hi_le hk0) (fun p hp => by have := (h0.keep p hp).1.lt; omega) hP hst hr).mono fun _ _ ⟨he, h1, _, _⟩ => ⟨he, h1⟩
end
/-- The statements' own choice of a machine. -/
theorem one_yes (a s t h : Int) (un : Bool) (hm : mayC a s t = true) (w : World) : Calls Tryd.prog 34 #[.agg #[.int .i64 a, .int .i64 s, .int .i64 t], .int .i64 h, .bool un] w
    fun e w' => ∃ k, e = .returned (.pointer (some ⟨k, 0, none⟩)) ∧ w.heap.size ≤ k ∧ Below w.heap.size w w' ∧ Fs w' k (pmL t s (pmNew h s un)) := by
  cases un
  · have hc : ∀ W, Calls Tryd.prog 29 #[.agg #[.int .i64 a, .int .i64 s, .int .i64 t], .int .i64 h] W fun e w' => ∃ k, e = .returned (.pointer (some ⟨k, 0, none⟩)) ∧ W.heap.size ≤ k ∧ Below W.heap.size W w' ∧ Fs w' k (pmL t s (pmNew h s false)) := fun W => pnew_yes a s t h false hm W
    clear hm
    go_enter Tryd.func34, Tryd.ntmps34
    go_wp2_with (go_at_call 29; (with_reducible refine (hc _).mono ?_); rintro _ w1 ⟨k, rfl, hk, hb, hf⟩)
    go_ret
    exact ⟨k, rfl, by rw [World.size_alloc] at hk; omega, ((Below.refl _ _).alloc (Nat.le_refl _) _).trans (hb.mono (by simp)), hf⟩
  · have hc : ∀ W, Calls Tryd.prog 30 #[.agg #[.int .i64 a, .int .i64 s, .int .i64 t], .int .i64 h] W fun e w' => ∃ k, e = .returned (.pointer (some ⟨k, 0, none⟩)) ∧ W.heap.size ≤ k ∧ Below W.heap.size W w' ∧ Fs w' k (pmL t s (pmNew h s true)) := fun W => pnew_yes a s t h true hm W
    clear hm
    go_enter Tryd.func34, Tryd.ntmps34
    go_wp2_with (go_at_call 30; (with_reducible refine (hc _).mono ?_); rintro _ w1 ⟨k, rfl, hk, hb, hf⟩)
    go_ret
    exact ⟨k, rfl, by rw [World.size_alloc] at hk; omega, ((Below.refl _ _).alloc (Nat.le_refl _) _).trans (hb.mono (by simp)), hf⟩
theorem one_no (a s t h : Int) (un : Bool) (hm : mayC a s t = false) (w : World) : Calls Tryd.prog 34 #[.agg #[.int .i64 a, .int .i64 s, .int .i64 t], .int .i64 h, .bool un] w
    fun e w' => ∃ k, e = .returned (.pointer (some ⟨k, 0, none⟩)) ∧ w.heap.size ≤ k ∧ Below w.heap.size w w' ∧ Fs w' k pmL0 := by
  cases un
  · have hc : ∀ W, Calls Tryd.prog 29 #[.agg #[.int .i64 a, .int .i64 s, .int .i64 t], .int .i64 h] W fun e w' => ∃ k, e = .returned (.pointer (some ⟨k, 0, none⟩)) ∧ W.heap.size ≤ k ∧ Below W.heap.size W w' ∧ Fs w' k pmL0 := fun W => pnew_no a s t h false hm W
    clear hm
    go_enter Tryd.func34, Tryd.ntmps34
    go_wp2_with (go_at_call 29; (with_reducible refine (hc _).mono ?_); rintro _ w1 ⟨k, rfl, hk, hb, hf⟩)
    go_ret
    exact ⟨k, rfl, by rw [World.size_alloc] at hk; omega, ((Below.refl _ _).alloc (Nat.le_refl _) _).trans (hb.mono (by simp)), hf⟩
  · have hc : ∀ W, Calls Tryd.prog 30 #[.agg #[.int .i64 a, .int .i64 s, .int .i64 t], .int .i64 h] W fun e w' => ∃ k, e = .returned (.pointer (some ⟨k, 0, none⟩)) ∧ W.heap.size ≤ k ∧ Below W.heap.size W w' ∧ Fs w' k pmL0 := fun W => pnew_no a s t h true hm W
    clear hm
    go_enter Tryd.func34, Tryd.ntmps34
    go_wp2_with (go_at_call 30; (with_reducible refine (hc _).mono ?_); rintro _ w1 ⟨k, rfl, hk, hb, hf⟩)
    go_ret
    exact ⟨k, rfl, by rw [World.size_alloc] at hk; omega, ((Below.refl _ _).alloc (Nat.le_refl _) _).trans (hb.mono (by simp)), hf⟩
set_option maxHeartbeats 1000000 in
theorem pstep_end {w : World} {k : Nat} {L : List Value} (a : Value) (hP : Fs w k L) (h0 : L[7]? = some (.int .i64 0)) (T : TypeId) (p : Addr) (hT : a = .iface T (.pointer (some p))) : Calls Tryd.prog 32 #[.pointer (some ⟨k, 0, none⟩), a] w (Ret w (.tuple #[.agg #[.int .i64 1, .int .i64 0], .bool true])) := by
  have c7 : w.cell? ⟨k, 7, none⟩ = some (.int .i64 0) := hP.at' 7 h0
  have hlt := hP.lt
  subst hT
  clear hP h0
  go_enter Tryd.func32, Tryd.ntmps32
  go_wp2
  refine bodyPost_ret (v := .tuple #[.agg #[.int .i64 1, .int .i64 0], .bool true]) (by simp [results, Tryd.results32, go_sem]) rfl ?_
  exact Ret.mk rfl ((Below.refl _ _).alloc (Nat.le_refl _) _)
/-- One that has ended, alone. -/
theorem prun_end (N : Nat) (hN : 1 ≤ N ∧ N ≤ 1000) {w : World} {k p : Nat} {L : List Value} (hP : Fs w k L) (h0 : L[7]? = some (.int .i64 0)) : Calls Tryd.prog 37 #[.pointer (some ⟨p, 0, none⟩), .pointer (some ⟨k, 0, none⟩), .int .i64 N] w (Ret w (.tuple #[.agg #[.int .i64 1, .int .i64 0], .int .i64 1])) := by
  have hs := fun (y : Later w) => pstep_end (.iface 27 (.pointer (some ⟨p, 0, none⟩))) (hP.later y) h0 _ _ rfl
  have hN1 : (1 : Int) ≤ N := by omega
  have hs0 := hs ⟨w.alloc (.cells #[.int .i64 0, .int .i64 0] 41), (Below.refl _ _).alloc (Nat.le_refl _) _⟩
  simp only at hs0
  have hlt := hP.lt
  clear hs hP
  go_enter Tryd.func37, Tryd.ntmps37
  go_wp2
  refine wp_loop_rounds 1 ?_
  rw [rounds_succ]
  go_wp2_with (go_at_call 32; (with_reducible refine hs0.mono ?_); rintro _ _ ⟨rfl, y, rfl⟩)
  have hR := ((((Fs.new' (l := [.int .i64 0, .int .i64 0]) #[.int .i64 0, .int .i64 0] 41 rfl rfl).later y).set 0 (by simp) (.int .i64 1)).set 1 (by simp) (.int .i64 0)).alloc (.cells #[.int .i64 1, .int .i64 0] 41)
  have hB : Below w.heap.size w (((y.at'.setCell ⟨w.heap.size, 0, none⟩ (.int .i64 1)).setCell ⟨w.heap.size, 1, none⟩ (.int .i64 0)).alloc (.cells #[.int .i64 1, .int .i64 0] 41)) := by
    have h0 : Below w.heap.size w y.at' := y.cat ((Below.refl _ _).alloc (Nat.le_refl _) _) (by simp)
    have h1 : Below w.heap.size w ((y.at'.setCell ⟨w.heap.size, 0, none⟩ (.int .i64 1)).setCell ⟨w.heap.size, 1, none⟩ (.int .i64 0)) := (h0.setCell (by simp) _).setCell (by simp) _
    exact h1.alloc h1.size _
  generalize ((y.at'.setCell ⟨w.heap.size, 0, none⟩ (.int .i64 1)).setCell ⟨w.heap.size, 1, none⟩ (.int .i64 0)).alloc (.cells #[.int .i64 1, .int .i64 0] 41) = W2 at hR hB ⊢
  have e0 : W2.cell? ⟨w.heap.size, 0, none⟩ = some (.int .i64 1) := hR.at' 0 rfl
  have e1 : W2.cell? ⟨w.heap.size, 1, none⟩ = some (.int .i64 0) := hR.at' 1 rfl
  refine bodyPost_ret (v := .tuple #[.agg #[.int .i64 1, .int .i64 0], .int .i64 1]) (by simp [results, Tryd.results37, go_sem, e0, e1]) rfl ?_
  exact Ret.mk rfl hB

/-! ### the sample -/
def wp0 : List Int := [0, 1, 0, 0, 0, 0, 0, 0]
def wpX (x : Int) : List Int := [0, 1, 0, 0, 0, x, 0, 0]
theorem wp_set (x y : Int) : setI wp0 5 x = wpX x ∧ setI (wpX x) 5 y = wpX y ∧ atI (wpX x) 5 = x := ⟨rfl, rfl, rfl⟩
theorem mk00 : mkV 0 0 = 1099511627776 ∧ mkE 0 0 = 0 := by decide +kernel
theorem pl_1 : ∃ M, pmRun 1 1 10 0 (pmNew 1099511627776 1 false) (wpX 562949953421312) = ⟨0, 2, M, wpX 564049465049088⟩ := ⟨(pmRun 1 1 10 0 (pmNew 1099511627776 1 false) (wpX 562949953421312)).M, by kernel_rfl⟩
theorem pl_2 : ∃ M, pmRun 1 1 10 0 (pmNew 1099511627776 1 true) (wpX 564049465049088) = ⟨0, 2, M, wpX 562949953421312⟩ := ⟨(pmRun 1 1 10 0 (pmNew 1099511627776 1 true) (wpX 564049465049088)).M, by kernel_rfl⟩
theorem pl_3 : ∃ M, pmRun 1 1 10 0 (pmNew 1099511627776 1 true) (wpX 562949953421312) = ⟨8, 1, M, wpX 562949953421312⟩ := ⟨(pmRun 1 1 10 0 (pmNew 1099511627776 1 true) (wpX 562949953421312)).M, by kernel_rfl⟩
theorem pl_4 : ∃ M, pmRun 1 1 10 0 (pmNew 1099511627777 1 false) (wpX 562949953421312) = ⟨4, 1, M, wpX 562949953421312⟩ := ⟨(pmRun 1 1 10 0 (pmNew 1099511627777 1 false) (wpX 562949953421312)).M, by kernel_rfl⟩
theorem pl_5 : ∃ M, pmRun 1 1 10 0 (pmNew 1099511627776 1 false) (wpX 570646534815744) = ⟨7, 1, M, wpX 570646534815744⟩ := ⟨(pmRun 1 1 10 0 (pmNew 1099511627776 1 false) (wpX 570646534815744)).M, by kernel_rfl⟩
theorem pm_new_st (h s : Int) (un : Bool) : 0 ≤ (pmNew h s un).step ∧ (pmNew h s un).step ≤ 2 := by unfold pmNew; simp

set_option maxHeartbeats 16000000 in
set_option maxRecDepth 8000 in
theorem plive_any (w : World) (hH : HasHead w) (hE : HasFields w) : Calls Tryd.prog 25 #[] w (Ret w (.bool true)) := by
  have hst := start14_yes 8 1 1 (by decide) (w.alloc (.cells #[.int .i64 8, .int .i64 1, .int .i64 1] 26)) (hH.alloc _)
  have hmk := fun W => Make_same 0 0 W
  rw [mk00.1, mk00.2] at hmk
  obtain ⟨M1, e1⟩ := pl_1
  obtain ⟨M2, e2⟩ := pl_2
  obtain ⟨M3, e3⟩ := pl_3
  obtain ⟨M4, e4⟩ := pl_4
  obtain ⟨M5, e5⟩ := pl_5
  have n1 : ∀ W, Calls Tryd.prog 29 #[.agg #[.int .i64 8, .int .i64 1, .int .i64 1], .int .i64 1099511627776] W fun e w' => ∃ k, e = .returned (.pointer (some ⟨k, 0, none⟩)) ∧ W.heap.size ≤ k ∧ Below W.heap.size W w' ∧ Fs w' k (pmL 1 1 (pmNew 1099511627776 1 false)) := fun W => pnew_yes 8 1 1 1099511627776 false (by decide) W
  have n2 : ∀ W, Calls Tryd.prog 30 #[.agg #[.int .i64 8, .int .i64 1, .int .i64 1], .int .i64 1099511627776] W fun e w' => ∃ k, e = .returned (.pointer (some ⟨k, 0, none⟩)) ∧ W.heap.size ≤ k ∧ Below W.heap.size W w' ∧ Fs w' k (pmL 1 1 (pmNew 1099511627776 1 true)) := fun W => pnew_yes 8 1 1 1099511627776 true (by decide) W
  have n3 : ∀ W, Calls Tryd.prog 29 #[.agg #[.int .i64 8, .int .i64 1, .int .i64 1], .int .i64 1099511627777] W fun e w' => ∃ k, e = .returned (.pointer (some ⟨k, 0, none⟩)) ∧ W.heap.size ≤ k ∧ Below W.heap.size W w' ∧ Fs w' k (pmL 1 1 (pmNew 1099511627777 1 false)) := fun W => pnew_yes 8 1 1 1099511627777 false (by decide) W
  have n5 : ∀ W, Calls Tryd.prog 29 #[.agg #[.int .i64 0, .int .i64 0, .int .i64 0], .int .i64 1099511627776] W fun e w' => ∃ k, e = .returned (.pointer (some ⟨k, 0, none⟩)) ∧ W.heap.size ≤ k ∧ Below W.heap.size W w' ∧ Fs w' k pmL0 := fun W => pnew_no 0 0 0 1099511627776 false (by decide) W
  have rr := fun (un : Bool) (h x c : Int) (j : Nat) (M : Pm) (y : Int) (he : pmRun 1 1 10 0 (pmNew h 1 un) (wpX x) = ⟨c, j, M, wpX y⟩) (W0 W : World) (A : PAt) (bs : List Int) (K : List (Nat × List Value)) (k : Nat) (h0 : Rv (w.alloc (.cells #[.int .i64 8, .int .i64 1, .int .i64 1] 26)) A 1 1 (wpX x) bs K W0) (hk : W0.heap.size ≤ k) (hb : Below W0.heap.size W0 W) (hP : Fs W k (pmL 1 1 (pmNew h 1 un))) => rvpNew 10 10 rfl (by decide) h0 hk hb hP (pm_new_st h 1 un) he
  have r1 := rr _ _ _ _ _ _ _ e1
  have r2 := rr _ _ _ _ _ _ _ e2
  have r3 := rr _ _ _ _ _ _ _ e3
  have r4 := rr _ _ _ _ _ _ _ e4
  have r5 := rr _ _ _ _ _ _ _ e5
  have r6 : ∀ (W : World) (p k : Nat), Fs W k pmL0 → Calls Tryd.prog 37 #[.pointer (some ⟨p, 0, none⟩), .pointer (some ⟨k, 0, none⟩), .int .i64 10] W (Ret W (.tuple #[.agg #[.int .i64 1, .int .i64 0], .int .i64 1])) := fun W p k hP => prun_end 10 (by decide) (p := p) hP rfl
  clear rr
  have hE0 := hE.alloc (.cells #[.int .i64 8, .int .i64 1, .int .i64 1] 26)
  have hw0 : Below w.heap.size w (w.alloc (.cells #[.int .i64 8, .int .i64 1, .int .i64 1] 26)) := (Below.refl _ _).alloc (Nat.le_refl _) _
  clear e1 e2 e3 e4 e5
  go_enter Tryd.func25, Tryd.ntmps25
  go_wp2_with (first
    | (go_at_call 26; (with_reducible refine hst.mono ?_); rintro _ V1 ⟨A, rfl, hlo, hB1, ws, n, hM1, hlen, hat⟩; have hws := words_of 1 1 wp0 (by decide) (by decide +kernel) ws hlen hat; subst hws; have hv1 := Rv.begin (t := 1) (s := 1) hE0 hlo hB1 hM1 (by decide))
    | (go_at_call 14; (with_reducible refine (hmk _).mono ?_); rintro _ _ ⟨rfl, rfl⟩)
    | (go_at_call 17; (with_reducible refine (rvStore hv1 _ _).mono ?_); rintro _ V2 ⟨rfl, hv2, -⟩; rw [(wp_set 562949953421312 0).1] at hv2; obtain ⟨a0, a1, a2⟩ := rv_cell hv2; clear hv1)
    | (go_at_call 29; (with_reducible refine (n5 _).mono ?_); rintro _ V40 ⟨k6, rfl, hk6, hb6, hf6⟩; have hv40 := hv39.below hb6)
    | (go_at_call 37; (with_reducible refine (r6 _ A.p _ hf6).mono ?_); rintro _ _ ⟨rfl, x41, rfl⟩; have hv41 := (hv40.later x41).push #[.int .i64 1, .int .i64 0] 41; obtain ⟨z1, z2⟩ := rv_two (q := V3.heap.size) (a := .int .i64 0) (b := .int .i64 0) hv41 (by simp); obtain ⟨z3, z4⟩ := rv_two (q := V6.heap.size) (a := .int .i64 0) (b := .int .i64 0) hv41 (by simp); obtain ⟨z5, z6⟩ := rv_two (q := V9.heap.size) (a := .int .i64 8) (b := .int .i64 0) hv41 (by simp); obtain ⟨z7, z8⟩ := rv_two (q := V12.heap.size) (a := .int .i64 4) (b := .int .i64 0) hv41 (by simp); obtain ⟨z9, z10⟩ := rv_two (q := V38.heap.size) (a := .int .i64 7) (b := .int .i64 0) hv41 (by simp))
    | (go_at_call 29; (with_reducible refine (n1 _).mono ?_); have hv36' := hv35; rintro _ V36 ⟨k5, rfl, hk5, hb5, hf5⟩)
    | (go_at_call 37; (with_reducible refine (r5 _ _ _ _ _ _ hv35 hk5 hb5 hf5).mono ?_); rintro _ V38 ⟨rfl, hv38⟩; have hv39 := hv38.push #[.int .i64 7, .int .i64 0] 41; clear a0 a1 a2 hv35 hv36' hv38)
    | (go_at_call 17; (with_reducible refine (rvStore hv13 _ _).mono ?_); rintro _ V35 ⟨rfl, hv35, -⟩; rw [(wp_set 562949953421312 570646534815744).2.1] at hv35; clear a0 a1 a2 hv13; obtain ⟨a0, a1, a2⟩ := rv_cell hv35)
    | (go_at_call 29; (with_reducible refine (n3 _).mono ?_); have hv10' := hv10; rintro _ V11 ⟨k4, rfl, hk4, hb4, hf4⟩)
    | (go_at_call 37; (with_reducible refine (r4 _ _ _ _ _ _ hv10 hk4 hb4 hf4).mono ?_); rintro _ V12 ⟨rfl, hv12⟩; have hv13 := hv12.push #[.int .i64 4, .int .i64 0] 41; clear a0 a1 a2 hv10 hv10' hv12; obtain ⟨a0, a1, a2⟩ := rv_cell hv13)
    | (go_at_call 30; (with_reducible refine (n2 _).mono ?_); have hv7' := hv7; rintro _ V8 ⟨k3, rfl, hk3, hb3, hf3⟩)
    | (go_at_call 37; (with_reducible refine (r3 _ _ _ _ _ _ hv7 hk3 hb3 hf3).mono ?_); rintro _ V9 ⟨rfl, hv9⟩; have hv10 := hv9.push #[.int .i64 8, .int .i64 0] 41; clear a0 a1 a2 hv7 hv7' hv9; obtain ⟨a0, a1, a2⟩ := rv_cell hv10)
    | (go_at_call 30; (with_reducible refine (n2 _).mono ?_); have hv4' := hv4b; rintro _ V5 ⟨k2, rfl, hk2, hb2, hf2⟩)
    | (go_at_call 37; (with_reducible refine (r2 _ _ _ _ _ _ hv4b hk2 hb2 hf2).mono ?_); rintro _ V6 ⟨rfl, hv6⟩; have hv7 := hv6.push #[.int .i64 0, .int .i64 0] 41; clear a0 a1 a2 hv4b hv4' hv6; obtain ⟨a0, a1, a2⟩ := rv_cell hv7)
    | (go_at_call 29; (with_reducible refine (n1 _).mono ?_); have hv2' := hv2; rintro _ V2b ⟨k1, rfl, hk1, hb1, hf1⟩)
    | (go_at_call 37; (with_reducible refine (r1 _ _ _ _ _ _ hv2 hk1 hb1 hf1).mono ?_); rintro _ V3 ⟨rfl, hv3⟩; have hv4 := hv3.push #[.int .i64 0, .int .i64 0] 41; clear a0 a1 a2 hv2 hv2' hv3)
    | (go_at_call 22; (with_reducible refine (rvLoad hv4 _).mono ?_); rintro _ V4b ⟨rfl, hv4b, -⟩; rw [(wp_set 564049465049088 0).2.2]; obtain ⟨a0, a1, a2⟩ := rv_cell hv4b; clear hv4))
  go_ret
  exact Ret.mk rfl (hw0.trans (hv41.bel.mono hw0.size))
end Go.Proofs.YtnojemmpgaibkaaDoor
