/-
  Some answers that the document gives for making objects: the statements' own sample.
  Conditions: none but that the tables read as they are laid.
-/
import Derived.Test.YtfomephgallpmaaDoorAlRunAll
import Derived.Test.YtfomephgallpmaaDoorAlStart
import Derived.Test.YtfomephgallpmaaDoorRvMore
namespace Go.Proofs.YtfomephgallpmaaDoor
open Go.RowKit
attribute [local go_sem] Later.cell Later.frozen Later.lt Later.le
set_option linter.unusedVariables false
set_option linter.unusedSimpArgs false

section
variable {w W : World} {A : PAt} {t s : Int} {ws bs ws' bs' : List Int} {K : List (Nat × List Value)} {k : Nat} {X : Am}
theorem Rv.head (h : Rv w A t s ws bs K W) (hH : HasHead w) (hk : A.hi ≤ k) : Seat W A k t s := by
  have h0 := hH.lt0
  have h1 := hH.lt1
  have hl := h.lo
  have hh := h.lohi
  exact { hF := hH.below h.bel, g0 := by omega, g1 := by omega, k0 := by omega, k1 := by omega, hk := hk, t0 := h.t0, t4 := h.t4, s0 := h.s0, s64 := h.s64 }
/-- Many steps, where all is known. -/
theorem rvaRun (N : Nat) (NI : Int) (hNI : NI = N) (hN : N ≤ 1000) {R : Ar} (hH : HasHead w) (h : Rv w A t s ws bs K W) (hk : A.hi ≤ k) (hK : ∀ p ∈ K, p.1 ≠ k) (hP : Fs W k (alL t s X)) (hi : AlInv t s X ws) (hr : alRun t s N 0 X ws bs = R) :
    Calls Tryd.prog 11 #[.pointer (some ⟨A.p, 0, none⟩), .pointer (some ⟨k, 0, none⟩), .int .i64 NI] W fun e w' => e = .returned (.tuple #[.agg #[.int .i64 R.c, .int .i64 R.v], .int .i64 R.j]) ∧ Rv w A t s R.ws R.bs K w' ∧ Fs w' k (alL t s R.X) ∧ Moved (spanS A k) W w' := by
  subst hNI
  obtain ⟨n, hm⟩ := h.mem
  have := arun_any N hN hi (h.head hH hk) (h.seat hk) hm hP
  rw [hr] at this
  exact this.mono fun _ _ ⟨he, m, hm', hf⟩ => ⟨he, h.turns hk hK m hm', hf, m⟩
theorem inv_new (a n : Int) (hx : atI ws 1 ≤ 9223372036854775807) : AlInv t s (amNew a n) ws := ⟨by simp [amNew], by simp [amNew], by simp [amNew], hx, by simp [amNew], by simp [amNew], by simp [amNew]⟩
end
set_option maxHeartbeats 1000000 in
/-- One that has ended, alone. -/
theorem arun_end (N : Nat) (hN : 1 ≤ N ∧ N ≤ 1000) {w : World} {k p : Nat} {t s : Int} {M : Am} (hP : Fs w k (alL t s M)) (h0 : M.step = 0) : Calls Tryd.prog 11 #[.pointer (some ⟨p, 0, none⟩), .pointer (some ⟨k, 0, none⟩), .int .i64 N] w (Ret w (.tuple #[.agg #[.int .i64 1, .int .i64 0], .int .i64 1])) := by
  have hs := fun (y : Later w) => anil_step h0 (hP.later y) 25 ⟨p, 0, none⟩
  have hN1 : (1 : Int) ≤ N := by omega
  have hs0 := hs ⟨w.alloc (.cells #[.int .i64 0, .int .i64 0] 32), (Below.refl _ _).alloc (Nat.le_refl _) _⟩
  simp only at hs0
  have hlt := hP.lt
  clear hs hP
  go_enter Tryd.func11, Tryd.ntmps11
  go_wp2
  refine wp_loop_rounds 1 ?_
  rw [rounds_succ]
  go_wp2_with (go_at_call 17; (with_reducible refine hs0.mono ?_); rintro _ _ ⟨rfl, y, rfl⟩)
  have hR := ((((Fs.new' (l := [.int .i64 0, .int .i64 0]) #[.int .i64 0, .int .i64 0] 32 rfl rfl).later y).set 0 (by simp) (.int .i64 1)).set 1 (by simp) (.int .i64 0)).alloc (.cells #[.int .i64 1, .int .i64 0] 32)
  have hB : Below w.heap.size w (((y.at'.setCell ⟨w.heap.size, 0, none⟩ (.int .i64 1)).setCell ⟨w.heap.size, 1, none⟩ (.int .i64 0)).alloc (.cells #[.int .i64 1, .int .i64 0] 32)) := by
    have h0 : Below w.heap.size w y.at' := y.cat ((Below.refl _ _).alloc (Nat.le_refl _) _) (by simp)
    have h1 : Below w.heap.size w ((y.at'.setCell ⟨w.heap.size, 0, none⟩ (.int .i64 1)).setCell ⟨w.heap.size, 1, none⟩ (.int .i64 0)) := (h0.setCell (by simp) _).setCell (by simp) _
    exact h1.alloc h1.size _
  generalize ((y.at'.setCell ⟨w.heap.size, 0, none⟩ (.int .i64 1)).setCell ⟨w.heap.size, 1, none⟩ (.int .i64 0)).alloc (.cells #[.int .i64 1, .int .i64 0] 32) = W2 at hR hB ⊢
  have e0 : W2.cell? ⟨w.heap.size, 0, none⟩ = some (.int .i64 1) := hR.at' 0 rfl
  have e1 : W2.cell? ⟨w.heap.size, 1, none⟩ = some (.int .i64 0) := hR.at' 1 rfl
  refine bodyPost_ret (v := .tuple #[.agg #[.int .i64 1, .int .i64 0], .int .i64 1]) (by simp [results, Tryd.results11, go_sem, e0, e1]) rfl ?_
  exact Ret.mk rfl hB


/-! ### the sample -/
def al0 : List Int := [0, 1, 0, 0, 0, 0, 0, 2, 0, 0, 0]
def alW1 : List Int := [8, 1048578, 0, 0, 0, 562949953421312, 4, 2, 0, 0, 0]
def alW2 : List Int := [8, 3145730, 0, 0, 0, 562949953421312, 4, 2, 0, 0, 0]
def alB0 : List Int := [0, 0, 0, 0, 0, 0, 0, 0, 0, 0, 0, 0, 0, 0, 0, 0]
def alB9 : List Int := [0, 0, 0, 9, 0, 0, 0, 0, 0, 0, 0, 0, 0, 0, 0, 0]
theorem al_bytes : List.replicate (16 : Int).toNat (0 : Int) = alB0 := by decide +kernel
theorem al_mk : mkV 0 0 = 1099511627776 ∧ mkE 0 0 = 0 := by decide +kernel
theorem al_r1 : ∃ X, alRun 1 2 100 0 (amNew 16 4) al0 alB9 = ⟨0, 1099511627776, 20, X, alW1, alB0⟩ := ⟨(alRun 1 2 100 0 (amNew 16 4) al0 alB9).X, by kernel_rfl⟩
theorem al_r2 : ∃ X, alRun 1 2 100 0 (amNew 16 9) alW1 alB0 = ⟨10, 0, 11, X, alW2, alB0⟩ := ⟨(alRun 1 2 100 0 (amNew 16 9) alW1 alB0).X, by kernel_rfl⟩
theorem al_r3 : ∃ X, alRun 1 2 100 0 (amNew 16 0) alW2 alB0 = ⟨9, 0, 1, X, alW2, alB0⟩ := ⟨(alRun 1 2 100 0 (amNew 16 0) alW2 alB0).X, by kernel_rfl⟩
set_option maxHeartbeats 16000000 in
set_option maxRecDepth 8000 in
theorem alive_any (w : World) (hH : HasHead w) (hE : HasFields w) : Calls Tryd.prog 9 #[] w (Ret w (.bool true)) := by
  have hst := start_yes 16 2 1 (by decide) (w.alloc (.cells #[.int .i64 16, .int .i64 2, .int .i64 1] 23)) (hH.alloc _)
  have hmk := fun W => Make_same 0 0 W
  rw [al_mk.1, al_mk.2] at hmk
  obtain ⟨X1, e1⟩ := al_r1
  obtain ⟨X2, e2⟩ := al_r2
  obtain ⟨X3, e3⟩ := al_r3
  have n1 := fun W => anew_yes 16 2 1 4 (by decide) W
  have n2 := fun W => anew_yes 16 2 1 9 (by decide) W
  have n3 := fun W => anew_yes 16 2 1 0 (by decide) W
  have n5 := fun W => anew_no 0 0 0 4 (by decide) W
  have hH0 := hH.alloc (.cells #[.int .i64 16, .int .i64 2, .int .i64 1] 23)
  have r1 := fun (W : World) (A : PAt) (k : Nat) (h : Rv (w.alloc (.cells #[.int .i64 16, .int .i64 2, .int .i64 1] 23)) A 1 2 al0 alB9 [] W) (hk : A.hi ≤ k) (hP : Fs W k (alL 1 2 (amNew 16 4))) => rvaRun 100 100 rfl (by decide) hH0 h hk (fun p hp => absurd hp (by simp)) hP (inv_new 16 4 (by decide)) e1
  have r2 := fun (W : World) (A : PAt) (K : List (Nat × List Value)) (k : Nat) (h : Rv (w.alloc (.cells #[.int .i64 16, .int .i64 2, .int .i64 1] 23)) A 1 2 alW1 alB0 K W) (hk : A.hi ≤ k) hK (hP : Fs W k (alL 1 2 (amNew 16 9))) => rvaRun 100 100 rfl (by decide) hH0 h hk hK hP (inv_new 16 9 (by decide)) e2
  have r3 := fun (W : World) (A : PAt) (K : List (Nat × List Value)) (k : Nat) (h : Rv (w.alloc (.cells #[.int .i64 16, .int .i64 2, .int .i64 1] 23)) A 1 2 alW2 alB0 K W) (hk : A.hi ≤ k) hK (hP : Fs W k (alL 1 2 (amNew 16 0))) => rvaRun 100 100 rfl (by decide) hH0 h hk hK hP (inv_new 16 0 (by decide)) e3
  have r5 : ∀ (W : World) (p k : Nat), Fs W k (alL 0 0 amNil) → Calls Tryd.prog 11 #[.pointer (some ⟨p, 0, none⟩), .pointer (some ⟨k, 0, none⟩), .int .i64 100] W (Ret W (.tuple #[.agg #[.int .i64 1, .int .i64 0], .int .i64 1])) := fun W p k hP => arun_end 100 (by decide) (p := p) hP rfl
  have hE0 := hE.alloc (.cells #[.int .i64 16, .int .i64 2, .int .i64 1] 23)
  have hw0 : Below w.heap.size w (w.alloc (.cells #[.int .i64 16, .int .i64 2, .int .i64 1] 23)) := (Below.refl _ _).alloc (Nat.le_refl _) _
  unfold ifc at *
  go_enter Tryd.func9, Tryd.ntmps9
  go_wp2_with (first
    | (go_at_call 7; (with_reducible refine hst.mono ?_); (rintro _ V1 ⟨A, rfl, hlo, hB1, ws, n, hM1, hlen, hat⟩); (have hws := words_of 1 2 al0 (by decide) (by decide +kernel) ws hlen hat); subst hws; (rw [al_bytes] at hM1); (have hv1 := Rv.begin (t := 1) (s := 2) hE0 hlo hB1 hM1 (by decide)))
    | (go_at_call 10; (with_reducible refine (rvByte hv1 _ _).mono ?_); rintro _ V4 ⟨rfl, hv4, -⟩; rw [show setI alB0 3 (9 % 256) = alB9 from by decide +kernel] at hv4; obtain ⟨a0, a1, a2⟩ := rv_cell hv4; clear hv1)
    | (go_at_call 12; (with_reducible refine (n1 _).mono ?_); rintro _ V5 ⟨k1, rfl, hk1, hb1, hf1⟩; have hv5 := hv4.below hb1; have hh1 := Nat.le_trans hv4.hi_le hk1; clear a0 a1 a2 hv4)
    | (go_at_call 11; (with_reducible refine (r1 _ _ _ hv5 hh1 hf1).mono ?_); rintro _ V9 ⟨rfl, hv9, hf9, -⟩; have hv10 := hv9.push #[.int .i64 0, .int .i64 1099511627776] 32; clear hv5 hf1; obtain ⟨a0, a1, a2⟩ := rv_cell hv10)
    | (go_at_call 14; (with_reducible refine (hmk _).mono ?_); rintro _ _ ⟨rfl, rfl⟩)
    | (go_at_call 12; (with_reducible refine (n2 _).mono ?_); rintro _ V11 ⟨k2, rfl, hk2, hb2, hf2⟩; have hv11 := hv10.below hb2; have hh2 := Nat.le_trans hv10.hi_le hk2; have hK2 : ∀ p ∈ ([(V9.heap.size, [.int .i64 0, .int .i64 1099511627776])] : List (Nat × List Value)), p.1 ≠ k2 := fun p hp => by have := (hv10.keep p hp).1.lt; omega)
    | (go_at_call 11; (with_reducible refine (r2 _ _ _ _ hv11 hh2 hK2 hf2).mono ?_); rintro _ V12 ⟨rfl, hv12, -, -⟩; have hv13 := hv12.push #[.int .i64 10, .int .i64 0] 32; clear a0 a1 a2 hv10 hv11; obtain ⟨a0, a1, a2⟩ := rv_cell hv13)
    | (go_at_call 12; (with_reducible refine (n3 _).mono ?_); rintro _ V14 ⟨k3, rfl, hk3, hb3, hf3⟩; have hv14 := hv13.below hb3; have hh3 := Nat.le_trans hv13.hi_le hk3; have hK3 : ∀ p ∈ ([(V12.heap.size, [.int .i64 10, .int .i64 0]), (V9.heap.size, [.int .i64 0, .int .i64 1099511627776])] : List (Nat × List Value)), p.1 ≠ k3 := fun p hp => by have := (hv13.keep p hp).1.lt; omega)
    | (go_at_call 11; (with_reducible refine (r3 _ _ _ _ hv14 hh3 hK3 hf3).mono ?_); rintro _ V15 ⟨rfl, hv15, -, -⟩; have hv16 := hv15.push #[.int .i64 9, .int .i64 0] 32; clear a0 a1 a2 hv13 hv14; obtain ⟨a0, a1, a2⟩ := rv_cell hv16)
    | (go_at_call 12; (with_reducible refine (n5 _).mono ?_); rintro _ V18 ⟨k5, rfl, hk5, hb5, hf5⟩; have hv18 := hv16.below hb5)
    | (go_at_call 11; (with_reducible refine (r5 _ A.p _ hf5).mono ?_); rintro _ _ ⟨rfl, x19, rfl⟩; have hv19 := (hv18.later x19).push #[.int .i64 1, .int .i64 0] 32; obtain ⟨z1, z2⟩ := rv_two (q := V9.heap.size) (a := .int .i64 0) (b := .int .i64 1099511627776) hv19 (by simp); obtain ⟨z3, z4⟩ := rv_two (q := V12.heap.size) (a := .int .i64 10) (b := .int .i64 0) hv19 (by simp); obtain ⟨z5, z6⟩ := rv_two (q := V15.heap.size) (a := .int .i64 9) (b := .int .i64 0) hv19 (by simp); obtain ⟨z7, z8⟩ := rv_two (q := x19.at'.heap.size) (a := .int .i64 1) (b := .int .i64 0) hv19 (by simp); clear a0 a1 a2 hv16 hv18)
    | (go_at_call 16; (with_reducible refine (rvLoad hv19 0).mono ?_); rintro _ V20 ⟨rfl, hv20, -⟩; clear hv19 z1 z2 z3 z4 z5 z6 z7 z8)
    | (go_at_call 16; (with_reducible refine (rvLoad hv20 1).mono ?_); rintro _ V21 ⟨rfl, hv21, -⟩; clear hv20)
    | (go_at_call 16; (with_reducible refine (rvLoad hv21 2).mono ?_); rintro _ V22 ⟨rfl, hv22, -⟩; clear hv21)
    | (go_at_call 16; (with_reducible refine (rvLoad hv22 5).mono ?_); rintro _ V23 ⟨rfl, hv23, -⟩; clear hv22)
    | (go_at_call 16; (with_reducible refine (rvLoad hv23 6).mono ?_); rintro _ V24 ⟨rfl, hv24, -⟩; clear hv23)
    | (go_at_call 15; (with_reducible refine (rvByteAt hv24 3).mono ?_); rintro _ V25 ⟨rfl, hv25, -⟩; clear hv24))
  go_ret
  exact Ret.mk rfl (hw0.trans (hv25.bel.mono hw0.size))
end Go.Proofs.YtfomephgallpmaaDoor
