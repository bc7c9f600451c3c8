/-
  Some answers that the document gives for a write: the statements' own sample.
  Conditions: none but that the tables read as they are laid.
-/
import Derived.Test.YtnojemmpgaibkaaDoorWrRun
import Derived.Test.YtnojemmpgaibkaaDoorWrStart
import Derived.Test.YtnojemmpgaibkaaDoorRvMore
import Derived.Test.YtnojemmpgaibkaaDoorEntryRef
namespace Go.Proofs.YtnojemmpgaibkaaDoor
open Go.RowKit
attribute [local go_sem] Later.cell Later.frozen Later.lt Later.le
set_option linter.unusedVariables false
set_option linter.unusedSimpArgs false

section
variable {w W : World} {A : PAt} {t s : Int} {ws bs ws' bs' : List Int} {K : List (Nat × List Value)} {k : Nat} {M M' : Wm}
theorem wguards_any (hP : Fs w k (wmL t s M)) : Calls Tryd.prog 20 #[.pointer (some ⟨k, 0, none⟩)] w fun e w' => e = .returned (.bool (wmG M)) ∧ w = w' := by
  have c7 : w.cell? ⟨k, 7, none⟩ = some (.int .i64 M.step) := hP.at' 7 rfl
  clear hP
  by_cases h : 3 ≤ M.step
  · have E := Lib.hid (show wmG M = true from decide_eq_true h)
    have h2 : ¬ M.step < 3 := by omega
    go_enter Tryd.func20, Tryd.ntmps20
    go_wp2
    go_ret
    rw [E.out]
    exact ⟨rfl, rfl⟩
  · have E := Lib.hid (show wmG M = false from decide_eq_false h)
    have h2 : M.step < 3 := by omega
    go_enter Tryd.func20, Tryd.ntmps20
    go_wp2
    go_ret
    rw [E.out]
    exact ⟨rfl, rfl⟩
theorem wguards_nil (w : World) : Calls Tryd.prog 20 #[.pointer none] w fun e w' => e = .returned (.bool false) ∧ w = w' := by
  go_enter Tryd.func20, Tryd.ntmps20
  go_wp2
  go_ret
  exact ⟨rfl, rfl⟩
/-- Many steps, and one, where all is known. -/
theorem rvwRun (N : Nat) (NI : Int) (hNI : NI = N) (hN : N ≤ 1000) {R : Wr} (h : Rv w A t s ws bs K W) (hk : A.hi ≤ k) (hK : ∀ p ∈ K, p.1 ≠ k) (hP : Fs W k (wmL t s M)) (hst : 0 ≤ M.step ∧ M.step ≤ 6) (hr : wmRun t s N 0 M ws bs = R) :
    Calls Tryd.prog 23 #[.pointer (some ⟨A.p, 0, none⟩), .pointer (some ⟨k, 0, none⟩), .int .i64 NI] W fun e w' => e = .returned (.tuple #[.agg #[.int .i64 R.c, .int .i64 0], .int .i64 R.j]) ∧ Rv w A t s R.ws R.bs K w' ∧ Fs w' k (wmL t s R.M) ∧ Moved (spanS A k) W w' := by
  subst hNI
  obtain ⟨n, hm⟩ := h.mem
  have := wrun_any N hN hst (h.seat hk) hm hP
  rw [hr] at this
  exact this.mono fun _ _ ⟨he, m, hm', hf⟩ => ⟨he, h.turns hk hK m hm', hf, m⟩
theorem rvwStep {c : Int} {d : Bool} (h : Rv w A t s ws bs K W) (hk : A.hi ≤ k) (hK : ∀ p ∈ K, p.1 ≠ k) (hP : Fs W k (wmL t s M)) (hst : 0 ≤ M.step ∧ M.step ≤ 6) (hO : wmO t s M ws bs = M') (hW : wmW t s M ws = ws') (hB : wmB M bs = bs') (hT : wmT M M' = (c, d)) :
    Calls Tryd.prog 19 #[.pointer (some ⟨k, 0, none⟩), ifc A] W fun e w' => e = .returned (.tuple #[.agg #[.int .i64 c, .int .i64 0], .bool d]) ∧ Rv w A t s ws' bs' K w' ∧ Fs w' k (wmL t s M') ∧ Moved (spanS A k) W w' := by
  obtain ⟨n, hm⟩ := h.mem
  have := wstep_any hst (h.seat hk) hm hP
  rw [hO, hW, hB, hT] at this
  exact this.mono fun _ _ ⟨he, m, hm', hf⟩ => ⟨he, h.turns hk hK m hm', hf, m⟩
end
set_option maxHeartbeats 1000000 in
theorem wstep_end {w : World} {k : Nat} {t s : Int} {M : Wm} (a : Value) (hP : Fs w k (wmL t s M)) (h0 : M.step = 0) (T : TypeId) (p : Addr) (hT : a = .iface T (.pointer (some p))) : Calls Tryd.prog 19 #[.pointer (some ⟨k, 0, none⟩), a] w (Ret w (.tuple #[.agg #[.int .i64 1, .int .i64 0], .bool true])) := by
  have c7 : w.cell? ⟨k, 7, none⟩ = some (.int .i64 0) := h0 ▸ hP.at' 7 rfl
  have hlt := hP.lt
  subst hT
  clear hP h0
  go_enter Tryd.func19, Tryd.ntmps19
  go_wp2
  refine bodyPost_ret (v := .tuple #[.agg #[.int .i64 1, .int .i64 0], .bool true]) (by simp [results, Tryd.results19, go_sem]) rfl ?_
  exact Ret.mk rfl ((Below.refl _ _).alloc (Nat.le_refl _) _)
/-- One that has ended, alone. -/
theorem wrun_end (N : Nat) (hN : 1 ≤ N ∧ N ≤ 1000) {w : World} {k p : Nat} {t s : Int} {M : Wm} (hP : Fs w k (wmL t s M)) (h0 : M.step = 0) : Calls Tryd.prog 23 #[.pointer (some ⟨p, 0, none⟩), .pointer (some ⟨k, 0, none⟩), .int .i64 N] w (Ret w (.tuple #[.agg #[.int .i64 1, .int .i64 0], .int .i64 1])) := by
  have hs := fun (y : Later w) => wstep_end (.iface 27 (.pointer (some ⟨p, 0, none⟩))) (hP.later y) h0 _ _ rfl
  have hN1 : (1 : Int) ≤ N := by omega
  have hs0 := hs ⟨w.alloc (.cells #[.int .i64 0, .int .i64 0] 41), (Below.refl _ _).alloc (Nat.le_refl _) _⟩
  simp only at hs0
  have hlt := hP.lt
  clear hs hP
  go_enter Tryd.func23, Tryd.ntmps23
  go_wp2
  refine wp_loop_rounds 1 ?_
  rw [rounds_succ]
  go_wp2_with (go_at_call 19; (with_reducible refine hs0.mono ?_); rintro _ _ ⟨rfl, y, rfl⟩)
  have hR := ((((Fs.new' (l := [.int .i64 0, .int .i64 0]) #[.int .i64 0, .int .i64 0] 41 rfl rfl).later y).set 0 (by simp) (.int .i64 1)).set 1 (by simp) (.int .i64 0)).alloc (.cells #[.int .i64 1, .int .i64 0] 41)
  have hB : Below w.heap.size w (((y.at'.setCell ⟨w.heap.size, 0, none⟩ (.int .i64 1)).setCell ⟨w.heap.size, 1, none⟩ (.int .i64 0)).alloc (.cells #[.int .i64 1, .int .i64 0] 41)) := by
    have h0 : Below w.heap.size w y.at' := y.cat ((Below.refl _ _).alloc (Nat.le_refl _) _) (by simp)
    have h1 : Below w.heap.size w ((y.at'.setCell ⟨w.heap.size, 0, none⟩ (.int .i64 1)).setCell ⟨w.heap.size, 1, none⟩ (.int .i64 0)) := (h0.setCell (by simp) _).setCell (by simp) _
    exact h1.alloc h1.size _
  generalize ((y.at'.setCell ⟨w.heap.size, 0, none⟩ (.int .i64 1)).setCell ⟨w.heap.size, 1, none⟩ (.int .i64 0)).alloc (.cells #[.int .i64 1, .int .i64 0] 41) = W2 at hR hB ⊢
  have e0 : W2.cell? ⟨w.heap.size, 0, none⟩ = some (.int .i64 1) := hR.at' 0 rfl
  have e1 : W2.cell? ⟨w.heap.size, 1, none⟩ = some (.int .i64 0) := hR.at' 1 rfl
  refine bodyPost_ret (v := .tuple #[.agg #[.int .i64 1, .int .i64 0], .int .i64 1]) (by simp [results, Tryd.results23, go_sem, e0, e1]) rfl ?_
  exact Ret.mk rfl hB

/-! ### the sample -/
def wl0 : List Int := [0, 1, 0, 0, 0, 0, 0, 2, 0, 0, 0]
def wlW : List Int := [0, 1, 0, 0, 0, 0, 0, 2, 562949956567048, 4, 0]
def wlG : List Int := [0, 1, 0, 0, 0, 0, 0, 2, 580542142611464, 4, 0]
def wlB0 : List Int := [0, 0, 0, 0, 0, 0, 0, 0, 0, 0, 0, 0, 0, 0, 0, 0]
def wlB : List Int := [0, 0, 0, 0, 0, 0, 0, 0, 0, 0, 0, 77, 0, 0, 0, 0]
theorem wl_words : setI (setI wl0 8 562949956567048) 9 4 = wlW := by decide +kernel
theorem wl_bytes : List.replicate (16 : Int).toNat (0 : Int) = wlB0 := by decide +kernel
theorem wl_mk : mkV 1 3 = 1099514773505 ∧ mkE 1 3 = 0 := by decide +kernel
theorem wl_pk : packV ⟨8, 3, 0, 0, false, true⟩ = 562949956567048 ∧ packE ⟨8, 3, 0, 0, false, true⟩ = 0 := by decide +kernel
def wlM0 : Wm := ⟨true, 1, 3, 3, 333, 1, 0, 0, 0⟩
def wlM1 : Wm := ⟨true, 1, 3, 3, 333, 2, 562949956567048, 8, 0⟩
def wlM2 : Wm := ⟨true, 1, 3, 3, 333, 3, 562949956567048, 8, 0⟩
theorem wl_new : wmNew 1099514773505 2 3 333 = wlM0 := by kernel_rfl
theorem wl_1 : wmO 1 2 wlM0 wlW wlB0 = wlM1 := by kernel_rfl
theorem wl_1W : wmW 1 2 wlM0 wlW = wlW := by kernel_rfl
theorem wl_1B : wmB wlM0 wlB0 = wlB0 := by kernel_rfl
theorem wl_2 : wmO 1 2 wlM1 wlW wlB0 = wlM2 := by kernel_rfl
theorem wl_2W : wmW 1 2 wlM1 wlW = wlG := by kernel_rfl
theorem wl_2B : wmB wlM1 wlB0 = wlB0 := by kernel_rfl
theorem wl_3 : ∃ M, M.step = 0 ∧ wmRun 1 2 100 0 wlM2 wlG wlB0 = ⟨0, 4, M, wlW, wlB⟩ := ⟨⟨true, 1, 3, 3, 333, 0, 580542142611464, 8, 0⟩, rfl, by kernel_rfl⟩
theorem wl_4 : ∃ M, wmRun 1 2 100 0 (wmNew 1099514773505 2 4 1) wlW wlB = ⟨5, 5, M, wlW, wlB⟩ := ⟨⟨true, 1, 3, 4, 1, 0, 580542142611464, 8, 5⟩, by kernel_rfl⟩
theorem wl_5 : ∃ M, wmRun 1 2 100 0 (wmNew 1099515822081 2 0 1) wlW wlB = ⟨4, 1, M, wlW, wlB⟩ := ⟨⟨true, 1, 4, 0, 1, 0, 562949956567048, 0, 4⟩, by kernel_rfl⟩

set_option maxHeartbeats 16000000 in
set_option maxRecDepth 8000 in
theorem wlive_any (w : World) (hH : HasHead w) (hE : HasFields w) : Calls Tryd.prog 16 #[] w (Ret w (.bool true)) := by
  have hst := start_yes 16 2 1 (by decide) (w.alloc (.cells #[.int .i64 16, .int .i64 2, .int .i64 1] 26)) (hH.alloc _)
  have hmk := fun W => Make_same 1 3 W
  rw [wl_mk.1, wl_mk.2] at hmk
  have hpk := fun W => refPack_any 8 3 0 0 false true W
  rw [wl_pk.1, wl_pk.2] at hpk
  obtain ⟨M3, h30, e3⟩ := wl_3
  obtain ⟨M4, e4⟩ := wl_4
  obtain ⟨M5, e5⟩ := wl_5
  have n1 := fun W => wnew_yes 16 2 1 1099514773505 3 333 (by decide) W
  rw [wl_new] at n1
  have n2 := fun W => wnew_yes 16 2 1 1099514773505 4 1 (by decide) W
  have n3 := fun W => wnew_yes 16 2 1 1099515822081 0 1 (by decide) W
  have n5 := fun W => wnew_no 0 0 0 1099514773505 0 1 (by decide) W
  have s1 := fun (W : World) (A : PAt) (k : Nat) (h : Rv (w.alloc (.cells #[.int .i64 16, .int .i64 2, .int .i64 1] 26)) A 1 2 wlW wlB0 [] W) (hk : A.hi ≤ k) (hP : Fs W k (wmL 1 2 wlM0)) => rvwStep (c := 0) (d := false) h hk (fun p hp => absurd hp (by simp)) hP (by decide) wl_1 wl_1W wl_1B rfl
  have s2 := fun (W : World) (A : PAt) (k : Nat) (h : Rv (w.alloc (.cells #[.int .i64 16, .int .i64 2, .int .i64 1] 26)) A 1 2 wlW wlB0 [] W) (hk : A.hi ≤ k) (hP : Fs W k (wmL 1 2 wlM1)) => rvwStep (c := 0) (d := false) h hk (fun p hp => absurd hp (by simp)) hP (by decide) wl_2 wl_2W wl_2B rfl
  have r1 := fun (W : World) (A : PAt) (k : Nat) (h : Rv (w.alloc (.cells #[.int .i64 16, .int .i64 2, .int .i64 1] 26)) A 1 2 wlG wlB0 [] W) (hk : A.hi ≤ k) (hP : Fs W k (wmL 1 2 wlM2)) => rvwRun 100 100 rfl (by decide) h hk (fun p hp => absurd hp (by simp)) hP (by decide) e3
  have r2 := fun (W : World) (A : PAt) (K : List (Nat × List Value)) (k : Nat) (h : Rv (w.alloc (.cells #[.int .i64 16, .int .i64 2, .int .i64 1] 26)) A 1 2 wlW wlB K W) (hk : A.hi ≤ k) hK (hP : Fs W k (wmL 1 2 (wmNew 1099514773505 2 4 1))) => rvwRun 100 100 rfl (by decide) h hk hK hP (by simp [wmNew]) e4
  have r3 := fun (W : World) (A : PAt) (K : List (Nat × List Value)) (k : Nat) (h : Rv (w.alloc (.cells #[.int .i64 16, .int .i64 2, .int .i64 1] 26)) A 1 2 wlW wlB K W) (hk : A.hi ≤ k) hK (hP : Fs W k (wmL 1 2 (wmNew 1099515822081 2 0 1))) => rvwRun 100 100 rfl (by decide) h hk hK hP (by simp [wmNew]) e5
  have r5 : ∀ (W : World) (p k : Nat), Fs W k (wmL 0 0 wmNil) → Calls Tryd.prog 23 #[.pointer (some ⟨p, 0, none⟩), .pointer (some ⟨k, 0, none⟩), .int .i64 100] W (Ret W (.tuple #[.agg #[.int .i64 1, .int .i64 0], .int .i64 1])) := fun W p k hP => wrun_end 100 (by decide) (p := p) hP rfl
  have hE0 := hE.alloc (.cells #[.int .i64 16, .int .i64 2, .int .i64 1] 26)
  have hw0 : Below w.heap.size w (w.alloc (.cells #[.int .i64 16, .int .i64 2, .int .i64 1] 26)) := (Below.refl _ _).alloc (Nat.le_refl _) _
  unfold ifc at *
  go_enter Tryd.func16, Tryd.ntmps16
  go_wp2_with (first
    | (go_at_call 13; (with_reducible refine hst.mono ?_); (rintro _ V1 ⟨A, rfl, hlo, hB1, ws, n, hM1, hlen, hat⟩); (have hws := words_of 1 2 wl0 (by decide) (by decide +kernel) ws hlen hat); subst hws; (rw [wl_bytes] at hM1); (have hv1 := Rv.begin (t := 1) (s := 2) hE0 hlo hB1 hM1 (by decide)))
    | (go_at_call 14; (with_reducible refine (hmk _).mono ?_); rintro _ _ ⟨rfl, rfl⟩)
    | (go_at_call 15; (with_reducible refine (hpk _).mono ?_); rintro _ _ ⟨rfl, x2, rfl⟩; have hv2 := hv1.later x2)
    | (go_at_call 17; (with_reducible refine (rvStore hv2 _ _).mono ?_); rintro _ V3 ⟨rfl, hv3, -⟩; clear hv2)
    | (go_at_call 17; (with_reducible refine (rvStore hv3 _ _).mono ?_); rintro _ V4 ⟨rfl, hv4, -⟩; rw [wl_words] at hv4; obtain ⟨a0, a1, a2⟩ := rv_cell hv4; clear hv3)
    | (go_at_call 18; (with_reducible refine (n1 _).mono ?_); rintro _ V5 ⟨k1, rfl, hk1, hb1, hf1⟩; have hv5 := hv4.below hb1; have hh1 := Nat.le_trans hv4.hi_le hk1; clear a0 a1 a2 hv4)
    | (go_at_call 20; (with_reducible refine (wguards_any hf1).mono ?_); rintro _ _ ⟨rfl, rfl⟩; have hf1' := hf1; clear hf1)
    | (go_at_call 19; (with_reducible refine (s1 _ _ _ hv5 hh1 hf1').mono ?_); rintro _ V6 ⟨rfl, hv6, hf6, -⟩; clear hv5 hf1')
    | (go_at_call 19; (with_reducible refine (s2 _ _ _ hv6 hh1 hf6).mono ?_); rintro _ V7 ⟨rfl, hv7, hf7, -⟩; clear hv6 hf6)
    | (go_at_call 20; (with_reducible refine (wguards_any hf7).mono ?_); rintro _ _ ⟨rfl, rfl⟩)
    | (go_at_call 22; (with_reducible refine (rvLoad hv7 _).mono ?_); rintro _ V8 ⟨rfl, hv8, ht8⟩; have hf8 := hf7.touch ht8 (Or.inr hh1); clear hv7 hf7)
    | (go_at_call 23; (with_reducible refine (r1 _ _ _ hv8 hh1 hf8).mono ?_); rintro _ V9 ⟨rfl, hv9, hf9, -⟩; have hv10 := (hv9.add hf9 hh1).push #[.int .i64 0, .int .i64 0] 41; clear hv8 hf8; obtain ⟨a0, a1, a2⟩ := rv_cell hv10)
    | (go_at_call 18; (with_reducible refine (n2 _).mono ?_); rintro _ V11 ⟨k2, rfl, hk2, hb2, hf2⟩; have hv11 := hv10.below hb2; have hh2 := Nat.le_trans hv10.hi_le hk2; have hK2 : ∀ p ∈ [(V9.heap.size, #[.int .i64 0, .int .i64 0].toList), (k1, wmL 1 2 M3)], p.1 ≠ k2 := fun p hp => by have := (hv10.keep p hp).1.lt; omega)
    | (go_at_call 23; (with_reducible refine (r2 _ _ _ _ hv11 hh2 hK2 hf2).mono ?_); rintro _ V12 ⟨rfl, hv12, -, -⟩; have hv13 := hv12.push #[.int .i64 5, .int .i64 0] 41; clear a0 a1 a2 hv10 hv11; obtain ⟨a0, a1, a2⟩ := rv_cell hv13)
    | (go_at_call 18; (with_reducible refine (n3 _).mono ?_); rintro _ V14 ⟨k3, rfl, hk3, hb3, hf3⟩; have hv14 := hv13.below hb3; have hh3 := Nat.le_trans hv13.hi_le hk3; have hK3 : ∀ p ∈ [(V12.heap.size, #[.int .i64 5, .int .i64 0].toList), (V9.heap.size, #[.int .i64 0, .int .i64 0].toList), (k1, wmL 1 2 M3)], p.1 ≠ k3 := fun p hp => by have := (hv13.keep p hp).1.lt; omega)
    | (go_at_call 23; (with_reducible refine (r3 _ _ _ _ hv14 hh3 hK3 hf3).mono ?_); rintro _ V15 ⟨rfl, hv15, -, -⟩; have hv16 := hv15.push #[.int .i64 4, .int .i64 0] 41; clear a0 a1 a2 hv13 hv14; obtain ⟨a0, a1, a2⟩ := rv_cell hv16)
    | (go_at_call 18; (with_reducible refine (n5 _).mono ?_); rintro _ V18 ⟨k5, rfl, hk5, hb5, hf5⟩; have hv18 := hv16.below hb5)
    | (go_at_call 23; (with_reducible refine (r5 _ A.p _ hf5).mono ?_); rintro _ _ ⟨rfl, x19, rfl⟩; have hv19 := (hv18.later x19).push #[.int .i64 1, .int .i64 0] 41; obtain ⟨z1, z2⟩ := rv_two (q := V9.heap.size) (a := .int .i64 0) (b := .int .i64 0) hv19 (by simp); clear a0 a1 a2 hv16 hv18)
    | (go_at_call 24; (with_reducible refine (rvByteAt hv19 _).mono ?_); rintro _ V20 ⟨rfl, hv20, -⟩; clear z1 z2 hv19)
    | (go_at_call 22; (with_reducible refine (rvLoad hv20 _).mono ?_); rintro _ V21 ⟨rfl, hv21, -⟩; have hg := (hv21.keep (k1, wmL 1 2 M3) (by simp)).1; clear hv20)
    | (go_at_call 20; (with_reducible refine (wguards_any hg).mono ?_); rintro _ _ ⟨rfl, rfl⟩; rw [show wmG M3 = false from by unfold wmG; rw [h30]; rfl]; obtain ⟨z3, z4⟩ := rv_two (q := V12.heap.size) (a := .int .i64 5) (b := .int .i64 0) hv21 (by simp); obtain ⟨z5, z6⟩ := rv_two (q := V15.heap.size) (a := .int .i64 4) (b := .int .i64 0) hv21 (by simp); obtain ⟨z7, z8⟩ := rv_two (q := x19.at'.heap.size) (a := .int .i64 1) (b := .int .i64 0) hv21 (by simp)))
  go_ret
  exact Ret.mk rfl (hw0.trans (hv21.bel.mono hw0.size))
end Go.Proofs.YtnojemmpgaibkaaDoor
