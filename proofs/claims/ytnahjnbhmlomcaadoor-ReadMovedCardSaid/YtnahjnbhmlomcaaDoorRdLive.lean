/-
  Some answers that the document gives for a read: the statements' own sample.
  Conditions: none but that the tables read as they are laid.
-/
import Derived.Test.YtnahjnbhmlomcaaDoorRdRun
import Derived.Test.YtnahjnbhmlomcaaDoorRdStart
import Derived.Test.YtnahjnbhmlomcaaDoorEntryRef
import Derived.Test.YtnahjnbhmlomcaaDoorEntryRef
namespace Go.Proofs.YtnahjnbhmlomcaaDoor
open Go.RowKit
attribute [local go_sem] Later.cell Later.frozen Later.lt Later.le
set_option linter.unusedVariables false
set_option linter.unusedSimpArgs false

/-- What is known all along: plain cells, of a layout of t threads and s slots, and rows of cells that lie behind them. -/
structure Rv (w : World) (A : PAt) (t s : Int) (ws bs : List Int) (K : List (Nat × List Value)) (W : World) : Prop where
  bel : Below w.heap.size w W
  hE : HasFields w
  mem : ∃ n, Mem W A ws bs n
  lo : w.heap.size ≤ A.lo
  keep : ∀ p ∈ K, Fs W p.1 p.2 ∧ A.hi ≤ p.1
  t0 : 1 ≤ t
  t4 : t ≤ 4
  s0 : 1 ≤ s
  s64 : s ≤ 64
namespace Rv
variable {w W W' W'' : World} {A : PAt} {t s : Int} {ws bs ws' bs' : List Int} {K : List (Nat × List Value)} {k : Nat}
theorem later (h : Rv w A t s ws bs K W) (y : Later W) : Rv w A t s ws bs K y.at' :=
  { h with bel := y.cat h.bel h.bel.size, mem := h.mem.imp fun _ m => m.later y, keep := fun p hp => ⟨(h.keep p hp).1.later y, (h.keep p hp).2⟩ }
theorem below (h : Rv w A t s ws bs K W) (y : Below W.heap.size W W') : Rv w A t s ws bs K W' := h.later ⟨W', y⟩
theorem alloc (h : Rv w A t s ws bs K W) (o : Obj) : Rv w A t s ws bs K (W.alloc o) := h.later ⟨_, (Below.refl _ _).alloc (Nat.le_refl _) o⟩
theorem push (h : Rv w A t s ws bs K W) (cs : Array Value) (T : TypeId) : Rv w A t s ws bs ((W.heap.size, cs.toList) :: K) (W.alloc (.cells cs T)) := by
  have h1 := h.alloc (.cells cs T)
  obtain ⟨n, hm⟩ := h.mem
  exact ⟨h1.bel, h1.hE, h1.mem, h1.lo, fun p hp => by
    rcases List.mem_cons.1 hp with rfl | hp
    · exact ⟨Fs.new' _ _ rfl rfl, hm.hs⟩
    · exact h1.keep p hp, h1.t0, h1.t4, h1.s0, h1.s64⟩
theorem lohi (h : Rv w A t s ws bs K W) : A.lo < A.hi := by
  obtain ⟨n, hm⟩ := h.mem
  exact Nat.lt_of_le_of_lt hm.lp hm.up
theorem seat (h : Rv w A t s ws bs K W) (hk : A.hi ≤ k) : ESeat W A k t s :=
  ⟨h.hE.below h.bel h.hE.lt, by have := h.hE.lt; have := h.lo; omega, by have := h.hE.lt; have := h.lo; have := h.lohi; omega, hk, h.t0, h.t4, h.s0, h.s64⟩
/-- A machine's steps, at a block that was not there. -/
theorem steps (h : Rv w A t s ws bs K W) (hk : W.heap.size ≤ k) (hb : Below W.heap.size W W') (m : Moved (spanS A k) W' W'') (hm : ∃ n, Mem W'' A ws bs n) : Rv w A t s ws bs K W'' := by
  have h1 := h.below hb
  have hlo := h.lo
  have hlh := h.lohi
  refine { h1 with bel := m.below h1.bel h1.bel.size fun b hb => spanS_not (Or.inl (by omega)) (by have := h.bel.size; omega), mem := hm, keep := fun p hp => ⟨(h1.keep p hp).1.moved m (spanS_not (Or.inr (h1.keep p hp).2) ?_), (h1.keep p hp).2⟩ }
  have := (h.keep p hp).1.lt
  omega
/-- The same for a machine that lies there, and is no row that is kept. -/
theorem steps' (h : Rv w A t s ws bs K W) (hk : w.heap.size ≤ k) (hK : ∀ p ∈ K, p.1 ≠ k) (m : Moved (spanS A k) W W') (hm : ∃ n, Mem W' A ws bs n) : Rv w A t s ws bs K W' := by
  have hlo := h.lo
  exact { h with bel := m.below h.bel h.bel.size fun b hb => spanS_not (Or.inl (by omega)) (by omega), mem := hm, keep := fun p hp => ⟨(h.keep p hp).1.moved m (spanS_not (Or.inr (h.keep p hp).2) (hK p hp)), (h.keep p hp).2⟩ }
theorem touch (h : Rv w A t s ws bs K W) (x : Touch A.lo A.hi W W') {n : Int} (hm : Mem W' A ws' bs' n) : Rv w A t s ws' bs' K W' :=
  { h with bel := x.below h.bel h.lo h.bel.size, mem := ⟨n, hm⟩, keep := fun p hp => ⟨(h.keep p hp).1.touch x (Or.inr (h.keep p hp).2), (h.keep p hp).2⟩ }
end Rv

section
variable {w W : World} {A : PAt} {t s : Int} {ws bs : List Int} {K : List (Nat × List Value)} {k : Nat} {M : Rm}
theorem rvStore (h : Rv w A t s ws bs K W) (i v : Int) : Calls Tryd.prog 10 #[.pointer (some ⟨A.p, 0, none⟩), .int .i64 i, .int .i64 v] W fun e w' => e = .returned (.tuple #[]) ∧ Rv w A t s (setI ws i v) bs K w' ∧ Touch A.lo A.hi W w' := by
  obtain ⟨n, hm⟩ := h.mem
  refine (Store_any i v hm).mono ?_
  rintro _ _ ⟨he, x, rfl, hm'⟩
  exact ⟨he, h.touch x.turn hm', x.turn⟩
theorem rvByte (h : Rv w A t s ws bs K W) (i v : Int) : Calls Tryd.prog 11 #[.pointer (some ⟨A.p, 0, none⟩), .int .i64 i, .int .i64 v] W fun e w' => e = .returned (.tuple #[]) ∧ Rv w A t s ws (setI bs i (v % 256)) K w' ∧ Touch A.lo A.hi W w' := by
  obtain ⟨n, hm⟩ := h.mem
  refine (SetByte_any i v hm).mono ?_
  rintro _ _ ⟨he, x, rfl, hm'⟩
  exact ⟨he, h.touch x.turn hm', x.turn⟩
/-- A machine that New has made runs alone. -/
theorem rvRun {W0 : World} (N : Nat) (NI : Int) (hNI : NI = N) (hN : N ≤ 1000) {c r j : Int} (h : Rv w A t s ws bs K W0) (hk : W0.heap.size ≤ k) (hb : Below W0.heap.size W0 W) (hP : Fs W k (rmL t s M)) (hst : 0 ≤ M.step ∧ M.step ≤ 4) (hr : (rmRun t s ws bs N 0 M).1 = (c, r) ∧ ((rmRun t s ws bs N 0 M).2.1 : Int) = j) :
    Calls Tryd.prog 14 #[.pointer (some ⟨A.p, 0, none⟩), .pointer (some ⟨k, 0, none⟩), .int .i64 NI] W fun e w' => e = .returned (.tuple #[.agg #[.int .i64 c, .int .i64 r], .int .i64 j]) ∧ Rv w A t s ws bs K w' := by
  subst hNI
  obtain ⟨n, hm⟩ := (h.below hb).mem
  have hk2 : A.hi ≤ k := by
    obtain ⟨n, hm⟩ := h.mem
    have := hm.hs
    omega
  have := rrun_any N hN hst ((h.below hb).seat hk2) hm hP
  rw [hr.1, hr.2] at this
  exact this.mono fun _ _ ⟨he, m, hm', _⟩ => ⟨he, h.steps hk hb m hm'⟩
end

set_option maxHeartbeats 1000000 in
theorem rstep_end (hi : Nat) {w : World} {k : Nat} {t s : Int} {M : Rm} (a : Value) (ha : a ≠ .nilIface) (hP : Fs w k (rmL t s M)) (h0 : M.step = 0) (T : TypeId) (p : Addr) (hT : a = .iface T (.pointer (some p))) : Calls Tryd.prog 13 #[.pointer (some ⟨k, 0, none⟩), a] w (Ret w (.tuple #[.agg #[.int .i64 1, .int .i64 0], .bool true])) := by
  have c6 : w.cell? ⟨k, 6, none⟩ = some (.int .i64 0) := h0 ▸ hP.at' 6 rfl
  have hlt := hP.lt
  subst hT
  clear hP h0 ha
  go_enter Tryd.func13, Tryd.ntmps13
  go_wp2
  refine bodyPost_ret (v := .tuple #[.agg #[.int .i64 1, .int .i64 0], .bool true]) (by simp [results, Tryd.results13, go_sem]) rfl ?_
  exact Ret.mk rfl ((Below.refl _ _).alloc (Nat.le_refl _) _)
/-- One that has ended, alone. -/
theorem rrun_end (N : Nat) (hN : 1 ≤ N ∧ N ≤ 1000) {w : World} {k p : Nat} {t s : Int} {M : Rm} (hP : Fs w k (rmL t s M)) (h0 : M.step = 0) : Calls Tryd.prog 14 #[.pointer (some ⟨p, 0, none⟩), .pointer (some ⟨k, 0, none⟩), .int .i64 N] w (Ret w (.tuple #[.agg #[.int .i64 1, .int .i64 0], .int .i64 1])) := by
  have hs := fun (y : Later w) => rstep_end 0 (.iface 27 (.pointer (some ⟨p, 0, none⟩))) (by simp) (hP.later y) h0 _ _ rfl
  have hN1 : (1 : Int) ≤ N := by omega
  have hb0 : Later w := ⟨w.alloc (.cells #[.int .i64 0, .int .i64 0] 37), (Below.refl _ _).alloc (Nat.le_refl _) _⟩
  have hs0 := hs ⟨w.alloc (.cells #[.int .i64 0, .int .i64 0] 37), (Below.refl _ _).alloc (Nat.le_refl _) _⟩
  simp only at hs0
  have hlt := hP.lt
  clear hs hP
  go_enter Tryd.func14, Tryd.ntmps14
  go_wp2
  refine wp_loop_rounds 1 ?_
  rw [rounds_succ]
  go_wp2_with (go_at_call 13; (with_reducible refine hs0.mono ?_); rintro _ _ ⟨rfl, y, rfl⟩)
  have hR := ((((Fs.new' (l := [.int .i64 0, .int .i64 0]) #[.int .i64 0, .int .i64 0] 37 rfl rfl).later y).set 0 (by simp) (.int .i64 1)).set 1 (by simp) (.int .i64 0)).alloc (.cells #[.int .i64 1, .int .i64 0] 37)
  have hB : Below w.heap.size w (((y.at'.setCell ⟨w.heap.size, 0, none⟩ (.int .i64 1)).setCell ⟨w.heap.size, 1, none⟩ (.int .i64 0)).alloc (.cells #[.int .i64 1, .int .i64 0] 37)) := by
    have h0 : Below w.heap.size w y.at' := y.cat ((Below.refl _ _).alloc (Nat.le_refl _) _) (by simp)
    have h1 : Below w.heap.size w ((y.at'.setCell ⟨w.heap.size, 0, none⟩ (.int .i64 1)).setCell ⟨w.heap.size, 1, none⟩ (.int .i64 0)) := (h0.setCell (by simp) _).setCell (by simp) _
    exact h1.alloc h1.size _
  generalize ((y.at'.setCell ⟨w.heap.size, 0, none⟩ (.int .i64 1)).setCell ⟨w.heap.size, 1, none⟩ (.int .i64 0)).alloc (.cells #[.int .i64 1, .int .i64 0] 37) = W2 at hR hB ⊢
  have e0 : W2.cell? ⟨w.heap.size, 0, none⟩ = some (.int .i64 1) := hR.at' 0 rfl
  have e1 : W2.cell? ⟨w.heap.size, 1, none⟩ = some (.int .i64 0) := hR.at' 1 rfl
  refine bodyPost_ret (v := .tuple #[.agg #[.int .i64 1, .int .i64 0], .int .i64 1]) (by simp [results, Tryd.results14, go_sem, e0, e1]) rfl ?_
  exact Ret.mk rfl hB

def lr0 : List Int := [0, 1, 0, 0, 0, 0, 0, 2, 0, 0, 0]
def lrW : List Int := [0, 1, 0, 0, 0, 0, 0, 2, 562949956567048, 4, 0]
def lrB : List Int := [0, 0, 0, 0, 0, 0, 0, 0, 0, 0, 0, 77, 0, 0, 0, 0]
theorem rwords_at (ws : List Int) (hl : (ws.length : Int) = wordsN 1 2) (ha : ∀ y, atI ws y = stV 1 2 (fun _ => 0) y) : ws = lr0 := by
  have h11 : ws.length = 11 := by have : wordsN 1 2 = 11 := by decide
                                  omega
  refine List.ext_getElem (by rw [h11]; rfl) fun i h1 h2 => ?_
  have h := ha i
  rw [atI_nat, show ws.getD i 0 = ws[i] from by simp [h1]] at h
  rw [h]
  have h9 : i < 11 := by omega
  clear h ha hl h11 h1
  have : ∀ j : Fin 11, stV 1 2 (fun _ => 0) ((j.val : Nat) : Int) = lr0[j.val]'j.isLt := by decide +kernel
  exact this ⟨i, h9⟩
theorem lr_words : setI (setI lr0 8 562949956567048) 9 4 = lrW := by decide +kernel
theorem lr_bytes : setI (List.replicate (16 : Int).toNat 0) 11 (77 % 256) = lrB := by decide +kernel
theorem lr_mk : mkV 1 3 = 1099514773505 ∧ mkE 1 3 = 0 := by decide +kernel
theorem lr_pk : packV ⟨8, 3, 0, 0, false, true⟩ = 562949956567048 ∧ packE ⟨8, 3, 0, 0, false, true⟩ = 0 := by decide +kernel
theorem lr_1 : (rmRun 1 2 lrW lrB 100 0 (rmNew 1099514773505 2 3)).1 = (0, 77) ∧ ((rmRun 1 2 lrW lrB 100 0 (rmNew 1099514773505 2 3)).2.1 : Int) = 4 := by decide +kernel
theorem lr_2 : (rmRun 1 2 lrW lrB 100 0 (rmNew 1099514773505 2 4)).1 = (5, 0) ∧ ((rmRun 1 2 lrW lrB 100 0 (rmNew 1099514773505 2 4)).2.1 : Int) = 3 := by decide +kernel
theorem lr_3 : (rmRun 1 2 lrW lrB 100 0 (rmNew 1099515822081 2 0)).1 = (4, 0) ∧ ((rmRun 1 2 lrW lrB 100 0 (rmNew 1099515822081 2 0)).2.1 : Int) = 1 := by decide +kernel
theorem lr_4 : (rmRun 1 2 lrW lrB 100 0 (rmNew 5 2 0)).1 = (4, 0) ∧ ((rmRun 1 2 lrW lrB 100 0 (rmNew 5 2 0)).2.1 : Int) = 1 := by decide +kernel
theorem rv_cell {w W : World} {A : PAt} {t s : Int} {ws bs : List Int} {K : List (Nat × List Value)} {a b c : Value} {T : TypeId} (h : Rv (w.alloc (.cells #[a, b, c] T)) A t s ws bs K W) : W.cell? ⟨w.heap.size, 0, none⟩ = some a ∧ W.cell? ⟨w.heap.size, 1, none⟩ = some b ∧ W.cell? ⟨w.heap.size, 2, none⟩ = some c := by
  have hf : Fs W w.heap.size [a, b, c] := (Fs.new' (w := w) #[a, b, c] T rfl rfl).below h.bel (by simp)
  exact ⟨hf.at' 0 rfl, hf.at' 1 rfl, hf.at' 2 rfl⟩
theorem rv_two {w W : World} {A : PAt} {t s : Int} {ws bs : List Int} {K : List (Nat × List Value)} {q : Nat} {a b : Value} (h : Rv w A t s ws bs K W) (hm : (q, [a, b]) ∈ K) : W.cell? ⟨q, 0, none⟩ = some a ∧ W.cell? ⟨q, 1, none⟩ = some b :=
  ⟨(h.keep _ hm).1.at' 0 rfl, (h.keep _ hm).1.at' 1 rfl⟩

set_option maxHeartbeats 16000000 in
set_option maxRecDepth 8000 in
theorem rlive_any (w : World) (hH : HasHead w) (hE : HasFields w) : Calls Tryd.prog 9 #[] w (Ret w (.bool true)) := by
  have hst := start_yes 16 2 1 (by decide) (w.alloc (.cells #[.int .i64 16, .int .i64 2, .int .i64 1] 26)) (hH.alloc _)
  have hmk := fun W => Make_same 1 3 W
  rw [lr_mk.1, lr_mk.2] at hmk
  have hpk := fun W => refPack_any 8 3 0 0 false true W
  rw [lr_pk.1, lr_pk.2] at hpk
  have n1 := fun W => rnew_yes 16 2 1 1099514773505 3 (by decide) W
  have n2 := fun W => rnew_yes 16 2 1 1099514773505 4 (by decide) W
  have n3 := fun W => rnew_yes 16 2 1 1099515822081 0 (by decide) W
  have n4 := fun W => rnew_yes 16 2 1 5 0 (by decide) W
  have n5 := fun W => rnew_no 0 0 0 1099514773505 0 (by decide) W
  have r1 := fun (W0 W : World) (A : PAt) (K : List (Nat × List Value)) (k : Nat) (h : Rv (w.alloc (.cells #[.int .i64 16, .int .i64 2, .int .i64 1] 26)) A 1 2 lrW lrB K W0) (hk : W0.heap.size ≤ k) (hb : Below W0.heap.size W0 W) (hP : Fs W k (rmL 1 2 (rmNew 1099514773505 2 3))) => rvRun 100 100 rfl (by decide) h hk hb hP (by simp [rmNew]) lr_1
  have r2 := fun (W0 W : World) (A : PAt) (K : List (Nat × List Value)) (k : Nat) (h : Rv (w.alloc (.cells #[.int .i64 16, .int .i64 2, .int .i64 1] 26)) A 1 2 lrW lrB K W0) (hk : W0.heap.size ≤ k) (hb : Below W0.heap.size W0 W) (hP : Fs W k (rmL 1 2 (rmNew 1099514773505 2 4))) => rvRun 100 100 rfl (by decide) h hk hb hP (by simp [rmNew]) lr_2
  have r3 := fun (W0 W : World) (A : PAt) (K : List (Nat × List Value)) (k : Nat) (h : Rv (w.alloc (.cells #[.int .i64 16, .int .i64 2, .int .i64 1] 26)) A 1 2 lrW lrB K W0) (hk : W0.heap.size ≤ k) (hb : Below W0.heap.size W0 W) (hP : Fs W k (rmL 1 2 (rmNew 1099515822081 2 0))) => rvRun 100 100 rfl (by decide) h hk hb hP (by simp [rmNew]) lr_3
  have r4 := fun (W0 W : World) (A : PAt) (K : List (Nat × List Value)) (k : Nat) (h : Rv (w.alloc (.cells #[.int .i64 16, .int .i64 2, .int .i64 1] 26)) A 1 2 lrW lrB K W0) (hk : W0.heap.size ≤ k) (hb : Below W0.heap.size W0 W) (hP : Fs W k (rmL 1 2 (rmNew 5 2 0))) => rvRun 100 100 rfl (by decide) h hk hb hP (by simp [rmNew]) lr_4
  have r5 : ∀ (W : World) (p k : Nat), Fs W k (rmL 0 0 rmNil) → Calls Tryd.prog 14 #[.pointer (some ⟨p, 0, none⟩), .pointer (some ⟨k, 0, none⟩), .int .i64 100] W (Ret W (.tuple #[.agg #[.int .i64 1, .int .i64 0], .int .i64 1])) := fun W p k hP => rrun_end 100 (by decide) (p := p) hP rfl
  have hE0 := hE.alloc (.cells #[.int .i64 16, .int .i64 2, .int .i64 1] 26)
  have hw0 : Below w.heap.size w (w.alloc (.cells #[.int .i64 16, .int .i64 2, .int .i64 1] 26)) := (Below.refl _ _).alloc (Nat.le_refl _) _
  go_enter Tryd.func9, Tryd.ntmps9
  go_wp2_with (first
    | (go_at_call 7; (with_reducible refine hst.mono ?_); rintro _ V1 ⟨A, rfl, hlo, hB1, ws, n, hM1, hlen, hat⟩; have hws := rwords_at ws hlen hat; subst hws; have hv1 : Rv (w.alloc (.cells #[.int .i64 16, .int .i64 2, .int .i64 1] 26)) A 1 2 lr0 (List.replicate (16 : Int).toNat 0) [] V1 := ⟨hB1, hE0, ⟨n, hM1⟩, hlo, (fun p hp => absurd hp (by simp)), (by decide), (by decide), (by decide), (by decide)⟩)
    | (go_at_call 8; (with_reducible refine (hmk _).mono ?_); rintro _ _ ⟨rfl, rfl⟩)
    | (go_at_call 19; (with_reducible refine (hpk _).mono ?_); rintro _ _ ⟨rfl, x2, rfl⟩; have hv2 := hv1.later x2)
    | (go_at_call 10; (with_reducible refine (rvStore hv2 _ _).mono ?_); rintro _ V3 ⟨rfl, hv3, -⟩; clear hv2)
    | (go_at_call 10; (with_reducible refine (rvStore hv3 _ _).mono ?_); rintro _ V4 ⟨rfl, hv4, -⟩; rw [lr_words] at hv4; clear hv3)
    | (go_at_call 11; (with_reducible refine (rvByte hv4 _ _).mono ?_); rintro _ V5 ⟨rfl, hv5, -⟩; rw [lr_bytes] at hv5; obtain ⟨a0, a1, a2⟩ := rv_cell hv5)
    | (go_at_call 12; (with_reducible refine (n1 _).mono ?_); rintro _ V6 ⟨k1, rfl, hk1, hb1, hf1⟩)
    | (go_at_call 14; (with_reducible refine (r1 _ _ _ _ _ hv5 hk1 hb1 hf1).mono ?_); rintro _ V7 ⟨rfl, hv7⟩; have hv8 := hv7.push #[.int .i64 0, .int .i64 77] 37; clear a0 a1 a2 hv7; obtain ⟨a0, a1, a2⟩ := rv_cell hv8)
    | (go_at_call 12; (with_reducible refine (n2 _).mono ?_); rintro _ V9 ⟨k2, rfl, hk2, hb2, hf2⟩)
    | (go_at_call 14; (with_reducible refine (r2 _ _ _ _ _ hv8 hk2 hb2 hf2).mono ?_); rintro _ V10 ⟨rfl, hv10⟩; have hv11 := hv10.push #[.int .i64 5, .int .i64 0] 37; clear a0 a1 a2 hv10; obtain ⟨a0, a1, a2⟩ := rv_cell hv11)
    | (go_at_call 12; (with_reducible refine (n3 _).mono ?_); rintro _ V12 ⟨k3, rfl, hk3, hb3, hf3⟩)
    | (go_at_call 14; (with_reducible refine (r3 _ _ _ _ _ hv11 hk3 hb3 hf3).mono ?_); rintro _ V13 ⟨rfl, hv13⟩; have hv14 := hv13.push #[.int .i64 4, .int .i64 0] 37; clear a0 a1 a2 hv13; obtain ⟨a0, a1, a2⟩ := rv_cell hv14)
    | (go_at_call 12; (with_reducible refine (n4 _).mono ?_); rintro _ V15 ⟨k4, rfl, hk4, hb4, hf4⟩)
    | (go_at_call 14; (with_reducible refine (r4 _ _ _ _ _ hv14 hk4 hb4 hf4).mono ?_); rintro _ V16 ⟨rfl, hv16⟩; have hv17 := hv16.push #[.int .i64 4, .int .i64 0] 37; clear a0 a1 a2 hv16; obtain ⟨a0, a1, a2⟩ := rv_cell hv17)
    | (go_at_call 12; (with_reducible refine (n5 _).mono ?_); rintro _ V18 ⟨k5, rfl, hk5, hb5, hf5⟩; have hv18 := hv17.below hb5)
    | (go_at_call 14; (with_reducible refine (r5 _ A.p _ hf5).mono ?_); rintro _ _ ⟨rfl, x19, rfl⟩; have hv19 := (hv18.later x19).push #[.int .i64 1, .int .i64 0] 37; obtain ⟨z1, z2⟩ := rv_two (q := V7.heap.size) (a := .int .i64 0) (b := .int .i64 77) hv19 (by simp); obtain ⟨z3, z4⟩ := rv_two (q := V10.heap.size) (a := .int .i64 5) (b := .int .i64 0) hv19 (by simp); obtain ⟨z5, z6⟩ := rv_two (q := V13.heap.size) (a := .int .i64 4) (b := .int .i64 0) hv19 (by simp); obtain ⟨z7, z8⟩ := rv_two (q := V16.heap.size) (a := .int .i64 4) (b := .int .i64 0) hv19 (by simp)))
  go_ret
  exact Ret.mk rfl (hw0.trans (hv19.bel.mono hw0.size))
end Go.Proofs.YtnahjnbhmlomcaaDoor
