/-
  What is known all along a statement on plain cells of a layout, with rows of cells that are kept.
  Conditions: none; plain lemmas, and what a store does.
-/
import Derived.Test.YtfomephgallpmaaDoorRdBase
import Derived.Test.YtfomephgallpmaaDoorPlain
namespace Go.Proofs.YtfomephgallpmaaDoor
open Go.RowKit
attribute [local go_sem] Later.cell Later.frozen Later.lt Later.le
set_option linter.unusedVariables false
set_option linter.unusedSimpArgs false

theorem ESeat.alloc {w : World} {A : PAt} {k : Nat} {t s : Int} (h : ESeat w A k t s) (o : Obj) : ESeat (w.alloc o) A k t s := { h with hE := h.hE.alloc o }
/-- What is known all along: plain cells, of a layout of t threads and s slots, and rows of cells that lie behind them. -/
structure Rv (w : World) (A : PAt) (t s : Int) (ws bs : List Int) (K : List (Nat × List Value)) (W : World) : Prop where
  bel : Below w.heap.size w W
  hE : HasFields w
  mem : ∃ n, Mem W A ws bs n
  lo : w.heap.size ≤ A.lo
  keep : ∀ p ∈ K, Fs W p.1 p.2 ∧ A.hi ≤ p.1
  t0 : 1 ≤ t
  t4 : t ≤ 4
  s0 : 1 ≤ s
  s64 : s ≤ 64
namespace Rv
variable {w W W' W'' : World} {A : PAt} {t s : Int} {ws bs ws' bs' : List Int} {K : List (Nat × List Value)} {k : Nat}
theorem later (h : Rv w A t s ws bs K W) (y : Later W) : Rv w A t s ws bs K y.at' :=
  { h with bel := y.cat h.bel h.bel.size, mem := h.mem.imp fun _ m => m.later y, keep := fun p hp => ⟨(h.keep p hp).1.later y, (h.keep p hp).2⟩ }
theorem below (h : Rv w A t s ws bs K W) (y : Below W.heap.size W W') : Rv w A t s ws bs K W' := h.later ⟨W', y⟩
theorem alloc (h : Rv w A t s ws bs K W) (o : Obj) : Rv w A t s ws bs K (W.alloc o) := h.later ⟨_, (Below.refl _ _).alloc (Nat.le_refl _) o⟩
theorem push (h : Rv w A t s ws bs K W) (cs : Array Value) (T : TypeId) : Rv w A t s ws bs ((W.heap.size, cs.toList) :: K) (W.alloc (.cells cs T)) := by
  have h1 := h.alloc (.cells cs T)
  obtain ⟨n, hm⟩ := h.mem
  exact ⟨h1.bel, h1.hE, h1.mem, h1.lo, fun p hp => by
    rcases List.mem_cons.1 hp with rfl | hp
    · exact ⟨Fs.new' _ _ rfl rfl, hm.hs⟩
    · exact h1.keep p hp, h1.t0, h1.t4, h1.s0, h1.s64⟩
theorem lohi (h : Rv w A t s ws bs K W) : A.lo < A.hi := by
  obtain ⟨n, hm⟩ := h.mem
  exact Nat.lt_of_le_of_lt hm.lp hm.up
theorem seat (h : Rv w A t s ws bs K W) (hk : A.hi ≤ k) : ESeat W A k t s :=
  ⟨h.hE.below h.bel h.hE.lt, by have := h.hE.lt; have := h.lo; omega, by have := h.hE.lt; have := h.lo; have := h.lohi; omega, hk, h.t0, h.t4, h.s0, h.s64⟩
/-- A machine's steps, at a block that was not there. -/
theorem steps (h : Rv w A t s ws bs K W) (hk : W.heap.size ≤ k) (hb : Below W.heap.size W W') (m : Moved (spanS A k) W' W'') (hm : ∃ n, Mem W'' A ws bs n) : Rv w A t s ws bs K W'' := by
  have h1 := h.below hb
  have hlo := h.lo
  have hlh := h.lohi
  refine { h1 with bel := m.below h1.bel h1.bel.size fun b hb => spanS_not (Or.inl (by omega)) (by have := h.bel.size; omega), mem := hm, keep := fun p hp => ⟨(h1.keep p hp).1.moved m (spanS_not (Or.inr (h1.keep p hp).2) ?_), (h1.keep p hp).2⟩ }
  have := (h.keep p hp).1.lt
  omega
/-- The same for a machine that lies there, and is no row that is kept. -/
theorem steps' (h : Rv w A t s ws bs K W) (hk : w.heap.size ≤ k) (hK : ∀ p ∈ K, p.1 ≠ k) (m : Moved (spanS A k) W W') (hm : ∃ n, Mem W' A ws bs n) : Rv w A t s ws bs K W' := by
  have hlo := h.lo
  exact { h with bel := m.below h.bel h.bel.size fun b hb => spanS_not (Or.inl (by omega)) (by omega), mem := hm, keep := fun p hp => ⟨(h.keep p hp).1.moved m (spanS_not (Or.inr (h.keep p hp).2) (hK p hp)), (h.keep p hp).2⟩ }
theorem touch (h : Rv w A t s ws bs K W) (x : Touch A.lo A.hi W W') {n : Int} (hm : Mem W' A ws' bs' n) : Rv w A t s ws' bs' K W' :=
  { h with bel := x.below h.bel h.lo h.bel.size, mem := ⟨n, hm⟩, keep := fun p hp => ⟨(h.keep p hp).1.touch x (Or.inr (h.keep p hp).2), (h.keep p hp).2⟩ }
end Rv

section
variable {w W : World} {A : PAt} {t s : Int} {ws bs : List Int} {K : List (Nat × List Value)} {k : Nat}
theorem rvStore (h : Rv w A t s ws bs K W) (i v : Int) : Calls Tryd.prog 117 #[.pointer (some ⟨A.p, 0, none⟩), .int .i64 i, .int .i64 v] W fun e w' => e = .returned (.tuple #[]) ∧ Rv w A t s (setI ws i v) bs K w' ∧ Touch A.lo A.hi W w' := by
  obtain ⟨n, hm⟩ := h.mem
  refine (Store_any i v hm).mono ?_
  rintro _ _ ⟨he, x, rfl, hm'⟩
  exact ⟨he, h.touch x.turn hm', x.turn⟩
theorem rvByte (h : Rv w A t s ws bs K W) (i v : Int) : Calls Tryd.prog 10 #[.pointer (some ⟨A.p, 0, none⟩), .int .i64 i, .int .i64 v] W fun e w' => e = .returned (.tuple #[]) ∧ Rv w A t s ws (setI bs i (v % 256)) K w' ∧ Touch A.lo A.hi W w' := by
  obtain ⟨n, hm⟩ := h.mem
  refine (SetByte_any i v hm).mono ?_
  rintro _ _ ⟨he, x, rfl, hm'⟩
  exact ⟨he, h.touch x.turn hm', x.turn⟩
theorem rvLoad (h : Rv w A t s ws bs K W) (i : Int) : Calls Tryd.prog 16 #[.pointer (some ⟨A.p, 0, none⟩), .int .i64 i] W fun e w' => e = .returned (.int .i64 (atI ws i)) ∧ Rv w A t s ws bs K w' ∧ Touch A.lo A.hi W w' := by
  obtain ⟨n, hm⟩ := h.mem
  refine (Load_any i hm).mono ?_
  rintro _ _ ⟨he, x, rfl, hm'⟩
  exact ⟨he, h.touch x.turn hm', x.turn⟩
theorem rvByteAt (h : Rv w A t s ws bs K W) (i : Int) : Calls Tryd.prog 15 #[.pointer (some ⟨A.p, 0, none⟩), .int .i64 i] W fun e w' => e = .returned (.int .i64 (atI bs i)) ∧ Rv w A t s ws bs K w' ∧ Touch A.lo A.hi W w' := by
  obtain ⟨n, hm⟩ := h.mem
  refine (Byte_any i hm).mono ?_
  rintro _ _ ⟨he, x, rfl, hm'⟩
  exact ⟨he, h.touch x.turn hm', x.turn⟩
end
theorem rv_cell {w W : World} {A : PAt} {t s : Int} {ws bs : List Int} {K : List (Nat × List Value)} {a b c : Value} {T : TypeId} (h : Rv (w.alloc (.cells #[a, b, c] T)) A t s ws bs K W) : W.cell? ⟨w.heap.size, 0, none⟩ = some a ∧ W.cell? ⟨w.heap.size, 1, none⟩ = some b ∧ W.cell? ⟨w.heap.size, 2, none⟩ = some c := by
  have hf : Fs W w.heap.size [a, b, c] := (Fs.new' (w := w) #[a, b, c] T rfl rfl).below h.bel (by simp)
  exact ⟨hf.at' 0 rfl, hf.at' 1 rfl, hf.at' 2 rfl⟩
theorem rv_two {w W : World} {A : PAt} {t s : Int} {ws bs : List Int} {K : List (Nat × List Value)} {q : Nat} {a b : Value} (h : Rv w A t s ws bs K W) (hm : (q, [a, b]) ∈ K) : W.cell? ⟨q, 0, none⟩ = some a ∧ W.cell? ⟨q, 1, none⟩ = some b :=
  ⟨(h.keep _ hm).1.at' 0 rfl, (h.keep _ hm).1.at' 1 rfl⟩

end Go.Proofs.YtfomephgallpmaaDoor
