/-
  What a machine that reads an entry stands on.
  Conditions: none; definitions and plain lemmas.
-/
import Derived.Test.YtfomephgallpmaaDoorSpan
import Derived.Test.YtfomephgallpmaaDoorEntryUnpack
import Derived.StillTail
namespace Go.Proofs.YtfomephgallpmaaDoor
open Go.RowKit Go
set_option linter.unusedVariables false

theorem HasFields.moved {S : Nat → Prop} {w w' : World} (h : HasFields w) (m : Moved S w w') (h0 : ¬ S 0) : HasFields w' := h.of_cells m.size fun o => m.cell _ _ _ h.lt h0

theorem HasFields.touch {lo hi : Nat} {w w' : World} (h : HasFields w) (m : Touch lo hi w w') (h0 : 0 < lo ∨ hi ≤ 0) : HasFields w' := h.of_cells m.size fun _ => m.cell _ _ _ h.lt h0
/-- What a machine's step stands on. -/
structure ESeat (w : World) (A : PAt) (k : Nat) (t s : Int) : Prop where
  hE : HasFields w
  e0 : 0 < A.lo
  ek : 0 ≠ k
  hk : A.hi ≤ k
  t0 : 1 ≤ t
  t4 : t ≤ 4
  s0 : 1 ≤ s
  s64 : s ≤ 64
theorem ESeat.moved {w w' : World} {A : PAt} {k : Nat} {t s : Int} (h : ESeat w A k t s) (m : Moved (spanS A k) w w') : ESeat w' A k t s :=
  { h with hE := h.hE.moved m (spanS_not (Or.inl h.e0) h.ek) }

theorem region_tail {P : Program} {id : Nat} {Q : Exit → Act → World → Prop} {a : Act} {w : World} {l : List Oper} (n : Nat) (hm : P.follows .mixedOrders = true) (hB : Region.lexTailB .any l.toArray n = true)
    (h : wpStill P l.toArray w.drew (fun a' => wpList P l.toArray Q (l.drop n) a' w.drew) (l.take n) a) : (Code.region id l.toArray true).wp P Q a w := wp_region_still_tail n hm hB h
/-- What holds all along a load: the machine, the cells, the table, and the answer's own cells. -/
structure RL (w : World) (A : PAt) (k : Nat) (L Z : List Value) (ws bs : List Int) (W : World) : Prop where
  fs : Fs W k L
  mem : ∃ n, Mem W A ws bs n
  hE : HasFields W
  mv : Moved (spanS A k) w W
  f4 : Fs W w.heap.size Z
  hk : A.hi ≤ k
  kw : k < w.heap.size
  e0 : 0 < A.lo
  ew : 0 < w.heap.size
  ek : 0 ≠ k
  ah : A.hi ≤ w.heap.size
namespace RL
variable {w W : World} {A : PAt} {k : Nat} {L Z : List Value} {ws bs : List Int}
theorem later (h : RL w A k L Z ws bs W) (y : Later W) : RL w A k L Z ws bs y.at' :=
  { h with fs := h.fs.later y, mem := h.mem.imp fun _ m => m.later y, hE := h.hE.below y.below h.hE.lt, mv := h.mv.later y, f4 := h.f4.later y }
theorem alloc (h : RL w A k L Z ws bs W) (o : Obj) : RL w A k L Z ws bs (W.alloc o) :=
  { h with fs := h.fs.alloc o, mem := h.mem.imp fun _ m => m.alloc o, hE := h.hE.alloc o, mv := h.mv.alloc o, f4 := h.f4.alloc o }
theorem drew (h : RL w A k L Z ws bs W) : RL w A k L Z ws bs W.drew :=
  { h with fs := h.fs.drew, mem := h.mem.imp fun _ m => m.drew, hE := h.hE.drew, mv := h.mv.drew, f4 := h.f4.drew }
theorem touch {n' : Int} {W' : World} (h : RL w A k L Z ws bs W) (z : Touch A.lo A.hi W W') (hm : Mem W' A ws bs n') : RL w A k L Z ws bs W' :=
  { h with fs := h.fs.touch z (Or.inr h.hk), mem := ⟨_, hm⟩, hE := h.hE.touch z (Or.inl h.e0), mv := h.mv.touch z spanS_in, f4 := h.f4.touch z (Or.inr h.ah) }
theorem setNew (h : RL w A k L Z ws bs W) (a : Addr) (u : Value) (ha : w.heap.size < a.block) : RL w A k L Z ws bs (W.setCell a u) :=
  { h with fs := h.fs.other a u (by have := h.kw; omega), mem := h.mem.imp fun _ m => m.setOther a u (Or.inr (by have := h.ah; omega)), hE := h.hE.setCell (by have := h.ew; omega) u, mv := h.mv.setNew a u (by omega), f4 := h.f4.other a u (by omega) }
theorem begin {n : Int} {t s : Int} (hS : ESeat w A k t s) (hM : Mem w A ws bs n) (hP : Fs w k L) (cs : Array Value) (T : TypeId) : RL w A k L cs.toList ws bs (w.alloc (.cells cs T)) :=
  { fs := hP.alloc _, mem := ⟨_, hM.alloc _⟩, hE := hS.hE.alloc _, mv := (Moved.refl _ _).alloc _, f4 := Fs.new' _ _ rfl rfl, hk := hS.hk, kw := hP.lt, e0 := hS.e0, ew := hS.hE.lt, ek := hS.ek, ah := hM.hs }
end RL
end Go.Proofs.YtfomephgallpmaaDoor
