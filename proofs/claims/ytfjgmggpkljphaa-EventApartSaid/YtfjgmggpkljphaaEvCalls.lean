/-
  What the document's own Calls answers for layer 8.
  Conditions: that the events lie in memory.
-/
import Derived.Test.YtfjgmggpkljphaaEvCheck
import Derived.Deep.RegionHeld3
import Derived.OwnWalk
import Derived.OneCell
import Derived.Deep.Heap
namespace Go.Proofs.Ytfjgmggpkljphaa
open Go.RowKit
attribute [local go_sem] Later.cell Later.frozen Later.lt Later.le
set_option linter.unusedVariables false

/-- A call, as it lies in memory. -/
def clCells (x : Cl) : List Value := [.int .i64 x.th, .int .i64 x.d, .int .i64 x.h, .int .i64 x.o, .int .i64 x.n, .int .i64 x.c, .int .i64 x.r, .bool x.done, .int .i64 x.fr, .int .i64 x.to]
def clsCells (l : List Cl) : List Value := l.flatMap clCells
theorem clsCells_len (l : List Cl) : (clsCells l).length = l.length * 10 := by
  induction l with
  | nil => rfl
  | cons x l ih => unfold clsCells at *; rw [List.flatMap_cons, List.length_append, ih, List.length_cons]; simp [clCells]; omega
theorem clsCells_app (l k : List Cl) : clsCells (l ++ k) = clsCells l ++ clsCells k := by simp [clsCells]
/-- The value owns these calls, in a block from base on; T: the type of one. -/
def Cls (T : TypeId) (w : World) (base : Nat) (v : Value) (l : List Cl) : Prop := w.ownsRow base T 10 v l.length (clsCells l)
theorem Cls.nil (T : TypeId) (w : World) (base : Nat) : Cls T w base (.slice none 0 0) [] := World.ownsRow_nil _ _ _ _
theorem Cls.later {T : TypeId} {w : World} {base : Nat} {v : Value} {l : List Cl} (h : Cls T w base v l) (x : Later w) : Cls T x.at' base v l :=
  World.ownsRow.kept h (row := none) ⟨x.below.os, x.below.tape, x.below.output, x.below.size, fun k hk _ => x.below.block k hk⟩ (by cases v.ownBlock <;> simp)
theorem Cls.alloc {T : TypeId} {w : World} {base : Nat} {v : Value} {l : List Cl} (h : Cls T w base v l) (o : Obj) : Cls T (w.alloc o) base v l := World.ownsRow.alloc h o
theorem Cls.grown {T : TypeId} {V W w4 : World} {l : List Cl} {v v' : Value} {x : Cl} (hb : Below V.heap.size V W) (hown : Cls T W V.heap.size v l) (hg : W.grownBy w4 v.ownBlock)
    (hO : w4.ownsRow V.heap.size T 10 v' (l.length + 1) (clsCells l ++ clCells x)) : ∃ y : Later V, w4 = y.at' ∧ Cls T y.at' V.heap.size v' (l ++ [x]) := by
  have hr : ∀ k, v.ownBlock = some k → V.heap.size ≤ k := fun k hk => (World.ownsRow.lt hown k hk).1
  refine ⟨⟨w4, hb.grown hg hb.size hr⟩, rfl, ?_⟩
  unfold Cls
  rw [clsCells_app, List.length_append]
  have e : clsCells [x] = clCells x := by simp [clsCells]
  rw [e]
  exact hO
/-- Behind a row's making. -/
theorem cells_list {w : World} {T : TypeId} (L : List Value) : ∀ j u, L[j]? = some u → (w.alloc (.cells L.toArray T)).cell? ((⟨w.heap.size, 0, none⟩ : Addr).add j) = some u := fun j u hu => by
  rw [Addr.add_lit, Nat.zero_add, World.cell?_alloc_new]
  simpa using hu
theorem clCells_one (x : Cl) : ∀ u ∈ clCells x, u.oneCell' = true := by
  intro u hu
  simp only [clCells, List.mem_cons, List.not_mem_nil, or_false] at hu
  rcases hu with rfl | rfl | rfl | rfl | rfl | rfl | rfl | rfl | rfl | rfl <;> rfl

theorem info_call : (Try.prog.info? 70).map (fun i => (i.zero, i.size, i.bytes)) = some (some (.agg #[.int .i64 0, .int .i64 0, .int .i64 0, .int .i64 0, .int .i64 0, .int .i64 0, .int .i64 0, .bool false, .int .i64 0, .int .i64 0]), 10, 80) := by kernel_rfl

/-- Of what was there nothing has turned. -/
def Since' (V W : World) : Prop := Below V.heap.size V W
theorem Since'.later {V W : World} (h : Since' V W) (x : Later W) : Since' V x.at' := Below.trans h (x.below.mono (Below.size h))
theorem Since'.alloc {V W : World} (h : Since' V W) (o : Obj) : Since' V (W.alloc o) := Below.alloc h (Below.size h) o
/-- A struct of ten cells stored into the base's own last block. -/
theorem put10 {V : World} {T : TypeId} {c0 c1 c2 c3 c4 c5 c6 c7 c8 c9 v0 v1 v2 v3 v4 v5 v6 v7 v8 v9 : Value} (x : Later (V.alloc (.cells #[c0, c1, c2, c3, c4, c5, c6, c7, c8, c9] T))) :
    ∃ y : Later (V.alloc (.cells #[v0, v1, v2, v3, v4, v5, v6, v7, v8, v9] T)), (((((((((x.at'.setCell ⟨V.heap.size, 0, none⟩ v0).setCell ⟨V.heap.size, 1, none⟩ v1).setCell ⟨V.heap.size, 2, none⟩ v2).setCell ⟨V.heap.size, 3, none⟩ v3).setCell ⟨V.heap.size, 4, none⟩ v4).setCell ⟨V.heap.size, 5, none⟩ v5).setCell ⟨V.heap.size, 6, none⟩ v6).setCell ⟨V.heap.size, 7, none⟩ v7).setCell ⟨V.heap.size, 8, none⟩ v8).setCell ⟨V.heap.size, 9, none⟩ v9 = y.at' := by
  obtain ⟨y0, e0⟩ : ∃ y : Later (V.alloc (.cells #[v0, c1, c2, c3, c4, c5, c6, c7, c8, c9] T)), x.at'.setCell ⟨V.heap.size, 0, none⟩ v0 = y.at' := x.put_last V.heap.size 0 v0 rfl rfl
  obtain ⟨y1, e1⟩ : ∃ y : Later (V.alloc (.cells #[v0, v1, c2, c3, c4, c5, c6, c7, c8, c9] T)), y0.at'.setCell ⟨V.heap.size, 1, none⟩ v1 = y.at' := y0.put_last V.heap.size 1 v1 rfl rfl
  obtain ⟨y2, e2⟩ : ∃ y : Later (V.alloc (.cells #[v0, v1, v2, c3, c4, c5, c6, c7, c8, c9] T)), y1.at'.setCell ⟨V.heap.size, 2, none⟩ v2 = y.at' := y1.put_last V.heap.size 2 v2 rfl rfl
  obtain ⟨y3, e3⟩ : ∃ y : Later (V.alloc (.cells #[v0, v1, v2, v3, c4, c5, c6, c7, c8, c9] T)), y2.at'.setCell ⟨V.heap.size, 3, none⟩ v3 = y.at' := y2.put_last V.heap.size 3 v3 rfl rfl
  obtain ⟨y4, e4⟩ : ∃ y : Later (V.alloc (.cells #[v0, v1, v2, v3, v4, c5, c6, c7, c8, c9] T)), y3.at'.setCell ⟨V.heap.size, 4, none⟩ v4 = y.at' := y3.put_last V.heap.size 4 v4 rfl rfl
  obtain ⟨y5, e5⟩ : ∃ y : Later (V.alloc (.cells #[v0, v1, v2, v3, v4, v5, c6, c7, c8, c9] T)), y4.at'.setCell ⟨V.heap.size, 5, none⟩ v5 = y.at' := y4.put_last V.heap.size 5 v5 rfl rfl
  obtain ⟨y6, e6⟩ : ∃ y : Later (V.alloc (.cells #[v0, v1, v2, v3, v4, v5, v6, c7, c8, c9] T)), y5.at'.setCell ⟨V.heap.size, 6, none⟩ v6 = y.at' := y5.put_last V.heap.size 6 v6 rfl rfl
  obtain ⟨y7, e7⟩ : ∃ y : Later (V.alloc (.cells #[v0, v1, v2, v3, v4, v5, v6, v7, c8, c9] T)), y6.at'.setCell ⟨V.heap.size, 7, none⟩ v7 = y.at' := y6.put_last V.heap.size 7 v7 rfl rfl
  obtain ⟨y8, e8⟩ : ∃ y : Later (V.alloc (.cells #[v0, v1, v2, v3, v4, v5, v6, v7, v8, c9] T)), y7.at'.setCell ⟨V.heap.size, 8, none⟩ v8 = y.at' := y7.put_last V.heap.size 8 v8 rfl rfl
  obtain ⟨y9, e9⟩ : ∃ y : Later (V.alloc (.cells #[v0, v1, v2, v3, v4, v5, v6, v7, v8, v9] T)), y8.at'.setCell ⟨V.heap.size, 9, none⟩ v9 = y.at' := y8.put_last V.heap.size 9 v9 rfl rfl
  exact ⟨y9, by rw [e0, e1, e2, e3, e4, e5, e6, e7, e8, e9]⟩
theorem since_put10 {w V : World} {T : TypeId} {c0 c1 c2 c3 c4 c5 c6 c7 c8 c9 v0 v1 v2 v3 v4 v5 v6 v7 v8 v9 : Value} (h : Since' w V) (x : Later (V.alloc (.cells #[c0, c1, c2, c3, c4, c5, c6, c7, c8, c9] T))) : Since' w ((((((((((x.at'.setCell ⟨V.heap.size, 0, none⟩ v0).setCell ⟨V.heap.size, 1, none⟩ v1).setCell ⟨V.heap.size, 2, none⟩ v2).setCell ⟨V.heap.size, 3, none⟩ v3).setCell ⟨V.heap.size, 4, none⟩ v4).setCell ⟨V.heap.size, 5, none⟩ v5).setCell ⟨V.heap.size, 6, none⟩ v6).setCell ⟨V.heap.size, 7, none⟩ v7).setCell ⟨V.heap.size, 8, none⟩ v8).setCell ⟨V.heap.size, 9, none⟩ v9) := by
  obtain ⟨y, e⟩ := put10 (v0 := v0) (v1 := v1) (v2 := v2) (v3 := v3) (v4 := v4) (v5 := v5) (v6 := v6) (v7 := v7) (v8 := v8) (v9 := v9) x
  rw [e]
  exact Since'.later (Since'.alloc h _) y
/-- A struct of ten cells lies in a block of the call's own, beside a row of calls. -/
structure Mid (T : TypeId) (w W : World) (g : Nat) (L : List Value) (v : Value) (l : List Cl) : Prop where
  since : Since' w W
  blk : W.heap[g]? = some (.cells L.toArray T (0, 0))
  lo : w.heap.size ≤ g
  own : Cls T W w.heap.size v l
  apart : v.ownBlock ≠ some g
theorem Mid.mk1 {T : TypeId} {w W : World} {v : Value} {l : List Cl} (L : List Value) (h : Since' w W) (hown : Cls T W w.heap.size v l) : Mid T w (W.alloc (.cells L.toArray T)) W.heap.size L v l :=
  ⟨Since'.alloc h _, Go.Deep.blk_alloc_new _ _, Below.size h, Cls.alloc hown _, fun e => by have := (World.ownsRow.lt hown _ e).2; omega⟩
theorem Mid.later {T : TypeId} {w W : World} {g : Nat} {L : List Value} {v : Value} {l : List Cl} (h : Mid T w W g L v l) (x : Later W) : Mid T w x.at' g L v l :=
  ⟨Since'.later h.since x, (x.below.block g (Array.getElem?_eq_some_iff.1 h.blk).1).trans h.blk, h.lo, Cls.later h.own x, h.apart⟩
theorem Mid.cell {T : TypeId} {w W : World} {g : Nat} {L : List Value} {v : Value} {l : List Cl} (h : Mid T w W g L v l) (j : Nat) : W.cell? ⟨g, j, none⟩ = L[j]? := by simp [World.cell?, h.blk]
theorem Mid.frozen {T : TypeId} {w W : World} {g : Nat} {L : List Value} {v : Value} {l : List Cl} (h : Mid T w W g L v l) (j : Nat) : W.frozen? ⟨g, j, none⟩ = false := by simp [World.frozen?, h.blk]
theorem Mid.set {T : TypeId} {w W : World} {g : Nat} {L : List Value} {v : Value} {l : List Cl} (h : Mid T w W g L v l) (j : Nat) (u : Value) : Mid T w (W.setCell ⟨g, j, none⟩ u) g (L.set j u) v l :=
  ⟨Below.setCell h.since h.lo u, by simp [World.setCell, Array.getElem?_modify, h.blk], h.lo, ownsRow_setCell_other h.own (by simpa using h.apart) u, h.apart⟩
theorem sinceOf {c0 c1 c2 c3 c4 : Prop} {V W : World} (h : c0 ∧ c1 ∧ c2 ∧ c3 ∧ c4 ∧ Since' V W) : Since' V W := h.2.2.2.2.2
theorem evS {w W : World} {b off k : Nat} {l : List Ev} (hE : EvsAt w b off l) (hk : k < l.length) (h : Since' w W) :
    W.cell? ⟨b, off + k * 8, none⟩ = some (.int .i64 (evAt l k).th) ∧ W.cell? ⟨b, off + k * 8 + 2, none⟩ = some (.int .i64 (evAt l k).d) ∧ W.cell? ⟨b, off + k * 8 + 3, none⟩ = some (.int .i64 (evAt l k).h) ∧
      W.cell? ⟨b, off + k * 8 + 4, none⟩ = some (.int .i64 (evAt l k).o) ∧ W.cell? ⟨b, off + k * 8 + 5, none⟩ = some (.int .i64 (evAt l k).n) ∧ Since' w W :=
  have e := hE.below h
  ⟨e.c0 k hk, e.c2 k hk, e.c3 k hk, e.c4 k hk, e.c5 k hk, h⟩

set_option maxHeartbeats 2000000 in
theorem rCalls_bad {b off cap : Nat} {l : List Ev} {w : World} (hE : EvsAt w b off l) (hl : l.length ≤ 1000000) (H : ¬ Hist l) : Calls Try.prog 37 #[.slice (some ⟨b, off, none⟩) l.length cap] w (Ret w (.tuple #[.slice none 0 0, .int .i64 2])) := by
  have hc := rCheck_any (cap := cap) hE hl
  rcases histE_cases l with ⟨h, _⟩ | ⟨_, h⟩
  · exact absurd h H
  rw [h] at hc
  clear h H
  go_enter Try.func37, Try.ntmps37
  go_wp2_with (go_at_call 41; (with_reducible refine hc.mono ?_); rintro _ _ ⟨rfl, x, rfl⟩)
  go_ret2
  exact Ret.mk rfl x.below

end Go.Proofs.Ytfjgmggpkljphaa
