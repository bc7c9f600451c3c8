/-
  A region that draws its order and whose calls make memory of their own is walked once, in the order of the text: the class of worlds is 'nothing that was there has turned'.
  Conditions: none; plain lemmas over the library's own notions.
-/
import Derived.WalkKit
import Derived.Deep.Quiet
import Derived.Deep.RegionHeld3
namespace Go.Proofs.YtfomephgallpmaaDoor
open Go.RowKit

/-- A world in which nothing that w had has turned. -/
structure Later (w : World) where
  at' : World
  below : Below w.heap.size w at'

instance (w : World) : Nonempty (Later w) := ⟨⟨w, Below.refl _ _⟩⟩

namespace Later
variable {w : World}
theorem cell (x : Later w) (b o : Nat) (k : Option Nat) (h : b < w.heap.size) : x.at'.cell? ⟨b, o, k⟩ = w.cell? ⟨b, o, k⟩ := x.below.cell (p := ⟨b, o, k⟩) h
theorem frozen (x : Later w) (b o : Nat) (k : Option Nat) (h : b < w.heap.size) : x.at'.frozen? ⟨b, o, k⟩ = w.frozen? ⟨b, o, k⟩ := x.below.frozen (p := ⟨b, o, k⟩) h
theorem lt (x : Later w) (b : Nat) (h : b < w.heap.size) : b < x.at'.heap.size := Nat.lt_of_lt_of_le h x.below.size
theorem le (x : Later w) (b : Nat) (h : b ≤ w.heap.size) : b ≤ x.at'.heap.size := Nat.le_trans h x.below.size
/-- Each later world of a later one is a later one. -/
def on (x : Later w) {w' : World} (h : Below x.at'.heap.size x.at' w') : Later w := ⟨w', x.below.trans (h.mono x.below.size)⟩
theorem boxed {o : Obj} (x : Later (w.alloc o)) : Below w.heap.size w x.at' := ((Below.refl _ _).alloc (Nat.le_refl _) _).trans (x.below.mono (by simp))
theorem boxed2 {o p : Obj} (x : Later ((w.alloc o).alloc p).drew) : Below w.heap.size w x.at' := ((((Below.refl _ _).alloc (Nat.le_refl _) _).alloc (by simp) _).drew).trans (x.below.mono (by simp [World.drew]; omega))
theorem boxed3 {o p q : Obj} (x : Later (((w.alloc o).alloc p).alloc q).drew) : Below w.heap.size w x.at' := (((((Below.refl _ _).alloc (Nat.le_refl _) _).alloc (by simp) _).alloc (by simp; omega) _).drew).trans (x.below.mono (by simp [World.drew]; omega))
theorem cat {B : Nat} {v : World} (y : Later w) (h : Below B v w) (hB : B ≤ w.heap.size) : Below B v y.at' := h.trans (y.below.mono hB)
/-- A store, seen from the base. -/
def set (x : Later w) (a : Addr) (u : Value) : Later (w.setCell a u) :=
  ⟨x.at'.setCell a u, x.below.os, x.below.tape, x.below.output, by have := x.below.size; simpa using this,
    fun k hk => by simp only [World.setCell, Array.getElem?_modify, x.below.block k (by simpa using hk)]⟩
/-- A store into the base's own last block: a later world of the base with that cell turned. -/
theorem put_last {c c' : Array Value} {t : TypeId} (x : Later (w.alloc (.cells c t))) (n i : Nat) (u : Value) (hn : n = w.heap.size) (hc : c.setIfInBounds i u = c') :
    ∃ y : Later (w.alloc (.cells c' t)), x.at'.setCell ⟨n, i, none⟩ u = y.at' := by
  subst hn hc
  rw [← World.setCell_alloc_new]
  exact ⟨x.set _ _, rfl⟩
/-- A store into the block before the base's last one. -/
theorem put_prev {c c' : Array Value} {t : TypeId} {o : Obj} (x : Later ((w.alloc (.cells c t)).alloc o)) (n i : Nat) (u : Value) (hn : n = w.heap.size) (hc : c.setIfInBounds i u = c') :
    ∃ y : Later ((w.alloc (.cells c' t)).alloc o), x.at'.setCell ⟨n, i, none⟩ u = y.at' := by
  subst hn hc
  rw [← World.setCell_alloc_new, ← World.setCell_alloc_past o w.heap.size i u (by simp)]
  exact ⟨x.set _ _, rfl⟩
/-- The base's last block, behind a block more. -/
theorem two_cell {c : Array Value} {t : TypeId} {o : Obj} (x : Later (w.alloc (.cells c t))) (y : Later (x.at'.alloc o)) (k : Nat) (v : Value) (hv : c[k]? = some v) : y.at'.cell? ⟨w.heap.size, k, none⟩ = some v := by
  have h := (x.on y.boxed).cell w.heap.size k none (by simp)
  rw [World.cell?_alloc_new, hv] at h
  exact h
theorem two_frozen {c : Array Value} {t : TypeId} {o : Obj} (x : Later (w.alloc (.cells c t))) (y : Later (x.at'.alloc o)) (k : Nat) : y.at'.frozen? ⟨w.heap.size, k, none⟩ = false := by
  have h := (x.on y.boxed).frozen w.heap.size k none (by simp)
  rw [World.frozen?_alloc_new] at h
  exact h
theorem below_drewN {B : Nat} {v u : World} (h : Below B v u) (d : Nat) : Below B v (u.drewN d) := ⟨h.os, h.tape, h.output, h.size, h.block⟩
theorem boxedN {o : Obj} {d : Nat} (x : Later ((w.alloc o).drewN d)) : Below w.heap.size w x.at' := (below_drewN ((Below.refl _ _).alloc (Nat.le_refl _) _) d).trans (x.below.mono (by simp))
end Later

/-- What a call answers that leaves alone all that was there. -/
def Ret (w : World) (v : Value) (e : Ending) (w' : World) : Prop := e = .returned v ∧ ∃ x : Later w, w' = x.at'

theorem Ret.mk {w w' : World} {v u : Value} (h : v = u) (hb : Below w.heap.size w w') : Ret w u (.returned v) w' := ⟨by rw [h], ⟨w', hb⟩, rfl⟩

/-- A contract met in a later world. -/
theorem later_of {P : Program} {f : FuncId} {args : Array Value} {w : World} {v : Value} (x : Later w) (h : Calls P f args x.at' (Ret x.at' v)) :
    Calls P f args x.at' fun e w'' => e = .returned v ∧ ∃ y : Later w, w'' = y.at' :=
  h.mono fun _ _ ⟨he, y, hy⟩ => ⟨he, x.on (hy ▸ y.below), rfl⟩
/-- A contract that leaves the world as it is. -/
theorem later_same {P : Program} {f : FuncId} {args : Array Value} {w : World} {v : Value} (x : Later w) (h : Calls P f args x.at' fun e w' => e = .returned v ∧ x.at' = w') :
    Calls P f args x.at' fun e w'' => e = .returned v ∧ ∃ y : Later w, w'' = y.at' :=
  h.mono fun _ _ ⟨he, hw⟩ => ⟨he, x, hw.symm⟩

/-- One walk of the text's order serves every order, where the operations only read and the calls make memory of their own alone. -/
theorem wp_region_later {P : Program} {id : Nat} {Q : Exit → Act → World → Prop} {a : Act} {w : World} {l : List Oper} (hm : P.follows .mixedOrders = true) (hB : Region.lexB .any l.toArray = true)
    (h : wpQuiet P l.toArray (fun w' => ∃ x : Later w, w' = x.at') (fun a' => ∀ w', (∃ x : Later w, w' = x.at') → Q .normal a' w') l a) : (Code.region id l.toArray true).wp P Q a w :=
  wp_region_quiet (C := fun w' => ∃ x : Later w, w' = x.at') hm hB ⟨⟨_, (Below.refl _ _).drew⟩, rfl⟩ (by simpa using h)
/-- The same in a later world: the class stays that of the first one. -/
theorem wp_region_later' {P : Program} {id : Nat} {Q : Exit → Act → World → Prop} {a : Act} {w : World} {l : List Oper} (x : Later w) (hm : P.follows .mixedOrders = true) (hB : Region.lexB .any l.toArray = true)
    (h : wpQuiet P l.toArray (fun w' => ∃ x : Later w, w' = x.at') (fun a' => ∀ w', (∃ x : Later w, w' = x.at') → Q .normal a' w') l a) : (Code.region id l.toArray true).wp P Q a x.at' :=
  wp_region_quiet (C := fun w' => ∃ x : Later w, w' = x.at') hm hB ⟨⟨_, x.below.drew⟩, rfl⟩ (by simpa using h)
end Go.Proofs.YtfomephgallpmaaDoor
