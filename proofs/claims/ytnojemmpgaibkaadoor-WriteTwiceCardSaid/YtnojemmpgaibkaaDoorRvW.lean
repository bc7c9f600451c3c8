/-
  A region that draws its order, all of whose calls keep what is known all along a statement on plain cells: one walk.
  Conditions: none; plain lemmas over the library's own notions.
-/
import Derived.Test.YtnojemmpgaibkaaDoorRvMore
import Derived.BigQuiet
namespace Go.Proofs.YtnojemmpgaibkaaDoor
open Go.RowKit
set_option linter.unusedVariables false

/-- A world of which this holds. -/
structure In (R : World → Prop) where
  at' : World
  ok : R at'
theorem In.of {R : World → Prop} {W : World} (h : R W) : ∃ x : In R, W = x.at' := ⟨⟨W, h⟩, rfl⟩
/-- A call that answers v and keeps it. -/
def Keeps (R : World → Prop) (v : Value) (e : Ending) (w' : World) : Prop := e = .returned v ∧ ∃ y : In R, w' = y.at'
theorem Rv.drew {w W : World} {A : PAt} {t s : Int} {ws bs : List Int} {K : List (Nat × List Value)} (h : Rv w A t s ws bs K W) : Rv w A t s ws bs K W.drew :=
  { h with bel := h.bel.drew, mem := h.mem.imp fun _ m => m.drew, keep := fun p hp => ⟨(h.keep p hp).1.drew, (h.keep p hp).2⟩ }
namespace In
variable {w : World} {A : PAt} {t s : Int} {ws bs : List Int} {K : List (Nat × List Value)}
theorem base (x : In (Rv w A t s ws bs K)) {k : Nat} {l : List Value} (hf : Fs w k l) (i : Nat) {v : Value} (hv : l[i]? = some v) : x.at'.cell? ⟨k, i, none⟩ = some v := (hf.below x.ok.bel hf.lt).at' i hv
theorem kept (x : In (Rv w A t s ws bs K)) {k : Nat} {l : List Value} (hm : (k, l) ∈ K) (i : Nat) {v : Value} (hv : l[i]? = some v) : x.at'.cell? ⟨k, i, none⟩ = some v := (x.ok.keep _ hm).1.at' i hv
theorem load (x : In (Rv w A t s ws bs K)) {i v : Int} (hv : atI ws i = v) : Calls Tryd.prog 22 #[.pointer (some ⟨A.p, 0, none⟩), .int .i64 i] x.at' (Keeps (Rv w A t s ws bs K) (.int .i64 v)) := by
  subst hv
  exact (rvLoad x.ok i).mono fun _ _ ⟨he, h, _⟩ => ⟨he, In.of h⟩
theorem byte (x : In (Rv w A t s ws bs K)) {i v : Int} (hv : atI bs i = v) : Calls Tryd.prog 24 #[.pointer (some ⟨A.p, 0, none⟩), .int .i64 i] x.at' (Keeps (Rv w A t s ws bs K) (.int .i64 v)) := by
  subst hv
  exact (rvByteAt x.ok i).mono fun _ _ ⟨he, h, _⟩ => ⟨he, In.of h⟩
/-- A call that turns nothing that was there. -/
theorem ret (x : In (Rv w A t s ws bs K)) {P : Program} {f : FuncId} {args : Array Value} {v : Value} (h : Calls P f args x.at' (Ret x.at' v)) : Calls P f args x.at' (Keeps (Rv w A t s ws bs K) v) :=
  h.mono fun _ _ ⟨he, y, hy⟩ => ⟨he, by rw [hy]; exact In.of (x.ok.later y)⟩
theorem same {R : World → Prop} (x : In R) {P : Program} {f : FuncId} {args : Array Value} {v : Value} (h : Calls P f args x.at' fun e w' => e = .returned v ∧ x.at' = w') : Calls P f args x.at' (Keeps R v) :=
  h.mono fun _ _ ⟨he, hw⟩ => ⟨he, x, hw.symm⟩
end In
theorem wp_region_in {P : Program} {id : Nat} {Q : Exit → Act → World → Prop} {a : Act} {R : World → Prop} {W : World} {l : List Oper} (h0 : R W.drew) (hm : P.follows .mixedOrders = true) (hB : Region.lexB .any l.toArray = true)
    (h : Nonempty (In R) → wpQuiet P l.toArray (fun w' => ∃ x : In R, w' = x.at') (fun a' => ∀ w', (∃ x : In R, w' = x.at') → Q .normal a' w') l a) : (Code.region id l.toArray true).wp P Q a W :=
  wp_region_quiet (C := fun w' => ∃ x : In R, w' = x.at') hm hB (In.of h0) (by simpa using h ⟨⟨W.drew, h0⟩⟩)
end Go.Proofs.YtnojemmpgaibkaaDoor
