/-
  Events in memory, as a slice of them lies there.
  Conditions: none; plain lemmas.
-/
import Derived.Test.YtfjgmggpkljphaaLater
import Derived.Test.YtfjgmggpkljphaaEvMathD
namespace Go.Proofs.Ytfjgmggpkljphaa
open Go.RowKit

/-- These events lie there, one behind the other. -/
structure EvsAt (w : World) (b off : Nat) (l : List Ev) : Prop where
  lt : b < w.heap.size
  c0 : ∀ i, i < l.length → w.cell? ⟨b, off + i * 8, none⟩ = some (.int .i64 (evAt l i).th)
  c1 : ∀ i, i < l.length → w.cell? ⟨b, off + i * 8 + 1, none⟩ = some (.bool (evAt l i).bk)
  c2 : ∀ i, i < l.length → w.cell? ⟨b, off + i * 8 + 2, none⟩ = some (.int .i64 (evAt l i).d)
  c3 : ∀ i, i < l.length → w.cell? ⟨b, off + i * 8 + 3, none⟩ = some (.int .i64 (evAt l i).h)
  c4 : ∀ i, i < l.length → w.cell? ⟨b, off + i * 8 + 4, none⟩ = some (.int .i64 (evAt l i).o)
  c5 : ∀ i, i < l.length → w.cell? ⟨b, off + i * 8 + 5, none⟩ = some (.int .i64 (evAt l i).n)
  c6 : ∀ i, i < l.length → w.cell? ⟨b, off + i * 8 + 6, none⟩ = some (.int .i64 (evAt l i).c)
  c7 : ∀ i, i < l.length → w.cell? ⟨b, off + i * 8 + 7, none⟩ = some (.int .i64 (evAt l i).r)

theorem EvsAt.below {w w' : World} {b off : Nat} {l : List Ev} (h : EvsAt w b off l) (hb : Below w.heap.size w w') : EvsAt w' b off l :=
  have e : ∀ o, w'.cell? ⟨b, o, none⟩ = w.cell? ⟨b, o, none⟩ := fun o => hb.cell (p := ⟨b, o, none⟩) h.lt
  ⟨Nat.lt_of_lt_of_le h.lt hb.size, fun i hi => (e _).trans (h.c0 i hi), fun i hi => (e _).trans (h.c1 i hi), fun i hi => (e _).trans (h.c2 i hi), fun i hi => (e _).trans (h.c3 i hi), fun i hi => (e _).trans (h.c4 i hi), fun i hi => (e _).trans (h.c5 i hi), fun i hi => (e _).trans (h.c6 i hi), fun i hi => (e _).trans (h.c7 i hi)⟩
theorem EvsAt.later {w : World} {b off : Nat} {l : List Ev} (h : EvsAt w b off l) (x : Later w) : EvsAt x.at' b off l := h.below x.below
end Go.Proofs.Ytfjgmggpkljphaa
