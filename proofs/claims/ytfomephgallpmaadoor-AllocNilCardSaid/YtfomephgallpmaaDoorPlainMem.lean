/-
  Plain cells in memory: a struct, its words, its bytes; what a store turns of them, and what stays.
  Conditions: none; plain lemmas over the library's own notions.
-/
import Derived.Test.YtfomephgallpmaaDoorTurn
import Derived.Deep.OwnRows
import Derived.IntWalk
namespace Go.Proofs.YtfomephgallpmaaDoor
open Go.RowKit

/-- Where plain cells lie: the struct, its words, its bytes, all in a span of blocks. -/
structure PAt where
  p : Nat
  q : Nat
  r : Nat
  lo : Nat
  hi : Nat

/-- What a word, or a byte, is; 0 where there is none. -/
def atI (l : List Int) (i : Int) : Int := if 0 ≤ i then l.getD i.toNat 0 else 0
/-- Is there such a place? -/
def inI (l : List Int) (i : Int) : Bool := decide (0 ≤ i ∧ i ≤ (l.length : Int) - 1)
/-- A place set anew. -/
def setI (l : List Int) (i v : Int) : List Int := if inI l i then l.set i.toNat v else l

theorem inI_iff {l : List Int} {i : Int} : inI l i = true ↔ 0 ≤ i ∧ i < l.length := by simp [inI]; omega
theorem inI_no {l : List Int} {i : Int} (h : inI l i = false) : ¬ (0 ≤ i ∧ i < l.length) := fun k => by rw [inI_iff.2 k] at h; cases h
theorem atI_no {l : List Int} {i : Int} (h : inI l i = false) : atI l i = 0 := by
  have := inI_no h
  unfold atI
  split
  · simp [List.getElem?_eq_none (show l.length ≤ i.toNat by omega)]
  · rfl
theorem atI_in {l : List Int} {i : Int} (h : inI l i = true) : atI l i = l.getD i.toNat 0 := by
  have := inI_iff.1 h
  exact if_pos this.1
theorem setI_no {l : List Int} {i v : Int} (h : inI l i = false) : setI l i v = l := by unfold setI; rw [h]; rfl
theorem setI_in {l : List Int} {i v : Int} (h : inI l i = true) : setI l i v = l.set i.toNat v := by unfold setI; rw [h]; rfl
@[simp] theorem setI_length (l : List Int) (i v : Int) : (setI l i v).length = l.length := by unfold setI; split <;> simp
theorem atI_nat (l : List Int) (k : Nat) : atI l k = l.getD k 0 := by unfold atI; rw [if_pos (by omega)]; simp

/-- The steps behind one more. -/
def up (n : Int) : Int := wrap64 (n + 1)

/-- Plain cells with these words, these bytes and so many steps lie there. -/
structure Mem (w : World) (A : PAt) (ws bs : List Int) (n : Int) : Prop where
  c0 : w.cell? ⟨A.p, 0, none⟩ = some (.slice (some ⟨A.q, 0, none⟩) ws.length ws.length)
  c1 : w.cell? ⟨A.p, 1, none⟩ = some (.slice (some ⟨A.r, 0, none⟩) bs.length bs.length)
  c2 : w.cell? ⟨A.p, 2, none⟩ = some (.int .i64 n)
  fz : ∀ i, w.frozen? ⟨A.p, i, none⟩ = false
  hw : w.rowIs A.q 3 ws.length (fun i => .int .i64 (ws.getD i 0))
  hb : w.rowIs A.r 5 bs.length (fun i => .int .u8 (bs.getD i 0))
  lp : A.lo ≤ A.p
  lq : A.lo ≤ A.q
  lr : A.lo ≤ A.r
  up : A.p < A.hi
  uq : A.q < A.hi
  ur : A.r < A.hi
  hs : A.hi ≤ w.heap.size
  pq : A.p ≠ A.q
  pr : A.p ≠ A.r
  qr : A.q ≠ A.r
  ml : ws.length ≤ 4096
  bl : bs.length ≤ 4096
  br : ∀ i, 0 ≤ bs.getD i 0 ∧ bs.getD i 0 ≤ 255

namespace Mem
variable {w w' : World} {A : PAt} {ws bs : List Int} {n : Int}
/-- They lie so in each world whose blocks of the span are the same. -/
theorem of_blocks (h : Mem w A ws bs n) (hz : w.heap.size ≤ w'.heap.size) (hb : ∀ k, k < w.heap.size → A.lo ≤ k → k < A.hi → w'.heap[k]? = w.heap[k]?) : Mem w' A ws bs n :=
  have e : ∀ k, A.lo ≤ k → k < A.hi → w'.heap[k]? = w.heap[k]? := fun k h1 h2 => hb k (Nat.lt_of_lt_of_le h2 h.hs) h1 h2
  { c0 := (World.cell?_of_block (w := w) (e _ h.lp h.up)).trans h.c0
    c1 := (World.cell?_of_block (w := w) (e _ h.lp h.up)).trans h.c1
    c2 := (World.cell?_of_block (w := w) (e _ h.lp h.up)).trans h.c2
    fz := fun i => (World.frozen?_of_block (w := w) (e _ h.lp h.up)).trans (h.fz i)
    hw := h.hw.of_block (e _ h.lq h.uq)
    hb := h.hb.of_block (e _ h.lr h.ur)
    lp := h.lp, lq := h.lq, lr := h.lr, up := h.up, uq := h.uq, ur := h.ur
    hs := Nat.le_trans h.hs hz
    pq := h.pq, pr := h.pr, qr := h.qr, ml := h.ml, bl := h.bl, br := h.br }
theorem below {B : Nat} (h : Mem w A ws bs n) (hb : Below B w w') (hB : A.hi ≤ B) : Mem w' A ws bs n := h.of_blocks hb.size fun k _ _ h2 => hb.block k (by omega)
theorem later (h : Mem w A ws bs n) (x : Later w) : Mem x.at' A ws bs n := h.below x.below h.hs
theorem alloc (h : Mem w A ws bs n) (o : Obj) : Mem (w.alloc o) A ws bs n := h.below ((Below.refl _ _).alloc (Nat.le_refl _) _) h.hs
theorem drew (h : Mem w A ws bs n) : Mem w.drew A ws bs n := h.of_blocks (Nat.le_refl _) fun _ _ _ _ => rfl
/-- A span that is another one may turn. -/
theorem touch {lo hi : Nat} (h : Mem w A ws bs n) (t : Touch lo hi w w') (hd : A.hi ≤ lo ∨ hi ≤ A.lo) : Mem w' A ws bs n := h.of_blocks t.size fun k hk h1 h2 => t.block k hk (by omega)
/-- A store into a block that is none of the span's. -/
theorem setOther (h : Mem w A ws bs n) (a : Addr) (u : Value) (ha : a.block < A.lo ∨ A.hi ≤ a.block) : Mem (w.setCell a u) A ws bs n :=
  h.of_blocks (by simp) fun k _ h1 h2 => Go.Deep.blk_setCell_other _ _ _ _ (by omega)
/-- The steps set anew. -/
theorem setN (h : Mem w A ws bs n) (m : Int) : Mem (w.setCell ⟨A.p, 2, none⟩ (.int .i64 m)) A ws bs m :=
  { c0 := by rw [World.cell?_setCell_other _ _ _ _ (by simp)]; exact h.c0
    c1 := by rw [World.cell?_setCell_other _ _ _ _ (by simp)]; exact h.c1
    c2 := World.cell?_setCell_same _ _ _ h.c2
    fz := fun i => by simp [h.fz i]
    hw := h.hw.setOther (by simpa using h.pq.symm) _
    hb := h.hb.setOther (by simpa using h.pr.symm) _
    lp := h.lp, lq := h.lq, lr := h.lr, up := h.up, uq := h.uq, ur := h.ur
    hs := by simpa using h.hs
    pq := h.pq, pr := h.pr, qr := h.qr, ml := h.ml, bl := h.bl, br := h.br }
/-- A word set anew. -/
theorem setW (h : Mem w A ws bs n) (i : Nat) (hi : i < ws.length) (v : Int) : Mem (w.setCell ⟨A.q, i, none⟩ (.int .i64 v)) A (ws.set i v) bs n :=
  { c0 := by rw [World.cell?_setCell_other _ _ _ _ (by simp [h.pq.symm])]; simpa using h.c0
    c1 := by rw [World.cell?_setCell_other _ _ _ _ (by simp [h.pq.symm])]; exact h.c1
    c2 := by rw [World.cell?_setCell_other _ _ _ _ (by simp [h.pq.symm])]; exact h.c2
    fz := fun j => by simp [h.fz j]
    hw := by
      have := h.hw.set i (.int .i64 v)
      rw [List.length_set]
      refine this.congr fun j hj => ?_
      by_cases e : j = i
      · subst e; simp [hj]
      · simp [e, Ne.symm e]
    hb := h.hb.setOther (by simpa using h.qr.symm) _
    lp := h.lp, lq := h.lq, lr := h.lr, up := h.up, uq := h.uq, ur := h.ur
    hs := by simpa using h.hs
    pq := h.pq, pr := h.pr, qr := h.qr, ml := by simpa using h.ml, bl := h.bl, br := h.br }
/-- A byte set anew. -/
theorem setB (h : Mem w A ws bs n) (i : Nat) (hi : i < bs.length) (v : Int) (h0 : 0 ≤ v) (h1 : v ≤ 255) : Mem (w.setCell ⟨A.r, i, none⟩ (.int .u8 v)) A ws (bs.set i v) n :=
  { c0 := by rw [World.cell?_setCell_other _ _ _ _ (by simp [h.pr.symm])]; exact h.c0
    c1 := by rw [World.cell?_setCell_other _ _ _ _ (by simp [h.pr.symm])]; simpa using h.c1
    c2 := by rw [World.cell?_setCell_other _ _ _ _ (by simp [h.pr.symm])]; exact h.c2
    fz := fun j => by simp [h.fz j]
    hw := h.hw.setOther (by simpa using h.qr) _
    hb := by
      have := h.hb.set i (.int .u8 v)
      rw [List.length_set]
      refine this.congr fun j hj => ?_
      by_cases e : j = i
      · subst e; simp [hj]
      · simp [e, Ne.symm e]
    lp := h.lp, lq := h.lq, lr := h.lr, up := h.up, uq := h.uq, ur := h.ur
    hs := by simpa using h.hs
    pq := h.pq, pr := h.pr, qr := h.qr, ml := h.ml, bl := by simpa using h.bl
    br := fun j => by
      by_cases e : j = i
      · subst e; simp [hi, h0, h1]
      · have := h.br j
        simpa [Ne.symm e] using this }
theorem wordAt (h : Mem w A ws bs n) (i : Nat) (hi : i < ws.length) : w.cell? ⟨A.q, i, none⟩ = some (.int .i64 (ws.getD i 0)) := h.hw.cell hi
theorem byteAt (h : Mem w A ws bs n) (i : Nat) (hi : i < bs.length) : w.cell? ⟨A.r, i, none⟩ = some (.int .u8 (bs.getD i 0)) := h.hb.cell hi
theorem tN (h : Mem w A ws bs n) (u : Value) : Touch A.lo A.hi w (w.setCell ⟨A.p, 2, none⟩ u) := (Touch.refl _ _ _).setCell _ _ h.lp h.up
theorem tW (h : Mem w A ws bs n) (i : Nat) (u : Value) : Touch A.lo A.hi w (w.setCell ⟨A.q, i, none⟩ u) := (Touch.refl _ _ _).setCell _ _ h.lq h.uq
theorem tB (h : Mem w A ws bs n) (i : Nat) (u : Value) : Touch A.lo A.hi w (w.setCell ⟨A.r, i, none⟩ u) := (Touch.refl _ _ _).setCell _ _ h.lr h.ur
end Mem

/-- What a call answers that may turn plain cells, and nothing else of what was there. -/
def PRet (A : PAt) (w : World) (v : Value) (ws bs : List Int) (n : Int) (e : Ending) (w' : World) : Prop :=
  e = .returned v ∧ ∃ x : Turned A.lo A.hi w, w' = x.at' ∧ Mem x.at' A ws bs n

theorem PRet.mk {A : PAt} {w w' : World} {u v : Value} {ws bs : List Int} {n : Int} (h : v = u) (t : Touch A.lo A.hi w w') (hm : Mem w' A ws bs n) : PRet A w u ws bs n (.returned v) w' :=
  ⟨by rw [h], ⟨w', t⟩, rfl, hm⟩

/-- What a call answers that makes plain cells, and turns nothing that was there. -/
def Made (w : World) (ws bs : List Int) (n : Int) (e : Ending) (w' : World) : Prop :=
  ∃ A : PAt, e = .returned (.pointer (some ⟨A.p, 0, none⟩)) ∧ w.heap.size ≤ A.lo ∧ ∃ x : Later w, w' = x.at' ∧ Mem x.at' A ws bs n

/-- Such a contract met in a world that has turned since. -/
theorem pret_of {P : Program} {f : FuncId} {args : Array Value} {A : PAt} {w : World} {v : Value} {ws bs : List Int} {n : Int} (x : Turned A.lo A.hi w) (h : Calls P f args x.at' (PRet A x.at' v ws bs n)) :
    Calls P f args x.at' (PRet A w v ws bs n) :=
  h.mono fun _ _ ⟨he, y, hy, hm⟩ => ⟨he, x.on y.turn, hy, hm⟩

/-- Cells laid in three blocks. -/
theorem Mem.lay {w : World} {p q r lo hi : Nat} {ws bs : List Int} {n : Int} {t : TypeId} {kw kb : Nat} (hp : w.heap[p]? = some (.cells #[.slice (some ⟨q, 0, none⟩) kw kw, .slice (some ⟨r, 0, none⟩) kb kb, .int .i64 n] t (0, 0)))
    (ew : kw = ws.length) (eb : kb = bs.length) (hw : w.rowIs q 3 kw (fun i => .int .i64 (ws.getD i 0))) (hb : w.rowIs r 5 kb (fun i => .int .u8 (bs.getD i 0)))
    (h : lo ≤ p ∧ lo ≤ q ∧ lo ≤ r ∧ p < hi ∧ q < hi ∧ r < hi ∧ hi ≤ w.heap.size ∧ p ≠ q ∧ p ≠ r ∧ q ≠ r) (ml : ws.length ≤ 4096) (bl : bs.length ≤ 4096) (br : ∀ i, 0 ≤ bs.getD i 0 ∧ bs.getD i 0 ≤ 255) : Mem w ⟨p, q, r, lo, hi⟩ ws bs n := by
  subst ew eb
  obtain ⟨h1, h2, h3, h4, h5, h6, h7, h8, h9, h10⟩ := h
  exact
  { c0 := by simp [World.cell?, hp]
    c1 := by simp [World.cell?, hp]
    c2 := by simp [World.cell?, hp]
    fz := fun i => by simp [World.frozen?, hp]
    hw := hw, hb := hb, lp := h1, lq := h2, lr := h3, up := h4, uq := h5, ur := h6, hs := h7, pq := h8, pr := h9, qr := h10, ml := ml, bl := bl, br := br }

theorem getD_zeros (n i : Nat) : (List.replicate n (0 : Int)).getD i 0 = 0 := by
  by_cases h : i < n
  · simp [h]
  · simp [h]

/-- New cells, the words laid ahead of the bytes. -/
theorem Made.mk1 (w : World) (a b : Nat) (ha : a ≤ 4096) (hb : b ≤ 4096) (t : TypeId) :
    Made w (List.replicate a 0) (List.replicate b 0) 0 (.returned (.pointer (some ⟨w.heap.size + 1 + 1, 0, none⟩)))
      (((w.alloc (.cells (madeCells #[.int .i64 0] a) 3)).alloc (.cells (madeCells #[.int .u8 0] b) 5)).alloc
        (.cells #[.slice (some ⟨w.heap.size, 0, none⟩) a a, .slice (some ⟨w.heap.size + 1, 0, none⟩) b b, .int .i64 0] t)).drew := by
  refine ⟨⟨w.heap.size + 1 + 1, w.heap.size, w.heap.size + 1, w.heap.size, w.heap.size + 3⟩, rfl, Nat.le_refl _, ⟨_, ((((Below.refl _ _).alloc (Nat.le_refl _) _).alloc (by simp) _).alloc (by simp; omega) _).drew⟩, rfl, ?_⟩
  refine Mem.lay (t := t) (kw := a) (kb := b) ?_ (by simp) (by simp) ?_ ?_ ?_ (by simpa using ha) (by simpa using hb) (fun i => by rw [getD_zeros]; omega)
  · have := Go.Deep.blk_alloc_new ((w.alloc (.cells (madeCells #[.int .i64 0] a) 3)).alloc (.cells (madeCells #[.int .u8 0] b) 5)) (.cells #[.slice (some ⟨w.heap.size, 0, none⟩) a a, .slice (some ⟨w.heap.size + 1, 0, none⟩) b b, .int .i64 0] t)
    simp only [World.size_alloc] at this
    exact this
  · exact (((World.rowIs_made w (.int .i64 0) a 3).alloc _).alloc _).drew.congr fun i _ => by rw [getD_zeros]
  · have := World.rowIs_made (w.alloc (.cells (madeCells #[.int .i64 0] a) 3)) (.int .u8 0) b 5
    simp only [World.size_alloc] at this
    exact (this.alloc _).drew.congr fun i _ => by rw [getD_zeros]
  · simp only [World.size_drew, World.size_alloc]; omega
/-- The bytes laid ahead of the words. -/
theorem Made.mk2 (w : World) (a b : Nat) (ha : a ≤ 4096) (hb : b ≤ 4096) (t : TypeId) :
    Made w (List.replicate a 0) (List.replicate b 0) 0 (.returned (.pointer (some ⟨w.heap.size + 1 + 1, 0, none⟩)))
      (((w.alloc (.cells (madeCells #[.int .u8 0] b) 5)).alloc (.cells (madeCells #[.int .i64 0] a) 3)).alloc
        (.cells #[.slice (some ⟨w.heap.size + 1, 0, none⟩) a a, .slice (some ⟨w.heap.size, 0, none⟩) b b, .int .i64 0] t)).drew := by
  refine ⟨⟨w.heap.size + 1 + 1, w.heap.size + 1, w.heap.size, w.heap.size, w.heap.size + 3⟩, rfl, Nat.le_refl _, ⟨_, ((((Below.refl _ _).alloc (Nat.le_refl _) _).alloc (by simp) _).alloc (by simp; omega) _).drew⟩, rfl, ?_⟩
  refine Mem.lay (t := t) (kw := a) (kb := b) ?_ (by simp) (by simp) ?_ ?_ ?_ (by simpa using ha) (by simpa using hb) (fun i => by rw [getD_zeros]; omega)
  · have := Go.Deep.blk_alloc_new ((w.alloc (.cells (madeCells #[.int .u8 0] b) 5)).alloc (.cells (madeCells #[.int .i64 0] a) 3)) (.cells #[.slice (some ⟨w.heap.size + 1, 0, none⟩) a a, .slice (some ⟨w.heap.size, 0, none⟩) b b, .int .i64 0] t)
    simp only [World.size_alloc] at this
    exact this
  · have := World.rowIs_made (w.alloc (.cells (madeCells #[.int .u8 0] b) 5)) (.int .i64 0) a 3
    simp only [World.size_alloc] at this
    exact (this.alloc _).drew.congr fun i _ => by rw [getD_zeros]
  · exact (((World.rowIs_made w (.int .u8 0) b 5).alloc _).alloc _).drew.congr fun i _ => by rw [getD_zeros]
  · simp only [World.size_drew, World.size_alloc]; omega
end Go.Proofs.YtfomephgallpmaaDoor
