/-
  Some answers that the document gives for the stack: the statements' own sample.
  Conditions: none but that the tables read as they are laid.
-/
import Derived.Test.YtlidoicpfomfcaaDoorStStart
import Derived.Test.YtlidoicpfomfcaaDoorStFree
import Derived.Test.YtlidoicpfomfcaaDoorStPopC
import Derived.Test.YtlidoicpfomfcaaDoorStPushB
namespace Go.Proofs.YtlidoicpfomfcaaDoor
open Go.RowKit
attribute [local go_sem] Later.cell Later.frozen Later.lt Later.le
set_option linter.unusedVariables false

/-- The words of a layout of one thread and two slots, at first; with slot 0 taken; with it given back. -/
def lw0 : List Int := [0, 1, 0, 0, 0, 0, 0, 2, 0, 0, 0]
def lw1 : List Int := [0, 1048578, 0, 0, 0, 0, 0, 2, 0, 0, 0]
def lw2 : List Int := [0, 2097153, 0, 0, 0, 0, 0, 2, 0, 0, 0]

theorem words_at (ws : List Int) (hl : (ws.length : Int) = wordsN 1 2) (ha : ∀ y, atI ws y = stV 1 2 (fun _ => 0) y) : ws = lw0 := by
  have h11 : ws.length = 11 := by have : wordsN 1 2 = 11 := by decide
                                  omega
  refine List.ext_getElem (by rw [h11]; rfl) fun i h1 h2 => ?_
  have h := ha i
  rw [atI_nat, show ws.getD i 0 = ws[i] from by simp [h1]] at h
  rw [h]
  have h9 : i < 11 := by omega
  clear h ha hl h11 h1
  have : ∀ j : Fin 11, stV 1 2 (fun _ => 0) ((j.val : Nat) : Int) = lw0[j.val]'j.isLt := by decide +kernel
  exact this ⟨i, h9⟩

/-- What is known all along: the layout's variable, two machines, plain cells, and a row's numbers. -/
structure Lv (w : World) (A : PAt) (bs : List Int) (bl kp kq g : Nat) (R : List (Nat × Value)) (Lp Lq : List Value) (ws : List Int) (W : World) : Prop where
  bel : Below w.heap.size w W
  hd : HasHead w
  mem : ∃ n, Mem W A ws bs n
  fl : Fs W bl [.int .i64 1, .int .i64 2]
  fp : Fs W kp Lp
  fq : Fs W kq Lq
  row : ∀ x ∈ R, W.cell? ⟨g, x.1, none⟩ = some x.2
  rg : R ≠ [] → A.hi ≤ g ∧ g ≠ kp ∧ g ≠ kq ∧ g < W.heap.size
  lo : w.heap.size ≤ A.lo
  hl : A.hi ≤ bl
  hp : A.hi ≤ kp
  hq : A.hi ≤ kq
  lp : bl ≠ kp
  lq : bl ≠ kq
  pq : kp ≠ kq
  bp : w.heap.size ≤ kp
  bq : w.heap.size ≤ kq

section
variable {w W W' : World} {A : PAt} {bs ws ws' : List Int} {bl kp kq g : Nat} {R : List (Nat × Value)} {Lp Lq L' : List Value}
theorem Lv.later (h : Lv w A bs bl kp kq g R Lp Lq ws W) (hb : Below W.heap.size W W') : Lv w A bs bl kp kq g R Lp Lq ws W' :=
  { h with
    bel := h.bel.trans (hb.mono h.bel.size)
    mem := h.mem.imp fun _ m => m.below hb m.hs
    fl := h.fl.below hb h.fl.lt
    fp := h.fp.below hb h.fp.lt
    fq := h.fq.below hb h.fq.lt
    row := fun x hx => by
      have := h.rg (List.ne_nil_of_mem hx)
      rw [← h.row x hx]
      exact World.cell?_of_block (w := W) (hb.block g this.2.2.2)
    rg := fun hr => ⟨(h.rg hr).1, (h.rg hr).2.1, (h.rg hr).2.2.1, Nat.lt_of_lt_of_le (h.rg hr).2.2.2 hb.size⟩ }
theorem Lv.seatP (h : Lv w A bs bl kp kq g R Lp Lq ws W) : Seat W A kp 1 2 :=
  ⟨h.hd.below h.bel, by have := h.hd.lt0; have := h.lo; omega, by have := h.hd.lt1; have := h.lo; omega, by have := h.hd.lt0; have := h.bp; omega, by have := h.hd.lt1; have := h.bp; omega, h.hp, by omega, by omega, by omega, by omega⟩
theorem Lv.seatQ (h : Lv w A bs bl kp kq g R Lp Lq ws W) : Seat W A kq 1 2 :=
  ⟨h.hd.below h.bel, by have := h.hd.lt0; have := h.lo; omega, by have := h.hd.lt1; have := h.lo; omega, by have := h.hd.lt0; have := h.bq; omega, by have := h.hd.lt1; have := h.bq; omega, h.hq, by omega, by omega, by omega, by omega⟩
theorem Lv.moved (h : Lv w A bs bl kp kq g R Lp Lq ws W) {k : Nat} (m : Moved (spanS A k) W W') (hm : ∃ n, Mem W' A ws' bs n) (hk : w.heap.size ≤ k) (hb : bl ≠ k) (hg : R ≠ [] → g ≠ k) :
    Below w.heap.size w W' ∧ (∃ n, Mem W' A ws' bs n) ∧ Fs W' bl [.int .i64 1, .int .i64 2] ∧ (∀ x ∈ R, W'.cell? ⟨g, x.1, none⟩ = some x.2) ∧ (R ≠ [] → A.hi ≤ g ∧ g ≠ kp ∧ g ≠ kq ∧ g < W'.heap.size) := by
  have hlo := h.lo
  refine ⟨m.below h.bel h.bel.size fun b hb => spanS_not (Or.inl (by omega)) (by omega), hm, h.fl.moved m (spanS_not (Or.inr h.hl) hb), fun x hx => ?_, fun hr => ⟨(h.rg hr).1, (h.rg hr).2.1, (h.rg hr).2.2.1, Nat.lt_of_lt_of_le (h.rg hr).2.2.2 m.size⟩⟩
  have hr := List.ne_nil_of_mem hx
  have := h.rg hr
  rw [← h.row x hx]
  exact m.cell _ _ _ this.2.2.2 (spanS_not (Or.inr this.1) (hg hr))
theorem Lv.pop (h : Lv w A bs bl kp kq g R Lp Lq ws W) (m : Moved (spanS A kp) W W') (hm : ∃ n, Mem W' A ws' bs n) (hf : Fs W' kp L') : Lv w A bs bl kp kq g R L' Lq ws' W' := by
  obtain ⟨a, b, c, d, e⟩ := h.moved m hm h.bp h.lp (fun hr => (h.rg hr).2.1)
  exact { h with bel := a, mem := b, fl := c, row := d, rg := e, fp := hf, fq := h.fq.moved m (spanS_not (Or.inr h.hq) (Ne.symm h.pq)) }
theorem Lv.push (h : Lv w A bs bl kp kq g R Lp Lq ws W) (m : Moved (spanS A kq) W W') (hm : ∃ n, Mem W' A ws' bs n) (hf : Fs W' kq L') : Lv w A bs bl kp kq g R Lp L' ws' W' := by
  obtain ⟨a, b, c, d, e⟩ := h.moved m hm h.bq h.lq (fun hr => (h.rg hr).2.2.1)
  exact { h with bel := a, mem := b, fl := c, row := d, rg := e, fq := hf, fp := h.fp.moved m (spanS_not (Or.inr h.hp) h.pq) }
theorem Lv.third (h : Lv w A bs bl kp kq g R Lp Lq ws W) {k : Nat} (m : Moved (spanS A k) W W') (hm : ∃ n, Mem W' A ws' bs n) (hw : w.heap.size ≤ k) (h1 : bl ≠ k) (h2 : kp ≠ k) (h3 : kq ≠ k) (h4 : R ≠ [] → g ≠ k) : Lv w A bs bl kp kq g R Lp Lq ws' W' := by
  obtain ⟨a, b, c, d, e⟩ := h.moved m hm hw h1 h4
  exact { h with bel := a, mem := b, fl := c, row := d, rg := e, fq := h.fq.moved m (spanS_not (Or.inr h.hq) h3), fp := h.fp.moved m (spanS_not (Or.inr h.hp) h2) }

/-- A step of the Pop, and of the Push, where all is known. -/
theorem lvPop {M M' : Mc} {a e : Int} {d : Bool} (hx : atI ws 1 ≤ 9223372036854775807) (hm : M.word ≤ 9223372036854775807) (ho : popO 1 2 M ws = ⟨a, e, d, M', ws'⟩) (h : Lv w A bs bl kp kq g R (popL 1 2 M) Lq ws W) :
    Calls Tryd.prog 22 #[.pointer (some ⟨kp, 0, none⟩), ifc A] W fun r W' => r = .returned (.tuple #[.int .i64 a, .int .i64 e, .bool d]) ∧ Lv w A bs bl kp kq g R (popL 1 2 M') Lq ws' W' := by
  obtain ⟨n, hM⟩ := h.mem
  have := popStep_any h.seatP hM h.fp hx hm
  rw [ho] at this
  exact this.mono fun _ _ ⟨he, m, hm', hf⟩ => ⟨he, h.pop m hm' hf⟩
theorem lvPush {M M' : Mc} {a e : Int} {d : Bool} (hx : atI ws 1 ≤ 9223372036854775807) (ho : pushO 1 2 M ws = ⟨a, e, d, M', ws'⟩) (h : Lv w A bs bl kp kq g R Lp (pushC 1 2 M) ws W) :
    Calls Tryd.prog 21 #[.pointer (some ⟨kq, 0, none⟩), ifc A] W fun r W' => r = .returned (.tuple #[.int .i64 e, .bool d]) ∧ Lv w A bs bl kp kq g R Lp (pushC 1 2 M') ws' W' := by
  obtain ⟨n, hM⟩ := h.mem
  have := pushStep_any h.seatQ hM h.fq hx
  rw [ho] at this
  exact this.mono fun _ _ ⟨he, m, hm', hf⟩ => ⟨he, h.push m hm' hf⟩
theorem Lv.cells (h : Lv w A bs bl kp kq g R Lp Lq ws W) : W.cell? ⟨bl, 0, none⟩ = some (.int .i64 1) ∧ W.cell? ⟨bl, 1, none⟩ = some (.int .i64 2) := ⟨h.fl.at' 0 rfl, h.fl.at' 1 rfl⟩
theorem lvBegin {W1 W2 W3 : World} {n : Int} {T : TypeId} (hF : HasHead w) (hlo : w.heap.size ≤ A.lo) (hB1 : Below w.heap.size w W1) (hM1 : Mem W1 A ws bs n) (hk1 : (W1.alloc (.cells #[.int .i64 1, .int .i64 2] T)).heap.size ≤ kp) (hb2 : Below (W1.alloc (.cells #[.int .i64 1, .int .i64 2] T)).heap.size (W1.alloc (.cells #[.int .i64 1, .int .i64 2] T)) W2)
    (hf2 : Fs W2 kp Lp) (hk2 : W2.heap.size ≤ kq) (hb3 : Below W2.heap.size W2 W3) (hf3 : Fs W3 kq Lq) : Lv w A bs W1.heap.size kp kq 0 [] Lp Lq ws W3 := by
  have hs := hM1.hs
  have hp := hf2.lt
  rw [World.size_alloc] at hk1
  have hz1 := hB1.size
  have hB2 : Below w.heap.size w W2 := (hB1.alloc hz1 _).trans (hb2.mono (by rw [World.size_alloc]; omega))
  have hM2 := (hM1.alloc (.cells #[.int .i64 1, .int .i64 2] T)).below hb2 (by rw [World.size_alloc]; omega)
  have hl2 : Fs W2 W1.heap.size [.int .i64 1, .int .i64 2] := (Fs.new' _ _ rfl rfl : Fs (W1.alloc (.cells #[.int .i64 1, .int .i64 2] T)) _ _).below hb2 (by simp)
  have hll := hl2.lt
  exact ⟨hB2.trans (hb3.mono hB2.size), hF, ⟨n, hM2.below hb3 (by omega)⟩, hl2.below hb3 hll, hf2.below hb3 hp, hf3, fun x hx => absurd hx (by simp), fun hr => absurd rfl hr, hlo, hs, by omega, by omega, by omega, by omega, by omega, by omega, by omega⟩
/-- A step of a third machine. -/
theorem lvThird {M M' : Mc} {a e : Int} {d : Bool} {k : Nat} {W0 : World} (hx : atI ws 1 ≤ 9223372036854775807) (ho : pushO 1 2 M ws = ⟨a, e, d, M', ws⟩) (h0 : Lv w A bs bl kp kq g R Lp Lq ws W0) (hk : W0.heap.size ≤ k) (hb : Below W0.heap.size W0 W) (hf : Fs W k (pushC 1 2 M)) :
    Calls Tryd.prog 21 #[.pointer (some ⟨k, 0, none⟩), ifc A] W fun r W' => r = .returned (.tuple #[.int .i64 e, .bool d]) ∧ Lv w A bs bl kp kq g R Lp Lq ws W' := by
  have h := h0.later hb
  obtain ⟨n, hM⟩ := h.mem
  have hz := h0.bel.size
  have b1 := h0.fl.lt
  have b2 := h0.fp.lt
  have b3 := h0.fq.lt
  have hlo := h0.lo
  have h00 := h0.hd.lt0
  have h01 := h0.hd.lt1
  have hh := h0.hl
  have hS : Seat W A k 1 2 := ⟨h.hd.below h.bel, by omega, by omega, by omega, by omega, by omega, by omega, by omega, by omega, by omega⟩
  have := pushStep_any hS hM hf hx
  rw [ho] at this
  exact this.mono fun _ _ ⟨he, m, hm', _⟩ => ⟨he, h.third m hm' (by omega) (by omega) (by omega) (by omega) (fun hr => by have := (h0.rg hr).2.2.2; omega)⟩

/-- Without its row. -/
theorem Lv.bare (h : Lv w A bs bl kp kq g R Lp Lq ws W) (g' : Nat) : Lv w A bs bl kp kq g' [] Lp Lq ws W := { h with
    row := fun x hx => absurd hx (by simp)
    rg := fun hr => absurd rfl hr }
def rowsOf (l : List Int) : List (Nat × Value) := (List.range l.length).map fun j => (j, .int .i64 (l.getD j 0))
theorem lvFree {l : List Int} (hw : Wd ws) (hfr : freeL 1 2 ws = l) (hne : l ≠ []) (h : Lv w A bs bl kp kq g R Lp Lq ws W) :
    Calls Tryd.prog 18 #[ifc A, .agg #[.int .i64 1, .int .i64 2]] W fun r W' => ∃ g' cap, r = .returned (.slice (some ⟨g', 0, none⟩) l.length cap) ∧ Lv w A bs bl kp kq g' (rowsOf l) Lp Lq ws W' := by
  obtain ⟨n, hM⟩ := h.mem
  have hS := h.seatP
  have := Free_any (t := 1) (s := 2) hS.hF hS.g0 hS.g1 hM (by decide) (by decide) (by decide) (by decide) hw
  rw [hfr] at this
  refine this.mono fun r W' ⟨v, he, ht, hm, hi⟩ => ?_
  obtain ⟨g', cap, rfl, hg, hlt, hc⟩ := hi.open' hne
  have h0 := (h.bare 0).third (k := W.heap.size) (Moved.of_touch ht spanS_in) hm h.bel.size (Nat.ne_of_lt h.fl.lt) (Nat.ne_of_lt h.fp.lt) (Nat.ne_of_lt h.fq.lt) (fun hr => absurd rfl hr)
  have hhs := hM.hs
  have h1 := h.fp.lt
  have h2 := h.fq.lt
  exact ⟨g', cap, he, { h0 with
    row := fun x hx => by
      obtain ⟨j, hj, rfl⟩ := List.mem_map.1 hx
      exact hc j (List.mem_range.1 hj)
    rg := fun _ => ⟨by omega, by omega, by omega, hlt⟩ }⟩
end

section
variable {w W : World} {A : PAt} {bs ws : List Int} {bl kp kq g : Nat} {Lp Lq : List Value}
theorem lvSame (l : List Int) (hn : l.length ≤ 1000000) (hne : l ≠ []) (c1 c2 : Nat) (cs : Array Value) (T : TypeId) (hcs : cs.toList = l.map (Value.int .i64)) (h : Lv w A bs bl kp kq g (rowsOf l) Lp Lq ws W) :
    Calls Tryd.prog 17 #[.slice (some ⟨g, 0, none⟩) l.length c1, .slice (some ⟨W.heap.size, 0, none⟩) l.length c2] (W.alloc (.cells cs T)) fun r W' => r = .returned (.bool true) ∧ Lv w A bs bl kp kq g (rowsOf l) Lp Lq ws W' := by
  have hb := (Below.refl W.heap.size W).alloc (Nat.le_refl _) (.cells cs T)
  have h2 := h.later hb
  have hf : Fs (W.alloc (.cells cs T)) W.heap.size (l.map (Value.int .i64)) := Fs.new' _ _ rfl hcs.symm
  refine (Same_rows (fun j => l.getD j 0) l.length g c1 W.heap.size c2 _ hn ?_ hf.lt (fun j hj => h2.row (j, .int .i64 (l.getD j 0)) ?_) (fun j hj => hf.at' j ?_)).mono fun r W' ⟨he, y, hy⟩ => ⟨he, ?_⟩
  · refine (h2.rg ?_).2.2.2
    intro h0
    have := congrArg List.length h0
    simp [rowsOf] at this
    exact hne this
  · exact List.mem_map.2 ⟨j, List.mem_range.2 hj, rfl⟩
  · simp [hj]
  · subst hy
    exact h2.later y.below
end

theorem wd_of (ws : List Int) (h : ∀ x ∈ ws, -9223372036854775808 ≤ x ∧ x ≤ 9223372036854775807) : Wd ws := fun i => by
  unfold atI
  split
  · by_cases hj : i.toNat < ws.length
    · rw [show ws.getD i.toNat 0 = ws[i.toNat] from by simp [hj]]
      exact h _ (List.getElem_mem hj)
    · rw [show ws.getD i.toNat 0 = 0 from by simp [hj]]
      decide
  · decide

set_option maxHeartbeats 8000000 in
set_option maxRecDepth 4000 in
theorem slive_any (w : World) (hF : HasHead w) : Calls Tryd.prog 8 #[] w (Ret w (.bool true)) := by
  have hst := start_yes 8 2 1 (by decide) w hF
  have p1 := fun W A bs bl kp kq g R Lq (h : Lv w A bs bl kp kq g R (popL 1 2 ⟨0, 0, 0, 0, 0⟩) Lq lw0 W) => lvPop (M' := ⟨0, 1, 1, 0, 0⟩) (by decide) (by decide) (show popO 1 2 _ lw0 = ⟨0, 0, false, _, lw0⟩ from rfl) h
  have p2 := fun W A bs bl kp kq g R Lq (h : Lv w A bs bl kp kq g R (popL 1 2 ⟨0, 1, 1, 0, 0⟩) Lq lw0 W) => lvPop (M' := ⟨0, 2, 1, 1048578, 0⟩) (by decide) (by decide) (show popO 1 2 _ lw0 = ⟨0, 0, false, _, lw0⟩ from rfl) h
  have p3 := fun W A bs bl kp kq g R Lq (h : Lv w A bs bl kp kq g R (popL 1 2 ⟨0, 2, 1, 1048578, 0⟩) Lq lw0 W) => lvPop (M' := ⟨0, 3, 1, 1048578, 0⟩) (by decide) (by decide) (show popO 1 2 _ lw0 = ⟨0, 0, true, _, lw1⟩ from rfl) h
  have p4 := fun W A bs bl kp kq g R Lq (h : Lv w A bs bl kp kq g R (popL 1 2 ⟨0, 3, 1, 1048578, 0⟩) Lq lw1 W) => lvPop (M' := ⟨0, 3, 1, 1048578, 0⟩) (by decide) (by decide) (show popO 1 2 _ lw1 = ⟨0, 1, true, _, lw1⟩ from rfl) h
  have q1 := fun W A bs bl kp kq g R Lp (h : Lv w A bs bl kp kq g R Lp (pushC 1 2 ⟨0, 0, 0, 0, 0⟩) lw1 W) => lvPush (M' := ⟨0, 1, 1048578, 2097153, 2⟩) (by decide) (show pushO 1 2 _ lw1 = ⟨0, 0, false, _, lw1⟩ from rfl) h
  have q2 := fun W A bs bl kp kq g R Lp (h : Lv w A bs bl kp kq g R Lp (pushC 1 2 ⟨0, 1, 1048578, 2097153, 2⟩) lw1 W) => lvPush (M' := ⟨0, 2, 1048578, 2097153, 2⟩) (by decide) (show pushO 1 2 _ lw1 = ⟨0, 0, false, _, lw1⟩ from rfl) h
  have q3 := fun W A bs bl kp kq g R Lp (h : Lv w A bs bl kp kq g R Lp (pushC 1 2 ⟨0, 2, 1048578, 2097153, 2⟩) lw1 W) => lvPush (M' := ⟨0, 3, 1048578, 2097153, 2⟩) (by decide) (show pushO 1 2 _ lw1 = ⟨0, 0, true, _, lw2⟩ from rfl) h
  have q4 := fun W W0 A bs bl kp kq g R Lp Lq k (h0 : Lv w A bs bl kp kq g R Lp Lq lw2 W0) (hk : W0.heap.size ≤ k) (hb : Below W0.heap.size W0 W) (hf : Fs W k (pushC 1 2 ⟨2, 0, 0, 0, 0⟩)) => lvThird (M' := ⟨2, 3, 0, 0, 0⟩) (by decide) (show pushO 1 2 _ lw2 = ⟨0, 1, true, _, lw2⟩ from rfl) h0 hk hb hf
  have f1 := fun W A bs bl kp kq g R Lp Lq (h : Lv w A bs bl kp kq g R Lp Lq lw1 W) => lvFree (l := [1]) (wd_of _ (by decide)) (show freeL 1 2 lw1 = [1] from rfl) (by decide) h
  have f2 := fun W A bs bl kp kq g R Lp Lq (h : Lv w A bs bl kp kq g R Lp Lq lw2 W) => lvFree (l := [0, 1]) (wd_of _ (by decide)) (show freeL 1 2 lw2 = [0, 1] from rfl) (by decide) h
  have s1 := fun W A bs bl kp kq g Lp Lq c1 c2 (h : Lv w A bs bl kp kq g (rowsOf [1]) Lp Lq lw2 W) => lvSame [1] (by decide) (by decide) c1 c2 #[.int .i64 1] 3 rfl h
  have s2 := fun W A bs bl kp kq g Lp Lq c1 c2 (h : Lv w A bs bl kp kq g (rowsOf [0, 1]) Lp Lq lw2 W) => lvSame [0, 1] (by decide) (by decide) c1 c2 #[.int .i64 0, .int .i64 1] 3 rfl h
  go_enter Tryd.func8, Tryd.ntmps8
  unfold ifc at *
  go_wp2_with (first
    | (go_at_call 9; (with_reducible refine hst.mono ?_); rintro _ W1 ⟨A, rfl, hlo, hB1, ws, bs, n, hM1, hlen, hat⟩; have hws := words_at ws hlen hat; subst hws; clear hlen hat; have hl1 : Fs (W1.alloc (.cells #[.int .i64 1, .int .i64 2] 31)) W1.heap.size [.int .i64 1, .int .i64 2] := Fs.new' _ _ rfl rfl)
    | (go_at_call 20; (refine (NewPop_any 1 2 _).mono ?_); rintro _ W2 ⟨kp, rfl, hk1, hb2, hf2⟩; have hl2 := hl1.below hb2 hl1.lt; have a0 : W2.cell? ⟨W1.heap.size, 0, none⟩ = some (.int .i64 1) := hl2.at' 0 rfl; have a1 : W2.cell? ⟨W1.heap.size, 1, none⟩ = some (.int .i64 2) := hl2.at' 1 rfl)
    | (go_at_call 24; (refine (NewPush_any 1 2 0 _).mono ?_); rintro _ W3 ⟨kq, rfl, hk2, hb3, hf3⟩; have hv0 := lvBegin hF hlo hB1 hM1 hk1 hb2 hf2 hk2 hb3 hf3; clear hlo hB1 hM1 hk1 hb2 hf2 hk2 hb3 hf3 hl1 hl2 a0 a1)
    | (go_at_call 22; (refine (p1 _ A bs W1.heap.size kp kq 0 [] _ hv0).mono ?_); rintro _ W4 ⟨rfl, hv1⟩; clear hv0)
    | (go_at_call 22; (refine (p2 _ A bs W1.heap.size kp kq 0 [] _ hv1).mono ?_); rintro _ W5 ⟨rfl, hv2⟩; clear hv1)
    | (go_at_call 22; (refine (p3 _ A bs W1.heap.size kp kq 0 [] _ hv2).mono ?_); rintro _ W6 ⟨rfl, hv3⟩; clear hv2)
    | (go_at_call 22; (refine (p4 _ A bs W1.heap.size kp kq 0 [] _ hv3).mono ?_); rintro _ W7 ⟨rfl, hv4⟩; clear hv3; obtain ⟨a0, a1⟩ := hv4.cells)
    | (go_at_call 18; (refine (f1 _ A bs W1.heap.size kp kq 0 [] _ _ hv4).mono ?_); rintro _ W8 ⟨g1, cap1, rfl, hv5⟩; clear hv4 a0 a1)
    | (go_at_call 21; (refine (q1 _ A bs W1.heap.size kp kq g1 _ _ hv5).mono ?_); rintro _ W9 ⟨rfl, hv6⟩; clear hv5)
    | (go_at_call 21; (refine (q2 _ A bs W1.heap.size kp kq g1 _ _ hv6).mono ?_); rintro _ W10 ⟨rfl, hv7⟩; clear hv6)
    | (go_at_call 21; (refine (q3 _ A bs W1.heap.size kp kq g1 _ _ hv7).mono ?_); rintro _ W11 ⟨rfl, hv8⟩; clear hv7; obtain ⟨a0, a1⟩ := hv8.cells)
    | (go_at_call 24; (refine (NewPush_any 1 2 2 _).mono ?_); rintro _ W12 ⟨k3, rfl, hk3, hb4, hf4⟩)
    | (go_at_call 21; (refine (q4 _ _ A bs W1.heap.size kp kq g1 _ _ _ k3 hv8 hk3 hb4 hf4).mono ?_); rintro _ W13 ⟨rfl, hv9⟩; clear hv8 hk3 hb4 hf4 a0 a1; obtain ⟨a0, a1⟩ := hv9.cells)
    | (go_at_call 17; (refine (s1 _ A bs W1.heap.size kp kq g1 _ _ cap1 1 hv9).mono ?_); rintro _ W14 ⟨rfl, hv10⟩; clear hv9 a0 a1; obtain ⟨a0, a1⟩ := hv10.cells)
    | (go_at_call 18; (refine (f2 _ A bs W1.heap.size kp kq g1 _ _ _ hv10).mono ?_); rintro _ W15 ⟨g2, cap2, rfl, hv11⟩; clear hv10 a0 a1)
    | (go_at_call 17; (refine (s2 _ A bs W1.heap.size kp kq g2 _ _ cap2 2 hv11).mono ?_); rintro _ W16 ⟨rfl, hv12⟩; clear hv11))
  go_ret
  exact Ret.mk rfl hv12.bel
end Go.Proofs.YtlidoicpfomfcaaDoor
