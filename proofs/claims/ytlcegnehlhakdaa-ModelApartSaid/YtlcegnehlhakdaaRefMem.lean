/-
  The document's own map of layer 7 in memory; what its find comes to.
  Conditions: none; lemmas over the library's own notions, and a walk.
-/
import Derived.Test.YtlcegnehlhakdaaMdLiveAny
namespace Go.Proofs.Ytlcegnehlhakdaa
open Go.RowKit Go.Maps Go
attribute [local go_sem] Later.cell Later.frozen Later.lt Later.le
set_option linter.unusedVariables false
set_option linter.unusedSimpArgs false
set_option maxRecDepth 4000

/-- A row of numbers, read where it lies. -/
def IRow (W : World) (q : Option Addr) (l : List Int) : Prop := ∀ j, j < l.length → ∃ g cs, q = some ⟨g, 0, none⟩ ∧ W.heap[g]? = some (.cells cs 3 (0, 0)) ∧ cs[j]? = some (.int .i64 (l.getD j 0))
/-- A thing: an object, and where its bytes lie. -/
structure Th where
  o : Ob
  q : Option Addr
  c : Nat
instance : Inhabited Ob := ⟨⟨0, [], 0⟩⟩
instance : Inhabited Th := ⟨⟨⟨0, [], 0⟩, none, 0⟩⟩
/-- A row of things, read where it lies. -/
def TRow (W : World) (q : Option Addr) (l : List Th) : Prop := ∀ j, j < l.length → ∃ g cs, q = some ⟨g, 0, none⟩ ∧ W.heap[g]? = some (.cells cs 70 (0, 0)) ∧
  cs[j * 3]? = some (.int .i64 (l[j]!).o.h) ∧ cs[j * 3 + 1]? = some (.slice (l[j]!).q (l[j]!).o.bs.length (l[j]!).c) ∧ cs[j * 3 + 2]? = some (.int .i64 (l[j]!).o.pins)
/-- The document's map stands at block k. -/
def RefAt (W : World) (k : Nat) (S : St) : Prop :=
  ∃ l : List Th, l.map (·.o) = S.L ∧ ∃ p c p' c', W.heap[k]? = some (.cells #[.slice p l.length c, .slice p' S.T.length c'] 31 (0, 0)) ∧
    TRow W p l ∧ (∀ x ∈ l, IRow W x.q (intsOf x.o.bs)) ∧ IRow W p' S.T
/-- No cells but a program's map's, and block k's, have turned. -/
structure NT (k : Option Nat) (W w' : World) : Prop where
  size : W.heap.size ≤ w'.heap.size
  block : ∀ b cs T fr, W.heap[b]? = some (.cells cs T fr) → T ≠ 59 → k ≠ some b → w'.heap[b]? = W.heap[b]?
  keep : ∀ kk, k = some kk → w'.os = W.os ∧ w'.tape = W.tape ∧ w'.output = W.output ∧ ∀ b, b < W.heap.size → b ≠ kk → w'.heap[b]? = W.heap[b]?
theorem NT.of_below {k : Option Nat} {W w' : World} (h : Below W.heap.size W w') : NT k W w' := ⟨h.size, fun b cs T fr hb _ _ => h.block b (Array.getElem?_eq_some_iff.1 hb).1, fun kk _ => ⟨h.os, h.tape, h.output, fun b hb _ => h.block b hb⟩⟩
theorem NT.refl (k : Option Nat) (W : World) : NT k W W := NT.of_below (Below.refl _ _)
theorem NT.trans {k : Option Nat} {W W' w' : World} (h : NT k W W') (h' : NT k W' w') : NT k W w' :=
  ⟨Nat.le_trans h.size h'.size, fun b cs T fr hb hT hk => by
    have h1 := h.block b cs T fr hb hT hk
    exact (h'.block b cs T fr (h1.trans hb) hT hk).trans h1, fun kk e => by
    obtain ⟨a1, a2, a3, a4⟩ := h.keep kk e
    obtain ⟨b1, b2, b3, b4⟩ := h'.keep kk e
    exact ⟨b1.trans a1, b2.trans a2, b3.trans a3, fun b hb hne => (b4 b (Nat.lt_of_lt_of_le hb h.size) hne).trans (a4 b hb hne)⟩⟩
/-- A step of the program's map. -/
theorem NT.of_md {w w' : World} {g : Nat} {bo bt : Option Nat} {S S' : St} (hM : MapAt w g bo bt S) (h : MdPost w g bo bt S' w') : NT none w w' := by
  obtain ⟨bo', bt', _, hK, _⟩ := h
  refine ⟨hK.size, fun b cs T fr hb hT _ => hK.block b (Array.getElem?_eq_some_iff.1 hb).1 fun hm => ?_, fun kk e => by cases e⟩
  unfold foot at hm
  rcases List.mem_cons.1 hm with rfl | hm
  · rw [hM.blk] at hb
    simp only [Option.some.injEq, Obj.cells.injEq] at hb
    exact hT hb.2.1.symm
  · rcases List.mem_append.1 hm with hm | hm
    · rcases hM.objs with ⟨rfl, _⟩ | ⟨c, rfl, es, clock, hc, _⟩
      · simp [mbl] at hm
      · simp [mbl] at hm; subst hm; rw [hc] at hb; cases hb
    · rcases hM.told with ⟨rfl, _⟩ | ⟨c, rfl, es, clock, hc, _⟩
      · simp [mbl] at hm
      · simp [mbl] at hm; subst hm; rw [hc] at hb; cases hb
theorem IRow.nt {k : Option Nat} {W w' : World} {q : Option Addr} {l : List Int} (h : IRow W q l) (hn : NT k W w') (hk : ∀ b, k = some b → ∃ cs fr, W.heap[b]? = some (.cells cs 31 fr)) : IRow w' q l := fun j hj => by
  obtain ⟨g, cs, e, hb, hc⟩ := h j hj
  refine ⟨g, cs, e, (hn.block g _ _ _ hb (by decide) fun e' => ?_).trans hb, hc⟩
  obtain ⟨cs', fr, h'⟩ := hk g e'
  rw [hb] at h'
  simp at h'
theorem TRow.nt {k : Option Nat} {W w' : World} {q : Option Addr} {l : List Th} (h : TRow W q l) (hn : NT k W w') (hk : ∀ b, k = some b → ∃ cs fr, W.heap[b]? = some (.cells cs 31 fr)) : TRow w' q l := fun j hj => by
  obtain ⟨g, cs, e, hb, hc⟩ := h j hj
  refine ⟨g, cs, e, (hn.block g _ _ _ hb (by decide) fun e' => ?_).trans hb, hc⟩
  obtain ⟨cs', fr, h'⟩ := hk g e'
  rw [hb] at h'
  simp at h'
theorem RefAt.nt {W w' : World} {k : Nat} {S : St} (h : RefAt W k S) (hn : NT none W w') : RefAt w' k S := by
  obtain ⟨l, e, p, c, p', c', hb, h1, h2, h3⟩ := h
  have hk : ∀ b, (none : Option Nat) = some b → ∃ cs fr, W.heap[b]? = some (.cells cs 31 fr) := fun b h => by cases h
  exact ⟨l, e, p, c, p', c', (hn.block k _ _ _ hb (by decide) (by simp)).trans hb, h1.nt hn hk, fun x hx => (h2 x hx).nt hn hk, h3.nt hn hk⟩
theorem RefAt.later {W : World} {k : Nat} {S : St} (h : RefAt W k S) (y : Later W) : RefAt y.at' k S := h.nt (NT.of_below y.below)

def IsW (w wr : World) : Prop := wr = w
theorem cell_of_row {W : World} {g j : Nat} {cs : Array Value} {T : TypeId} {v : Value} (hg : W.heap[g]? = some (.cells cs T (0, 0))) (hc : cs[j]? = some v) : W.cell? ⟨g, j, none⟩ = some v := by simp [World.cell?, hg, hc]
/-- Where an object stands in its list. -/
def findI (L : List Ob) (h : Int) : Int := match L.findIdx? (fun x => x.h == h) with | some i => (i : Int) | none => -1
theorem find_none {L : List Ob} {h : Int} (hn : ∀ j, j < L.length → (L[j]!).h ≠ h) : findI L h = -1 := by
  have : L.findIdx? (fun x => x.h == h) = none := by
    rw [List.findIdx?_eq_none_iff]
    intro x hx
    obtain ⟨j, hj, rfl⟩ := List.mem_iff_getElem.1 hx
    have := hn j hj
    rw [getElem!_pos L j hj] at this
    simpa using this
  unfold findI
  rw [this]
theorem find_some {L : List Ob} {h : Int} {i : Nat} (hi : i < L.length) (he : (L[i]!).h = h) (hn : ∀ j, j < i → (L[j]!).h ≠ h) : findI L h = i := by
  have : L.findIdx? (fun x => x.h == h) = some i := by
    rw [List.findIdx?_eq_some_iff_getElem]
    refine ⟨hi, ?_, fun j hj => ?_⟩
    · rw [getElem!_pos L i hi] at he
      simpa using he
    · have := hn j hj
      rw [getElem!_pos L j (by omega)] at this
      simpa using this
  unfold findI
  rw [this]

set_option maxHeartbeats 1000000 in
theorem refFind_any {w : World} {k : Nat} {S : St} (hR : RefAt w k S) (hN : S.L.length ≤ 1000) (h : Int) : Calls Try.prog 34 #[.pointer (some ⟨k, 0, none⟩), .int .i64 h] w (fun en w' => en = .returned (.int .i64 (findI S.L h)) ∧ w = w') := by
  obtain ⟨l, e, p, c, p', c', hb, h1, h2, h3⟩ := hR
  have hl : l.length = S.L.length := by rw [← e]; simp
  have hel : ∀ j, j < l.length → (S.L[j]!) = (l[j]!).o := fun j hj => by
    rw [← e, getElem!_pos _ j (by simpa using hj), getElem!_pos _ j hj]
    simp
  have k0 : w.cell? ⟨k, 0, none⟩ = some (.slice p l.length c) := by simp [World.cell?, hb]
  generalize hF : findI S.L h = F
  have HF := Lib.hid hF
  clear hF
  go_enter Try.func34, Try.ntmps34
  go_wp2
  go_loopw [5] (fun v wr => ∃ i : Nat, i ≤ l.length ∧ v = .int .i64 i ∧ (∀ j, j < i → (S.L[j]!).h ≠ h) ∧ IsW w wr) (fun v _ => l.length - (intOf v).toNat)
  case atStart => exact ⟨0, by omega, rfl, fun j hj => by omega, rfl⟩
  case round =>
    obtain ⟨i, hi, rfl, hno, rfl⟩ := hrel
    by_cases hil : i < l.length
    · have i1 : (i : Int) < l.length := by omega
      have i0 : (0 : Int) ≤ i := by omega
      obtain ⟨g, cs, rfl, hg, g0, g1, g2⟩ := h1 i hil
      have hfi := hel i hil
      by_cases heq : (l[i]!).o.h = h
      · have q0 : wr.cell? ⟨g, i * 3, none⟩ = some (.int .i64 h) := heq ▸ cell_of_row hg g0
        have hfin := find_some (L := S.L) (h := h) (i := i) (by omega) (by rw [hfi]; exact heq) hno
        clear h1 h2 h3 hno g0 g1 g2 hfi heq
        go_wp2
        go_ret
        exact ⟨by rw [← HF.out, hfin]; rfl, rfl⟩
      · have q0 : wr.cell? ⟨g, i * 3, none⟩ = some (.int .i64 (l[i]!).o.h) := cell_of_row hg g0
        have qe : ((l[i]!).o.h == h) = false := by simpa using heq
        have hno' : ∀ j, j < i + 1 → (S.L[j]!).h ≠ h := fun j hj => by
          by_cases c : j = i
          · subst c; rw [hfi]; exact heq
          · exact hno j (by omega)
        clear g0 g1 g2 hfi heq
        generalize (l[i]!).o.h = x at q0 qe
        go_wp2
        go_roundw
        case rel => exact ⟨i + 1, by omega, by go_num, hno', rfl⟩
        case measure => simp [intOf]; omega
    · have i1 : ¬ (i : Int) < l.length := by omega
      have hfin := find_none (L := S.L) (h := h) (fun j hj => hno j (by omega))
      clear hi
      go_wp2
      go_ret
      exact ⟨by rw [← HF.out, hfin]; rfl, rfl⟩
end Go.Proofs.Ytlcegnehlhakdaa
