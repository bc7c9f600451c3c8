/-
  A round of layer 7's statements: what is tried on the program's map, and on the document's own.
  Conditions: that both stand in memory.
-/
import Derived.Test.YtlcegnehlhakdaaMdFive
namespace Go.Proofs.Ytlcegnehlhakdaa
open Go.RowKit Go.Maps Go
set_option linter.unusedVariables false
set_option linter.unusedSimpArgs false

theorem wf_of {n : Int} (h0 : -9223372036854775808 ≤ n) (h1 : n ≤ 9223372036854775807) : (Lit.int .i64 n).wf = true := by
  simp only [Lit.wf, Bool.and_eq_true, decide_eq_true_eq]
  exact ⟨h0, h1⟩
theorem ansN_bd (S : St) (d h off n : Int) : 0 ≤ ansN' S d h off n ∧ ansN' S d h off n ≤ 255 := by
  unfold ansN'
  split
  · decide
  · split
    · decide
    · split
      · decide
      · rename_i x _
        unfold obN
        split
        · unfold byteAt
          have := (x.bs.getD off.toNat 0).toNat_lt
          omega
        · decide
theorem trR_wf {S : St} {d h off n r : Int} {own : Bool} (hr : (Lit.int .i64 r).wf = true) : (Lit.int .i64 (trR S d h off n r own)).wf = true := by
  unfold trR
  split
  · have := ansN_bd S d h off n
    exact wf_of (by omega) (by omega)
  · exact hr
theorem PM.sub {w W : World} {g : Nat} {S : St} {B B' : List Nat} (h : PM w W g S B) (hs : ∀ b ∈ B', b ∈ B) : PM w W g S B' := by
  obtain ⟨bo, bt, hM, hB, hF, hD⟩ := h
  exact ⟨bo, bt, hM, hB, hF, fun b hb => hD b (hs b hb)⟩
theorem PM.drew {w W : World} {g : Nat} {S : St} {B : List Nat} (h : PM w W g S B) : PM w W.drew g S B := h.later ⟨W.drew, (Below.refl _ _).drew⟩
theorem RefAt.drew {W : World} {k : Nat} {S : St} (h : RefAt W k S) : RefAt W.drew k S := h.later ⟨W.drew, (Below.refl _ _).drew⟩
theorem PM.tryN {w W : World} {g : Nat} {S : St} {B : List Nat} (h : PM w W g S B) (hG : Good S) (hN : S.L.length ≤ 1000 ∧ S.T.length ≤ 1000) (d hh off n c r : Int) (hw : (Lit.int .i64 hh).wf = true) (hwr : (Lit.int .i64 r).wf = true) :
    Calls Try.prog 16 #[.pointer (some ⟨g, 0, none⟩), .agg #[.int .i64 d, .int .i64 hh, .int .i64 off, .int .i64 n], .agg #[.int .i64 c, .int .i64 r]] W (fun en w' => en = .returned (.bool (tryB S d hh off n c r)) ∧ PM w w' g (tryS S d hh off n c r) B ∧ Stay B W w' ∧ NT none W w') := by
  obtain ⟨bo, bt, hM, hB, hF, hD⟩ := h
  refine (Try_any hM hG hN d hh off n c r hw hwr).mono ?_
  rintro en w' ⟨h1, h2⟩
  obtain ⟨a, b⟩ := PM.next hB hF hD h2
  exact ⟨h1, a, b, NT.of_md hM h2⟩
/-- A step of the document's map leaves the program's as it is. -/
theorem PM.ref {w W w' : World} {g k : Nat} {S : St} {B : List Nat} (h : PM w W g S B) (hk : k ∈ B) (hw : w.heap.size ≤ k) (n : NT (some k) W w') : PM w w' g S B ∧ ∀ b ∈ B, b ≠ k → w'.heap[b]? = W.heap[b]? := by
  obtain ⟨bo, bt, hM, hB, hF, hD⟩ := h
  obtain ⟨n1, n2, n3, n4⟩ := n.keep k rfl
  have hst : Stay (foot g bo bt) W w' := fun b hb => n4 b (hM.foot_lt b hb) (fun e => (hD k hk).1 (e ▸ hb))
  refine ⟨⟨bo, bt, hM.stay hst, ⟨n1.trans hB.os, n2.trans hB.tape, n3.trans hB.output, Nat.le_trans hB.size n.size, fun b hb => (n4 b (Nat.lt_of_lt_of_le hb hB.size) (by omega)).trans (hB.block b hb)⟩, hF, fun b hb => ⟨(hD b hb).1, Nat.lt_of_lt_of_le (hD b hb).2 n.size⟩⟩, fun b hb hne => n4 b (hD b hb).2 hne⟩
/-- The document's map at first. -/
theorem RefAt.first (W : World) : RefAt (W.alloc (.cells #[.slice none 0 0, .slice none 0 0] 31)) W.heap.size St.none :=
  ⟨[], rfl, none, 0, none, 0, heap_alloc_new W _, fun j hj => by simp at hj, fun x hx => by simp at hx, fun j hj => by simp [St.none] at hj⟩
/-- The rounds' relation. -/
def Rd7 (w0 : World) (n g k : Nat) (v : Value) (wr : World) : Prop := ∃ (i : Nat) (S : St), v = .int .i64 i ∧ i ≤ n ∧ PM w0 wr g S [k] ∧ RefAt wr k S ∧ Good S ∧ S.L.length ≤ i ∧ S.T.length ≤ i
theorem Rd7.begin (w0 : World) (n : Nat) (cs : Array Value) (hcs : cs = #[.map none, .map none]) (cs' : Array Value) (hcs' : cs' = #[.slice none 0 0, .slice none 0 0]) : Rd7 w0 n w0.heap.size (w0.heap.size + 1) (.int .i64 0) ((w0.alloc (.cells cs 59)).alloc (.cells cs' 31)) := by
  subst hcs hcs'
  have h1 := (PM.new w0).guard (.cells #[.slice none 0 0, .slice none 0 0] 31)
  have h2 := RefAt.first (w0.alloc (.cells #[.map none, .map none] 59))
  rw [World.size_alloc] at h1 h2
  exact ⟨0, St.none, rfl, Nat.zero_le _, h1, h2, Good.none, by simp [St.none], by simp [St.none]⟩
/-- The same, with a word on what the maps have. -/
def Rd8 (w0 : World) (n g k off : Nat) (Q : St → Prop) (v : Value) (wr : World) : Prop := ∃ (i : Nat) (S : St), v = .int .i64 i ∧ i ≤ n ∧ PM w0 wr g S [k] ∧ RefAt wr k S ∧ Good S ∧ S.L.length ≤ i + off ∧ S.T.length ≤ i + off ∧ Q S
theorem ca_cells {w W : World} {b off i : Nat} {l : List Ca} (hB : Below w.heap.size w W) (hp : b < w.heap.size) (h : ∀ i, i < l.length → CaW (caAt l i) ∧ ∀ j, j < 7 → w.cell? ⟨b, off + i * 7 + j, none⟩ = (caCells (caAt l i))[j]?) (hi : i < l.length) :
    ∃ d hh o n c r own, CaW ⟨d, hh, o, n, c, r, own⟩ ∧ ∀ W' : World, Below w.heap.size w W' → W'.cell? ⟨b, off + i * 7, none⟩ = some (.int .i64 d) ∧ W'.cell? ⟨b, off + i * 7 + 1, none⟩ = some (.int .i64 hh) ∧ W'.cell? ⟨b, off + i * 7 + 2, none⟩ = some (.int .i64 o) ∧ W'.cell? ⟨b, off + i * 7 + 3, none⟩ = some (.int .i64 n) ∧ W'.cell? ⟨b, off + i * 7 + 4, none⟩ = some (.int .i64 c) ∧ W'.cell? ⟨b, off + i * 7 + 5, none⟩ = some (.int .i64 r) ∧ W'.cell? ⟨b, off + i * 7 + 6, none⟩ = some (.bool own) := by
  obtain ⟨hw, hc⟩ := h i hi
  generalize caAt l i = e at hw hc
  obtain ⟨d, hh, o, n, c, r, own⟩ := e
  refine ⟨d, hh, o, n, c, r, own, hw, fun W' hW => ?_⟩
  have hq : ∀ j, j < 7 → W'.cell? ⟨b, off + i * 7 + j, none⟩ = (caCells ⟨d, hh, o, n, c, r, own⟩)[j]? := fun j hj => (hW.cell hp).trans (hc j hj)
  exact ⟨hq 0 (by omega), hq 1 (by omega), hq 2 (by omega), hq 3 (by omega), hq 4 (by omega), hq 5 (by omega), hq 6 (by omega)⟩
end Go.Proofs.Ytlcegnehlhakdaa
