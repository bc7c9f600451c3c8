/-
  What is known all along of a round in which one machine steps alone; bounds of the words.
  Conditions: none; plain lemmas, and the steps' contracts under them.
-/
import Derived.Test.YtlidoicpfomfcaaDoorStAlone
namespace Go.Proofs.YtlidoicpfomfcaaDoor
open Go.RowKit
set_option linter.unusedVariables false

theorem stV_bd {t s : Int} (h0 : 1 ≤ t) (h1 : 1 ≤ s) (h64 : s ≤ 64) (y : Int) : 0 ≤ stV t s (fun _ => 0) y ∧ stV t s (fun _ => 0) y ≤ 100 := by
  unfold stV lkV
  by_cases e : y = 1
  · rw [if_pos e]; omega
  · rw [if_neg e]
    unfold faV zV
    split
    · split <;> omega
    · split <;> exact ⟨Int.le_refl 0, show (0 : Int) ≤ 100 by decide⟩
theorem gi_wd {t s : Int} {n j : Nat} {ws : List Int} (h : GiW t s n j ws) (h0 : 1 ≤ t) (h1 : 1 ≤ s) (h64 : s ≤ 64) (hn : (n : Int) ≤ s) (hj : j ≤ n) : Wd ws := fun y => by
  rw [h.2]
  unfold giV
  have hf := frTop_bd (s := s) n h64
  by_cases e : y = 1
  · rw [if_pos e]
    split <;> omega
  · rw [if_neg e]
    by_cases c : 6 + t ≤ y ∧ (y - 6 - t) % 3 = 0 ∧ (y - 6 - t) / 3 < j
    · rw [if_pos c]
      split <;> omega
    · rw [if_neg c]
      have := stV_bd h0 h1 h64 y
      omega

/-- A round: nothing of its base has turned but the cells; one machine lies there. -/
structure Rd (V : World) (A : PAt) (bs : List Int) (k : Nat) (L : List Value) (ws : List Int) (W : World) : Prop where
  mv : Touch A.lo A.hi V W
  mem : ∃ n, Mem W A ws bs n
  fp : Fs W k L
  kb : V.heap.size ≤ k
  hd : HasHead V
  g0 : 0 < A.lo
  g1 : 1 < A.lo
  hA : A.hi ≤ V.heap.size

section
variable {V W W' : World} {A : PAt} {bs ws ws' : List Int} {k : Nat} {L L' : List Value} {t s : Int}
theorem Rd.step (h : Rd V A bs k L ws W) (m : Moved (spanS A k) W W') (hm : ∃ n, Mem W' A ws' bs n) (hf : Fs W' k L') : Rd V A bs k L' ws' W' :=
  { h with
    mv := ⟨m.os.trans h.mv.os, m.tape.trans h.mv.tape, m.output.trans h.mv.output, Nat.le_trans h.mv.size m.size, fun b hb hs =>
      (m.block b (Nat.lt_of_lt_of_le hb h.mv.size) (spanS_not hs (by have := h.kb; omega))).trans (h.mv.block b hb hs)⟩
    mem := hm, fp := hf }
theorem Rd.seat (h : Rd V A bs k L ws W) (t0 : 1 ≤ t) (t4 : t ≤ 4) (s0 : 1 ≤ s) (s64 : s ≤ 64) : Seat W A k t s :=
  ⟨h.hd.touch h.mv h.g0 h.g1, h.g0, h.g1, by have := h.hd.lt0; have := h.kb; omega, by have := h.hd.lt1; have := h.kb; omega, by have := h.kb; have := h.hA; omega, t0, t4, s0, s64⟩
theorem Rd.begin {n : Int} (hF : HasHead V) (g0 : 0 < A.lo) (g1 : 1 < A.lo) (hM : Mem V A ws bs n) (hk : V.heap.size ≤ k) (hb : Below V.heap.size V W) (hf : Fs W k L) : Rd V A bs k L ws W :=
  ⟨Touch.of_below hb, ⟨n, hM.below hb hM.hs⟩, hf, hk, hF, g0, g1, hM.hs⟩
theorem rdPop {M M' : Mc} {a e : Int} {d : Bool} (t0 : 1 ≤ t) (t4 : t ≤ 4) (s0 : 1 ≤ s) (s64 : s ≤ 64) (hx : atI ws 1 ≤ 9223372036854775807) (hm : M.word ≤ 9223372036854775807) (ho : popO t s M ws = ⟨a, e, d, M', ws'⟩) (h : Rd V A bs k (popL t s M) ws W) :
    Calls Tryd.prog 22 #[.pointer (some ⟨k, 0, none⟩), ifc A] W fun r W' => r = .returned (.tuple #[.int .i64 a, .int .i64 e, .bool d]) ∧ Rd V A bs k (popL t s M') ws' W' := by
  obtain ⟨n, hM⟩ := h.mem
  have := popStep_any (h.seat t0 t4 s0 s64) hM h.fp hx hm
  rw [ho] at this
  exact this.mono fun _ _ ⟨he, m, hm', hf⟩ => ⟨he, h.step m hm' hf⟩
theorem rdPush {M M' : Mc} {a e : Int} {d : Bool} (t0 : 1 ≤ t) (t4 : t ≤ 4) (s0 : 1 ≤ s) (s64 : s ≤ 64) (hx : atI ws 1 ≤ 9223372036854775807) (ho : pushO t s M ws = ⟨a, e, d, M', ws'⟩) (h : Rd V A bs k (pushC t s M) ws W) :
    Calls Tryd.prog 21 #[.pointer (some ⟨k, 0, none⟩), ifc A] W fun r W' => r = .returned (.tuple #[.int .i64 e, .bool d]) ∧ Rd V A bs k (pushC t s M') ws' W' := by
  obtain ⟨n, hM⟩ := h.mem
  have := pushStep_any (h.seat t0 t4 s0 s64) hM h.fp hx
  rw [ho] at this
  exact this.mono fun _ _ ⟨he, m, hm', hf⟩ => ⟨he, h.step m hm' hf⟩
theorem rdFree (t0 : 1 ≤ t) (t4 : t ≤ 4) (s0 : 1 ≤ s) (s64 : s ≤ 64) (hw : Wd ws) (h : Rd V A bs k L ws W) :
    Calls Tryd.prog 18 #[ifc A, .agg #[.int .i64 t, .int .i64 s]] W fun r W' => ∃ v, r = .returned v ∧ Touch A.lo A.hi V W' ∧ (∃ n, Mem W' A ws bs n) ∧ Ints W' W.heap.size v (freeL t s ws) := by
  obtain ⟨n, hM⟩ := h.mem
  exact (Free_any (h.hd.touch h.mv h.g0 h.g1) h.g0 h.g1 hM t0 t4 s0 s64 hw).mono fun r W' ⟨v, he, ht, hm, hi⟩ => ⟨v, he, h.mv.trans ht, hm, hi⟩
end
end Go.Proofs.YtlidoicpfomfcaaDoor
