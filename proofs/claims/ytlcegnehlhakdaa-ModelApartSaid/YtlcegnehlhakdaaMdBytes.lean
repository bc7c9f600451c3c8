/-
  What the program's own Bytes comes to for layer 7.
  Conditions: that the map stands in memory and is a good one.
-/
import Derived.Test.YtlcegnehlhakdaaMdAt
import Derived.Test.YtlcegnehlhakdaaIntSame
import Derived.Laws.OwnMore
namespace Go.Proofs.Ytlcegnehlhakdaa
open Go.RowKit Go.Maps
attribute [local go_sem] Later.cell Later.frozen Later.lt Later.le
set_option linter.unusedVariables false
set_option linter.unusedSimpArgs false
set_option maxRecDepth 4000

def intsOf (bs : List UInt8) : List Int := bs.map fun b => (b.toNat : Int)
theorem intsOf_len (bs : List UInt8) : (intsOf bs).length = bs.length := by simp [intsOf]
theorem make_ints (n : Nat) (hn : n ≤ 1000) (W : World) (base : Nat) (hb : base ≤ W.heap.size) :
    ∃ w', (Instr.makeSlice 29 (.int .i64 n) (.int .i64 n)).run Try.prog W = .ok (.slice (some ⟨W.heap.size, 0, none⟩) n n) w' ∧ Ints w' base (.slice (some ⟨W.heap.size, 0, none⟩) n n) (List.replicate n 0) ∧ W.grownBy w' none := by
  have hin := info_num
  cases hi : Try.prog.info? 3 with
  | none => rw [hi] at hin; simp at hin
  | some i =>
  rw [hi] at hin
  simp only [Option.map_some, Option.some.injEq, Prod.mk.injEq] at hin
  obtain ⟨hz, hsz, hby⟩ := hin
  obtain ⟨w', e, h, g⟩ := run_makeSlice_full (P := Try.prog) W base 29 3 i (.int .i64 0) 1 Try.underlying29 hi hz hsz .i64 .i64 n (by omega) (by rw [hby]; omega) (by unfold maxLen; omega) hb
  refine ⟨w', e, ?_, g⟩
  unfold Ints
  rw [List.length_replicate, List.map_replicate, ← toList_madeCells_one]
  have := h
  rw [Nat.mul_one] at this
  exact this
/-- One number of a row is written. -/
theorem Ints.set {w W : World} {g n cap : Nat} {l : List Int} (h : Ints W w.heap.size (.slice (some ⟨g, 0, none⟩) n cap) l) (y : Below w.heap.size w W) (j : Nat) (x : Int) :
    ∃ z : Later w, W.setCell ⟨g, j, none⟩ (.int .i64 x) = z.at' ∧ Ints z.at' w.heap.size (.slice (some ⟨g, 0, none⟩) n cap) (l.set j x) := by
  have hn : l.length = n := by
    rcases h.2 with ⟨e, _⟩ | ⟨_, _, _, e, _⟩
    · simp at e
    · simp at e; exact e.2.1.symm
  subst hn
  have hg := (World.ownsRow.lt h g rfl).1
  have h1 := (World.ownsRow.stored h j (.int .i64 x)).1
  refine ⟨⟨_, Below.setCell y hg _⟩, rfl, ?_⟩
  unfold Ints
  rw [List.length_set, List.map_set]
  exact h1
theorem Ints.frozen {W : World} {base g n cap : Nat} {l : List Int} (h : Ints W base (.slice (some ⟨g, 0, none⟩) n cap) l) (j : Nat) : W.frozen? ⟨g, j, none⟩ = false := by
  rcases h.2 with ⟨e, _⟩ | ⟨g', cap', cur, h', hb, hg, _⟩
  · simp at e
  · simp only [Value.slice.injEq, Option.some.injEq, Addr.mk.injEq, and_true, true_and] at h'
    obtain ⟨rfl, _⟩ := h'
    simp [World.frozen?, hg]
theorem Ints.cell {W : World} {base g n cap : Nat} {l : List Int} (h : Ints W base (.slice (some ⟨g, 0, none⟩) n cap) l) {j : Nat} (hj : j < l.length) : W.cell? ⟨g, j, none⟩ = some (.int .i64 (l.getD j 0)) := by
  obtain ⟨p, c, e, k⟩ := h.shape
  obtain ⟨g', rfl, _, _, hc⟩ := k j hj
  simp only [Value.slice.injEq, Option.some.injEq, Addr.mk.injEq, and_true, true_and] at e
  rw [← e.1] at hc
  exact hc

set_option maxHeartbeats 1000000 in
theorem Bytes_of (a : Value) (h : Int) (bs : List UInt8) (p : Int) (hb : bs.length ≤ 256) (w : World) (ca : Calls Try.prog 41 #[a, .int .i64 h] w (Ret w (.agg #[.string (bsV bs), .int .i64 p]))) :
    Calls Try.prog 21 #[a, .int .i64 h] w (IntsRet w (intsOf bs)) := by
  have hs := bsV_size bs
  have hil := intsOf_len bs
  go_enter Try.func21, Try.ntmps21
  go_wp2_with (first
    | (go_at_call 41; (with_reducible refine ca.mono ?_); rintro _ _ ⟨rfl, y, rfl⟩)
    | (rw [field_b]; simp only [Result.andThen]; rw [Oper.upon_value]))
  obtain ⟨w', e, own, gr⟩ := make_ints bs.length (by omega) y.at' w.heap.size y.below.size
  have hg0 : w.heap.size ≤ y.at'.heap.size := y.below.size
  generalize y.at'.heap.size = g at e own hg0
  rw [e]
  simp only [Result.andThen]
  rw [Oper.upon_value]
  have hw' : Below w.heap.size w w' := y.below.grown gr y.below.size (by simp)
  clear e gr
  go_wp2
  go_loopw [17] (fun i wr => ∃ k : Nat, k ≤ bs.length ∧ i = .int .i64 k ∧ ∃ z : Later w, wr = z.at' ∧ ∃ xs : List Int, Ints z.at' w.heap.size (.slice (some ⟨g, 0, none⟩) bs.length bs.length) xs ∧ xs.length = bs.length ∧ ∀ j, j < k → xs[j]? = (intsOf bs)[j]?) (fun i _ => bs.length - (intOf i).toNat)
  case atStart => exact ⟨0, by omega, rfl, ⟨w', hw'⟩, rfl, _, own, by simp, fun j hj => by omega⟩
  case round =>
    obtain ⟨k, hk, rfl, z, rfl, xs, hO, hxl, hxs⟩ := hrel
    by_cases hkn : k < bs.length
    · have i1 : (k : Int) < bs.length := by omega
      have i0 : (0 : Int) ≤ k := by omega
      have hr1 : (k : Int).toNat < (bsV bs).size := by rw [hs]; omega
      have hr2 : k < (bsV bs).size := by rw [hs]; omega
      have hby := byte_at bs k hr2
      have hB : (intsOf bs)[k]? = some ((bs.getD k 0).toNat : Int) := by simp [intsOf, hkn]
      generalize ((bs.getD k 0).toNat : Int) = B at hby hB
      have c1 := hO.cell (j := k) (by omega)
      have f1 := hO.frozen k
      generalize xs.getD k 0 = old at c1
      go_wp2
      obtain ⟨z', ez, hO'⟩ := hO.set z.below k B
      go_roundw
      case rel => 
        refine ⟨k + 1, by omega, by go_num, z', ez, _, hO', by simpa using hxl, fun j hj => ?_⟩
        by_cases e : j = k
        · subst e
          rw [hB]
          simp [hxl, hkn]
        · rw [List.getElem?_set_ne (Ne.symm e)]
          exact hxs j (by omega)
      case measure => simp [intOf]; omega
    · have i1 : ¬ (k : Int) < bs.length := by omega
      have ek : k = bs.length := by omega
      have hxe : xs = intsOf bs := by
        apply List.ext_getElem?
        intro j
        by_cases hj : j < k
        · exact hxs j hj
        · rw [List.getElem?_eq_none (by omega), List.getElem?_eq_none (by omega)]
      clear hk
      go_wp2
      go_ret
      exact ⟨_, rfl, z, rfl, by rw [← hxe]; unfold Ints at *; rw [hxl]; rw [hxl] at hO; exact hO⟩
/-- The bytes of what a handle has. -/
theorem Bytes_nil (h : Int) (w : World) : Calls Try.prog 21 #[.pointer none, .int .i64 h] w (IntsRet w []) := Bytes_of _ h [] 0 (by simp) w (at_nil h w)
theorem Bytes_any {w : World} {g : Nat} {bo bt : Option Nat} {S : St} (hM : MapAt w g bo bt S) (hG : Good S) (h : Int) (hw : (Lit.int .i64 h).wf = true) :
    Calls Try.prog 21 #[.pointer (some ⟨g, 0, none⟩), .int .i64 h] w (IntsRet w (intsOf (obS (getO S.L h)))) := by
  refine Bytes_of _ h _ (obP (getO S.L h)) ?_ w (at_any hM h hw)
  cases k : getO S.L h with
  | none => simp [obS]
  | some x => exact (hG.live x (getO_some k).1).2.1
end Go.Proofs.Ytlcegnehlhakdaa
