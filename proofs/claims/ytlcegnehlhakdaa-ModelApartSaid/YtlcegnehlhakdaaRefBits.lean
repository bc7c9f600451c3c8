/-
  What the document's own Pins and Bytes come to, and the statements' small and tried, for layer 7.
  Conditions: that the document's map stands in memory and is a good one.
-/
import Derived.Test.YtlcegnehlhakdaaRefAnsB
namespace Go.Proofs.Ytlcegnehlhakdaa
open Go.RowKit Go.Maps Go
attribute [local go_sem] Later.cell Later.frozen Later.lt Later.le
set_option linter.unusedVariables false
set_option linter.unusedSimpArgs false
set_option maxRecDepth 4000

theorem refPins_any {w : World} {k : Nat} {S : St} (hR : RefAt w k S) (hN : S.L.length ≤ 1000) (h : Int) :
    Calls Try.prog 24 #[.pointer (some ⟨k, 0, none⟩), .int .i64 h] w (fun en w' => en = .returned (.int .i64 (obP (getO S.L h))) ∧ w = w') := by
  have cf := refFind_any hR hN h
  rcases findI_spec h S.L with ⟨g1, g2⟩ | ⟨i, hi, g1, g2, g3⟩
  · rw [g2] at cf
    rw [g1]
    simp only [obP]
    go_enter Try.func24, Try.ntmps24
    go_wp2_with (first
      | (go_at_call 34; (with_reducible refine cf.mono ?_); rintro _ _ ⟨rfl, rfl⟩))
    go_ret
    exact ⟨rfl, rfl⟩
  · rw [g2] at cf
    rw [g1]
    simp only [obP]
    obtain ⟨g, len, c, q, c2, hlen, k0, q0, q1, q2, hq⟩ := hR.thing hi g3
    generalize (S.L[i]!) = x at *
    have i1 : (i : Int) < len := by omega
    have i0 : (0 : Int) ≤ i := by omega
    have hlc : len ≤ 1000 := by omega
    clear hR hlen
    go_enter Try.func24, Try.ntmps24
    go_wp2_with (first
      | (go_at_call 34; (with_reducible refine cf.mono ?_); rintro _ _ ⟨rfl, rfl⟩))
    go_ret
    exact ⟨rfl, rfl⟩
/-- A row that is read where it lies. -/
def RowRet (w : World) (l : List Int) (en : Ending) (w' : World) : Prop := ∃ q c, en = .returned (.slice q l.length c) ∧ IRow w q l ∧ w = w'
theorem refBytes_any {w : World} {k : Nat} {S : St} (hR : RefAt w k S) (hN : S.L.length ≤ 1000) (h : Int) :
    Calls Try.prog 22 #[.pointer (some ⟨k, 0, none⟩), .int .i64 h] w (RowRet w (intsOf (obS (getO S.L h)))) := by
  have cf := refFind_any hR hN h
  rcases findI_spec h S.L with ⟨g1, g2⟩ | ⟨i, hi, g1, g2, g3⟩
  · rw [g2] at cf
    rw [g1]
    simp only [obS]
    go_enter Try.func22, Try.ntmps22
    go_wp2_with (first
      | (go_at_call 34; (with_reducible refine cf.mono ?_); rintro _ _ ⟨rfl, rfl⟩))
    go_ret
    exact ⟨none, 0, rfl, fun j hj => by simp [intsOf] at hj, rfl⟩
  · rw [g2] at cf
    rw [g1]
    simp only [obS]
    obtain ⟨g, len, c, q, c2, hlen, k0, q0, q1, q2, hq⟩ := hR.thing hi g3
    generalize (S.L[i]!) = x at *
    have i1 : (i : Int) < len := by omega
    have i0 : (0 : Int) ≤ i := by omega
    have hlc : len ≤ 1000 := by omega
    clear hR hlen
    go_enter Try.func22, Try.ntmps22
    go_wp2_with (first
      | (go_at_call 34; (with_reducible refine cf.mono ?_); rintro _ _ ⟨rfl, rfl⟩))
    go_ret
    exact ⟨q, c2, by rw [intsOf_len]; rfl, hq, rfl⟩
theorem small_any (p : Option Addr) (n c : Nat) (m : Int) (w : World) : Calls Try.prog 8 #[.slice p n c, .int .i64 m] w (fun en w' => en = .returned (.bool (decide ((n : Int) ≤ m))) ∧ w = w') := by
  go_enter Try.func8, Try.ntmps8
  go_wp2
  go_ret
  exact ⟨rfl, rfl⟩

/-- The Result that is tried of a call. -/
def trC (S : St) (d h off n c : Int) (own : Bool) : Int := if own && ansH d n then ansE S d h off n else c
def trR (S : St) (d h off n r : Int) (own : Bool) : Int := if own && ansH d n then ansN' S d h off n else r
set_option maxHeartbeats 1000000 in
theorem tried_any {w : World} {k : Nat} {S : St} (hR : RefAt w k S) (hG : Good S) (hN : S.L.length ≤ 1000) (d h off n c r : Int) (own : Bool) :
    Calls Try.prog 15 #[.pointer (some ⟨k, 0, none⟩), .agg #[.int .i64 d, .int .i64 h, .int .i64 off, .int .i64 n, .int .i64 c, .int .i64 r, .bool own]] w (Ret w (.agg #[.int .i64 (trC S d h off n c own), .int .i64 (trR S d h off n r own)])) := by
  obtain ⟨B, hB⟩ : ∃ B, B = (w.alloc (.cells #[.int .i64 d, .int .i64 h, .int .i64 off, .int .i64 n, .int .i64 c, .int .i64 r, .bool own] 41)).alloc (.cells #[.int .i64 0, .int .i64 0] 35) := ⟨_, rfl⟩
  have hwB : Below w.heap.size w B := by rw [hB]; exact ((Below.refl _ w).alloc (Nat.le_refl _) _).alloc (by simp) _
  have ca := refAnswer_any (hR.nt (NT.of_below hwB)) hG hN d h off n
  unfold opV resV at ca
  have hq : ∀ (y : Later B) (o : Obj) j v, B.cell? ⟨w.heap.size, j, none⟩ = some v → (y.at'.alloc o).cell? ⟨w.heap.size, j, none⟩ = some v := fun y o j v hv => by
    have h1 : w.heap.size < B.heap.size := by rw [hB]; simp; omega
    exact ((Below.alloc y.below (Below.size y.below) o).cell (p := ⟨w.heap.size, j, none⟩) h1).trans hv
  have q4 := fun y o => hq y o 4 (.int .i64 c) (by rw [hB]; simp [go_sem])
  have q5 := fun y o => hq y o 5 (.int .i64 r) (by rw [hB]; simp [go_sem])
  have q6 := fun y o => hq y o 6 (.bool own) (by rw [hB]; simp [go_sem])
  have hr : ∀ (y : Later B) (o : Obj) j v, B.cell? ⟨w.heap.size + 1, j, none⟩ = some v → (y.at'.alloc o).cell? ⟨w.heap.size + 1, j, none⟩ = some v := fun y o j v hv => by
    have h1 : w.heap.size + 1 < B.heap.size := by rw [hB]; simp
    exact ((Below.alloc y.below (Below.size y.below) o).cell (p := ⟨w.heap.size + 1, j, none⟩) h1).trans hv
  have r0 := fun y o => hr y o 0 (.int .i64 0) (by rw [hB]; simp [go_sem])
  have r1 := fun y o => hr y o 1 (.int .i64 0) (by rw [hB]; simp [go_sem])
  have hf : ∀ (y : Later B) (o : Obj) j, (y.at'.alloc o).frozen? ⟨w.heap.size + 1, j, none⟩ = false := fun y o j => by
    have h1 : w.heap.size + 1 < B.heap.size := by rw [hB]; simp
    refine ((Below.alloc y.below (Below.size y.below) o).frozen (p := ⟨w.heap.size + 1, j, none⟩) h1).trans ?_
    rw [hB]
    simp [go_sem]
  clear hq hr
  unfold trC trR
  generalize ansE S d h off n = E at *
  generalize ansN' S d h off n = N at *
  generalize ansH d n = H at *
  subst hB
  clear hR hG
  cases own <;> cases H <;> simp only [Bool.false_and, Bool.true_and, Bool.false_eq_true, if_false, if_true] <;>
    · go_enter Try.func15, Try.ntmps15
      go_wp2_with (first
        | (go_at_call 14; (with_reducible refine ca.mono ?_); rintro _ _ ⟨rfl, y, rfl⟩))
      first
        | (refine bodyPost_ret (v := .agg #[.int .i64 E, .int .i64 N]) (by simp [results, Try.results15, go_sem, r0, r1, hf]) rfl (Ret.mk rfl ?_); exact Snc.alloc (show Snc w _ from Below.setCell (Below.setCell (sncBehind (show Snc w _ from hwB) y.below) (by simp) _) (by simp) _) _)
        | (refine bodyPost_ret (v := .agg #[.int .i64 c, .int .i64 r]) (by simp [results, Try.results15, go_sem, r0, r1, hf]) rfl (Ret.mk rfl ?_); exact Snc.alloc (show Snc w _ from Below.setCell (Below.setCell (sncBehind (show Snc w _ from hwB) y.below) (by simp) _) (by simp) _) _)
end Go.Proofs.Ytlcegnehlhakdaa
