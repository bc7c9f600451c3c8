/-
  What the document's own put comes to, walked, for layer 7.
  Conditions: that the row of things stands in memory; at most 1000 things.
-/
import Derived.Test.YtlcegnehlhakdaaRefPutT
import Derived.Deep.DeepCutAuto
import Derived.Deep.CutRange
namespace Go.Proofs.Ytlcegnehlhakdaa
open Go.RowKit Go.Maps Go
attribute [local go_sem] Later.cell Later.frozen Later.lt Later.le
set_option linter.unusedVariables false
set_option linter.unusedSimpArgs false
set_option maxRecDepth 4000

/-- Behind the first part of a round: the new one is laid, or not. -/
def CutPut (V : World) (base : Nat) (x : Th) (s : List Th × Bool) (y : Th) (i : Nat) (v5 v6 : Value) (W : World) : Prop :=
  ∃ (out : List Th) (b : Bool), v6 = .bool b ∧ stepT x s y = ((if y.o.h = x.o.h then out else out ++ [y]), b) ∧ out.length + (if b then 0 else 1) ≤ i + 1 ∧ Snc V W ∧ Ths W base v5 out
def Cut1 (V : World) (x : Th) (out : List Th) (b : Bool) (y : Th) (v5 v29 : Value) (W : World) : Prop :=
  ∃ tb : Bool, v29 = .bool tb ∧ tb = decide (b = false ∧ x.o.h ≤ y.o.h) ∧ Snc V W ∧ Ths W V.heap.size v5 out
theorem Ths.low {w : World} {b b' : Nat} {v : Value} {l : List Th} (h : Ths w b v l) (hb : b' ≤ b) : Ths w b' v l :=
  ⟨h.1, h.2.imp id fun ⟨g, cap, cur, e, hg, r⟩ => ⟨g, cap, cur, e, Nat.le_trans hb hg, r⟩⟩
theorem stepT_laid {x y : Th} {out : List Th} (h : x.o.h ≤ y.o.h) : stepT x (out, false) y = ((if y.o.h = x.o.h then out ++ [x] else out ++ [x] ++ [y]), true) := by
  unfold stepT
  rw [if_pos ⟨rfl, h⟩]
theorem stepT_on {x y : Th} {out : List Th} {b : Bool} (h : b = true ∨ ¬ x.o.h ≤ y.o.h) : stepT x (out, b) y = ((if y.o.h = x.o.h then out else out ++ [y]), b) := by
  unfold stepT
  rw [if_neg (fun c => by
    rcases h with h | h
    · have := c.1
      simp [h] at this
    · exact h c.2)]
theorem put_end {x : Th} {l out : List Th} {b : Bool} (h : l.foldl (stepT x) ([], x.o.bs.isEmpty) = (out, b)) : (if b then out else out ++ [x]).map (·.o) = putF x.o (l.map (·.o)) ∧ ∀ z ∈ (if b then out else out ++ [x]), z = x ∨ z ∈ l := by
  have h1 := foldT_map x l ([], x.o.bs.isEmpty)
  rw [h] at h1
  have h2 := fun z hz => foldT_mem x l ([], x.o.bs.isEmpty) z hz
  rw [h] at h2
  refine ⟨?_, fun z hz => ?_⟩
  · unfold putF endO
    rw [← show (out.map (·.o), b) = (l.map (·.o)).foldl (stepO x.o) ([], x.o.bs.isEmpty) from h1]
    cases b <;> simp
  · have hz' : z ∈ out ∨ z = x := by
      cases b
      · simpa using hz
      · exact Or.inl (by simpa using hz)
    rcases hz' with k | k
    · rcases h2 z k with q | q | q
      · exact Or.inl q
      · exact Or.inr q
      · cases q
    · exact Or.inl k

set_option maxHeartbeats 4000000 in
theorem put_any {w : World} {p : Option Addr} {c : Nat} {l : List Th} (hT : TRow w p l) (hl : l.length ≤ 1000) (x : Th) :
    Calls Try.prog 38 #[.slice p l.length c, .agg #[.int .i64 x.o.h, .slice x.q x.o.bs.length x.c, .int .i64 x.o.pins]] w (PutRet w l x) := by
  obtain ⟨ti, hi, hz0, hz1, hz2⟩ := info_parts info_thing
  obtain ⟨V, hV⟩ : ∃ V, V = w.alloc (.cells #[.int .i64 x.o.h, .slice x.q x.o.bs.length x.c, .int .i64 x.o.pins] 70) := ⟨_, rfl⟩
  have hwV : Snc w V := by rw [hV]; exact (Below.refl _ w).alloc (Nat.le_refl _) _
  have hVs : V.heap.size = w.heap.size + 1 := by rw [hV]; simp
  have x0 : ∀ W, Snc V W → W.cell? ⟨w.heap.size, 0, none⟩ = some (.int .i64 x.o.h) := fun W hW => (hW.cell (p := ⟨w.heap.size, 0, none⟩) (by rw [hVs]; simp)).trans (by rw [hV]; simp [go_sem])
  have x1 : ∀ W, Snc V W → W.cell? ⟨w.heap.size, 1, none⟩ = some (.slice x.q x.o.bs.length x.c) := fun W hW => (hW.cell (p := ⟨w.heap.size, 1, none⟩) (by rw [hVs]; simp)).trans (by rw [hV]; simp [go_sem])
  have x2 : ∀ W, Snc V W → W.cell? ⟨w.heap.size, 2, none⟩ = some (.int .i64 x.o.pins) := fun W hW => (hW.cell (p := ⟨w.heap.size, 2, none⟩) (by rw [hVs]; simp)).trans (by rw [hV]; simp [go_sem])
  have hrow : ∀ W, Snc V W → ∀ i, i < l.length → ∃ g, p = some ⟨g, 0, none⟩ ∧ W.cell? ⟨g, i * 3, none⟩ = some (.int .i64 (l[i]!).o.h) ∧ W.cell? ⟨g, i * 3 + 1, none⟩ = some (.slice (l[i]!).q (l[i]!).o.bs.length (l[i]!).c) ∧ W.cell? ⟨g, i * 3 + 2, none⟩ = some (.int .i64 (l[i]!).o.pins) := fun W hW i hi => by
    obtain ⟨g, cs, e, hg, g0, g1, g2⟩ := hT i hi
    have hlt := (Array.getElem?_eq_some_iff.1 hg).1
    have hgW := ((sncBehind hwV (hW : Below _ _ _)).block g hlt).trans hg
    exact ⟨g, e, cell_of_row hgW g0, cell_of_row hgW g1, cell_of_row hgW g2⟩
  clear hT
  obtain ⟨b0, hb0⟩ : ∃ b0, b0 = x.o.bs.isEmpty := ⟨_, rfl⟩
  have HB0 := Lib.hid hb0
  have hbl : ((x.o.bs.length : Int) == 0) = b0 := by rw [hb0]; cases x.o.bs <;> simp <;> omega
  have HV := Lib.hid hV
  clear hb0
  have hS0 : Snc V V := Below.refl _ _
  have hf : decide (x.o.bs.length = 0) = b0 := by rw [← hbl]; by_cases q : x.o.bs.length = 0 <;> simp [q]
  go_enter Try.func38, Try.ntmps38
  clear hV
  go_wp2
  rw [← HV.out]
  go_loopw [5, 6, 7] (fun v5 v6 v7 wr => PutRel V V.heap.size l x b0 v5 v6 v7 wr) (fun _ _ v _ => l.length - (intOf v).toNat)
  case atStart => exact ⟨0, [], b0, by omega, rfl, by first | rfl | rw [hf], rfl, by simp; split <;> omega, hS0, Ths.nil _ _⟩
  case round =>
    obtain ⟨i, out, b, hil, rfl, rfl, hfo, hlen, hS, hown⟩ := hrel
    have X0 := x0 wr hS
    have X1 := x1 wr hS
    have X2 := x2 wr hS
    have hsz := Below.size hS
    by_cases hin : i < l.length
    · have i1 : (i : Int) < l.length := by omega
      have i0 : (0 : Int) ≤ i := by omega
      have htk := foldT_take x hin ([], b0)
      rw [hfo] at htk
      have hrow2 := fun W hW => hrow W hW i hin
      clear hrow
      generalize l[i]! = y at htk hrow2
      have HTK := Lib.hid htk
      have HROW := Lib.hid hrow2
      obtain ⟨g, rfl, g0, g1, g2⟩ := hrow2 wr hS
      clear htk hfo hrow2
      go_upto_region 6 with fail
      go_cut [29] from 12 to 48 (fun v29 wx => Cut1 V x out b y u5 v29 wx)
      case first =>
        have hSd : Snc V wr.drew := Below.trans hS ((Below.refl _ wr).drew.mono (Below.size hS))
        have hownd : Ths wr.drew V.heap.size u5 out := hown.later ⟨wr.drew, (Below.refl _ _).drew⟩
        have X0 := x0 wr.drew hSd
        obtain ⟨g', e', g0, g1, g2⟩ := HROW.out wr.drew hSd
        simp only [Option.some.injEq, Addr.mk.injEq, and_true] at e'
        subst e'
        have hszd := Below.size hSd
        cases b
        · by_cases hle : x.o.h ≤ y.o.h
          · refine region_tail 11 (by kernel_rfl) (by kernel_rfl) ?_
            generalize wr.drew = W2 at hSd hownd X0 X1 X2 g0 g1 g2 hszd ⊢
            simp only [List.take_succ_cons, List.take_zero, List.drop_succ_cons, List.drop_zero]
            repeat still_step
            refine wpStill_nil ?_
            go_wp2_with fail
            go_meet
            exact ⟨true, by first | rfl | simp [hle], by simp [hle], hSd, hownd⟩
          · refine region_tail 11 (by kernel_rfl) (by kernel_rfl) ?_
            generalize wr.drew = W2 at hSd hownd X0 X1 X2 g0 g1 g2 hszd ⊢
            simp only [List.take_succ_cons, List.take_zero, List.drop_succ_cons, List.drop_zero]
            repeat still_step
            refine wpStill_nil ?_
            go_wp2_with fail
            go_meet
            exact ⟨false, by first | rfl | (simp; omega), by simp; omega, hSd, hownd⟩
        · refine region_tail 11 (by kernel_rfl) (by kernel_rfl) ?_
          generalize wr.drew = W2 at hSd hownd X0 X1 X2 g0 g1 g2 hszd ⊢
          simp only [List.take_succ_cons, List.take_zero, List.drop_succ_cons, List.drop_zero]
          repeat still_step
          refine wpStill_nil ?_
          go_wp2_with fail
          go_meet
          exact ⟨false, by first | rfl | simp, by simp, hSd, hownd⟩
      case rest =>
        obtain ⟨tb, rfl, htb, hS1, hown1⟩ := hcut
        clear hown hsz hS X0 X1 X2 g0 g1 g2
        have HTB := Lib.hid htb
        clear htb
        go_upto_if 29 with fail
        go_cut [5, 6] from 12 to 48 (fun v5 v6 wx => CutPut V V.heap.size x (out, b) y i v5 v6 wx)
        case first =>
          have X0 := x0 wc hS1
          have X1 := x1 wc hS1
          have X2 := x2 wc hS1
          have hsz1 := Below.size hS1
          cases tb
          · go_wp2_with fail
            go_meet
            exact ⟨out, b, rfl, stepT_on (by have htb := HTB.out; cases b <;> simp at htb ⊢; omega), hlen, hS1, hown1⟩
          · obtain ⟨hb, hle⟩ : b = false ∧ x.o.h ≤ y.o.h := by simpa using HTB.out
            subst hb
            have hlen1 : out.length + 1 ≤ i + 1 := by simpa using hlen
            clear hlen
            go_wp2_with (at_builtin; refine mdOpen ?_)
            refine Lib.hid ?_
            refine wpList_append_own _ rfl (.tmp 30) (.tmp 32) 28 rfl V.heap.size 70 ti (.agg #[.int .i64 0, .slice none 0 0, .int .i64 0]) 3 40 Try.underlying28 hi hz0 hz1 hz2 rfl (by decide) _ out.length (thsC out) rfl (hown1.alloc _) ⟨wc.heap.size, 0, none⟩ 1 1 [.int .i64 x.o.h, .slice x.q x.o.bs.length x.c, .int .i64 x.o.pins] rfl rfl (cellsI [.int .i64 x.o.h, .slice x.q x.o.bs.length x.c, .int .i64 x.o.pins] rfl) (fun u hu => by simp at hu; rcases hu with rfl | rfl | rfl <;> rfl) (by unfold maxLen; omega) (by omega) (by simp; omega) ?_
            intro v' w4 hown' hgrow _
            obtain ⟨hS3, hO3⟩ := Ths.app1 hS1 (Nat.le_refl _) hown1 hgrow hown'
            clear hgrow hown'
            go_wp2_with fail
            go_meet
            exact ⟨out ++ [x], true, rfl, stepT_laid hle, by simp; omega, hS3, hO3⟩
        case rest =>
          obtain ⟨out2, b2, rfl, hst, hlen2, hS2, hown2⟩ := hcut
          clear hown1 hS1 hlen
          have hSd : Snc V wc.drew := Below.trans hS2 ((Below.refl _ wc).drew.mono (Below.size hS2))
          have hownd : Ths wc.drew V.heap.size u5 out2 := hown2.later ⟨wc.drew, (Below.refl _ _).drew⟩
          have X0 := x0 wc.drew hSd
          have X1 := x1 wc.drew hSd
          have X2 := x2 wc.drew hSd
          obtain ⟨g', e', g0, g1, g2⟩ := HROW.out wc.drew hSd
          simp only [Option.some.injEq, Addr.mk.injEq, and_true] at e'
          subst e'
          have hszd := Below.size hSd
          have hol : out2.length ≤ 1001 := by split at hlen2 <;> omega
          have HST := Lib.hid hst
          clear hst hown2 hS2
          by_cases hq : y.o.h = x.o.h
          · have hqb : (y.o.h == x.o.h) = true := by simpa using hq
            go_wp2_with fail
            refine region_tail 7 (by kernel_rfl) (by kernel_rfl) ?_
            generalize wc.drew = W3 at hSd hownd X0 X1 X2 g0 g1 g2 hszd ⊢
            simp only [List.take_succ_cons, List.take_zero, List.drop_succ_cons, List.drop_zero]
            repeat still_step
            refine wpStill_nil ?_
            go_wp2
            go_roundw
            case rel => exact ⟨i + 1, out2, b2, by omega, by go_num, rfl, by rw [HTK.out, HST.out, if_pos hq], by omega, hSd, hownd⟩
            case measure => simp [intOf]; omega
          · have hqb : (y.o.h == x.o.h) = false := by simpa using hq
            go_wp2_with fail
            refine region_tail 7 (by kernel_rfl) (by kernel_rfl) ?_
            generalize wc.drew = W3 at hSd hownd X0 X1 X2 g0 g1 g2 hszd ⊢
            simp only [List.take_succ_cons, List.take_zero, List.drop_succ_cons, List.drop_zero]
            repeat still_step
            refine wpStill_nil ?_
            go_wp2_with (at_builtin; refine mdOpen ?_)
            refine Lib.hid ?_
            refine wpList_append_own _ rfl (.tmp 42) (.tmp 47) 28 rfl V.heap.size 70 ti (.agg #[.int .i64 0, .slice none 0 0, .int .i64 0]) 3 40 Try.underlying28 hi hz0 hz1 hz2 rfl (by decide) _ out2.length (thsC out2) rfl (hownd.alloc _) ⟨W3.heap.size, 0, none⟩ 1 1 [.int .i64 y.o.h, .slice y.q y.o.bs.length y.c, .int .i64 y.o.pins] rfl rfl (cellsI [.int .i64 y.o.h, .slice y.q y.o.bs.length y.c, .int .i64 y.o.pins] rfl) (fun u hu => by simp at hu; rcases hu with rfl | rfl | rfl <;> rfl) (by unfold maxLen; omega) (by omega) (by simp; omega) ?_
            intro v' w4 hown' hgrow _
            obtain ⟨hS4, hO4⟩ := Ths.app1 hSd (Nat.le_refl _) hownd hgrow hown'
            clear hgrow hown'
            go_wp2
            go_roundw
            case rel => exact ⟨i + 1, out2 ++ [y], b2, by omega, by go_num, rfl, by rw [HTK.out, HST.out, if_neg hq], by rw [List.length_append, List.length_singleton]; omega, hS4, hO4⟩
            case measure => simp [intOf]; omega
    · have i1 : ¬ (i : Int) < l.length := by omega
      have hiL : i = l.length := by omega
      have hfull : l.foldl (stepT x) ([], x.o.bs.isEmpty) = (out, b) := by
        rw [← HB0.out, ← hfo, hiL, List.take_length]
      have HE := Lib.hid (put_end hfull)
      clear hrow hfull hfo hiL
      cases b
      · have hlen1 : out.length + 1 ≤ i + 1 := by simpa using hlen
        clear hlen
        go_wp2_with (at_builtin; refine mdOpen ?_)
        refine Lib.hid ?_
        refine wpList_append_own _ rfl (.tmp 51) (.tmp 53) 28 rfl V.heap.size 70 ti (.agg #[.int .i64 0, .slice none 0 0, .int .i64 0]) 3 40 Try.underlying28 hi hz0 hz1 hz2 rfl (by decide) _ out.length (thsC out) rfl (hown.alloc _) ⟨wr.heap.size, 0, none⟩ 1 1 [.int .i64 x.o.h, .slice x.q x.o.bs.length x.c, .int .i64 x.o.pins] rfl rfl (cellsI [.int .i64 x.o.h, .slice x.q x.o.bs.length x.c, .int .i64 x.o.pins] rfl) (fun u hu => by simp at hu; rcases hu with rfl | rfl | rfl <;> rfl) (by unfold maxLen; omega) (by omega) (by simp; omega) ?_
        intro v' w4 hown' hgrow _
        obtain ⟨hS3, hO3⟩ := Ths.app1 hS (Nat.le_refl _) hown hgrow hown'
        clear hgrow hown'
        go_wp2
        go_ret
        exact ⟨_, out ++ [x], rfl, HE.out.1, HE.out.2, ⟨_, sncBehind hwV (hS3 : Below _ _ _)⟩, rfl, hO3.low (by omega)⟩
      · go_wp2
        go_ret
        exact ⟨_, out, rfl, HE.out.1, HE.out.2, ⟨_, sncBehind hwV (hS : Below _ _ _)⟩, rfl, hown.low (by omega)⟩
end Go.Proofs.Ytlcegnehlhakdaa
