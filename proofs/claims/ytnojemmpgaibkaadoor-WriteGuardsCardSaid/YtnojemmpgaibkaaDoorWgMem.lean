/-
  Two machines that write to one object, in memory.
  Conditions: none but that the tables read as they are laid.
-/
import Derived.Test.YtnojemmpgaibkaaDoorWgMath
import Derived.Test.YtnojemmpgaibkaaDoorWrLive
namespace Go.Proofs.YtnojemmpgaibkaaDoor
open Go.RowKit
set_option linter.unusedVariables false
set_option linter.unusedSimpArgs false

/-- Two machines, their row, and the cells that they write to. -/
structure Wg (W0 : World) (A : PAt) (f0 f1 G : Int) (rb k0 k1 : Nat) (M0 M1 : Wm) (bs : List Int) (W : World) : Prop where
  rv : Rv W0 A 2 1 (wgW (G + gI M0 + gI M1)) bs [(rb, [.pointer (some ⟨k0, 0, none⟩), .pointer (some ⟨k1, 0, none⟩)])] W
  m0 : Fs W k0 (wmL 2 1 M0)
  m1 : Fs W k1 (wmL 2 1 M1)
  h0 : A.hi ≤ k0
  h1 : A.hi ≤ k1
  ne : k0 ≠ k1
  r0 : rb ≠ k0
  r1 : rb ≠ k1
  i0 : Wi f0 1 f1 M0 bs
  i1 : Wi f1 2 f0 M1 bs
section
variable {W0 W W' : World} {A : PAt} {f0 f1 G : Int} {rb k0 k1 : Nat} {M0 M1 : Wm} {bs : List Int}
theorem Wg.below (h : Wg W0 A f0 f1 G rb k0 k1 M0 M1 bs W) (hb : Below W.heap.size W W') : Wg W0 A f0 f1 G rb k0 k1 M0 M1 bs W' :=
  { h with rv := h.rv.below hb, m0 := h.m0.below hb h.m0.lt, m1 := h.m1.below hb h.m1.lt }
theorem Wg.touch (h : Wg W0 A f0 f1 G rb k0 k1 M0 M1 bs W) (hr : Rv W0 A 2 1 (wgW (G + gI M0 + gI M1)) bs [(rb, [.pointer (some ⟨k0, 0, none⟩), .pointer (some ⟨k1, 0, none⟩)])] W') (ht : Touch A.lo A.hi W W') : Wg W0 A f0 f1 G rb k0 k1 M0 M1 bs W' :=
  { h with rv := hr, m0 := h.m0.touch ht (Or.inr h.h0), m1 := h.m1.touch ht (Or.inr h.h1) }
theorem gI_end {M : Wm} (h : M.step = 0) : gI M = 0 := by unfold gI; rw [if_neg (by omega)]
theorem wg_ws0 (G : Int) (M0 M1 : Wm) : wgW (G + gI M0 + gI M1) = wgW (G + gI M1 + gI M0) := by rw [show G + gI M0 + gI M1 = G + gI M1 + gI M0 from by omega]
/-- A step of the first one, and of the second. -/
theorem Wg.step0 (h : Wg W0 A f0 f1 G rb k0 k1 M0 M1 bs W) (g0 : 0 ≤ G) (g1 : G ≤ 13) :
    Calls Tryd.prog 19 #[.pointer (some ⟨k0, 0, none⟩), ifc A] W fun e W' => ∃ c d M' bs', e = .returned (.tuple #[.agg #[.int .i64 c, .int .i64 0], .bool d]) ∧ Wg W0 A f0 f1 G rb k0 k1 M' M1 bs' W' := by
  have hg := gI_01 M1
  have hs := wi_step (G := G + gI M1) h.i0 (by omega) (by omega)
  have hrv := h.rv
  rw [wg_ws0] at hrv
  refine (rvwStep (c := _) (d := _) hrv h.h0 (fun p hp => by simp at hp; subst hp; exact h.r0) h.m0 h.i0.st rfl rfl rfl rfl).mono ?_
  rintro e W' ⟨rfl, hr, hf, hm⟩
  rw [hs.ws, ← wg_ws0] at hr
  exact ⟨_, _, _, _, rfl, { h with rv := hr, m0 := hf, m1 := h.m1.moved hm (spanS_not (Or.inr h.h1) (Ne.symm h.ne)), i0 := hs.wi, i1 := h.i1.other hs.wi.bl hs.ot }⟩
theorem Wg.step1 (h : Wg W0 A f0 f1 G rb k0 k1 M0 M1 bs W) (g0 : 0 ≤ G) (g1 : G ≤ 13) :
    Calls Tryd.prog 19 #[.pointer (some ⟨k1, 0, none⟩), ifc A] W fun e W' => ∃ c d M' bs', e = .returned (.tuple #[.agg #[.int .i64 c, .int .i64 0], .bool d]) ∧ Wg W0 A f0 f1 G rb k0 k1 M0 M' bs' W' := by
  have hg := gI_01 M0
  have hs := wi_step (G := G + gI M0) h.i1 (by omega) (by omega)
  refine (rvwStep (c := _) (d := _) h.rv h.h1 (fun p hp => by simp at hp; subst hp; exact h.r1) h.m1 h.i1.st rfl rfl rfl rfl).mono ?_
  rintro e W' ⟨rfl, hr, hf, hm⟩
  rw [hs.ws] at hr
  exact ⟨_, _, _, _, rfl, { h with rv := hr, m1 := hf, m0 := h.m0.moved hm (spanS_not (Or.inr h.h0) h.ne), i1 := hs.wi, i0 := h.i0.other hs.wi.bl hs.ot }⟩
/-- Many steps of the one, and of the other: it ends. -/
theorem Wg.run0 (h : Wg W0 A f0 f1 G rb k0 k1 M0 M1 bs W) (g0 : 0 ≤ G) (g1 : G ≤ 13) :
    Calls Tryd.prog 23 #[.pointer (some ⟨A.p, 0, none⟩), .pointer (some ⟨k0, 0, none⟩), .int .i64 50] W fun e W' => ∃ c j M' bs', e = .returned (.tuple #[.agg #[.int .i64 c, .int .i64 0], .int .i64 j]) ∧ M'.step = 0 ∧ Wg W0 A f0 f1 G rb k0 k1 M' M1 bs' W' := by
  have hg := gI_01 M1
  have hs := wi_run (off' := f1) (G := G + gI M1) (by omega) (by omega) 50 0 M0 bs h.i0 (Nat.lt_of_le_of_lt (muW_le _ _) (by decide))
  have hrv := h.rv
  rw [wg_ws0] at hrv
  refine (rvwRun 50 50 rfl (by decide) hrv h.h0 (fun p hp => by simp at hp; subst hp; exact h.r0) h.m0 h.i0.st rfl).mono ?_
  rintro e W' ⟨rfl, hr, hf, hm⟩
  have he : gI (wmRun 2 1 50 0 M0 (wgW (G + gI M1 + gI M0)) bs).M = 0 := gI_end hs.en
  rw [hs.ws] at hr
  refine ⟨_, _, _, _, rfl, hs.en, { h with rv := ?_, m0 := hf, m1 := h.m1.moved hm (spanS_not (Or.inr h.h1) (Ne.symm h.ne)), i0 := hs.wi, i1 := h.i1.other hs.wi.bl hs.ot }⟩
  rw [he, Int.add_zero]
  exact hr
theorem Wg.run1 (h : Wg W0 A f0 f1 G rb k0 k1 M0 M1 bs W) (g0 : 0 ≤ G) (g1 : G ≤ 13) :
    Calls Tryd.prog 23 #[.pointer (some ⟨A.p, 0, none⟩), .pointer (some ⟨k1, 0, none⟩), .int .i64 50] W fun e W' => ∃ c j M' bs', e = .returned (.tuple #[.agg #[.int .i64 c, .int .i64 0], .int .i64 j]) ∧ M'.step = 0 ∧ Wg W0 A f0 f1 G rb k0 k1 M0 M' bs' W' := by
  have hg := gI_01 M0
  have hs := wi_run (off' := f0) (G := G + gI M0) (by omega) (by omega) 50 0 M1 bs h.i1 (Nat.lt_of_le_of_lt (muW_le _ _) (by decide))
  refine (rvwRun 50 50 rfl (by decide) h.rv h.h1 (fun p hp => by simp at hp; subst hp; exact h.r1) h.m1 h.i1.st rfl).mono ?_
  rintro e W' ⟨rfl, hr, hf, hm⟩
  have he : gI (wmRun 2 1 50 0 M1 (wgW (G + gI M0 + gI M1)) bs).M = 0 := gI_end hs.en
  rw [hs.ws] at hr
  refine ⟨_, _, _, _, rfl, hs.en, { h with rv := ?_, m1 := hf, m0 := h.m0.moved hm (spanS_not (Or.inr h.h0) h.ne), i1 := hs.wi, i0 := h.i0.other hs.wi.bl hs.ot }⟩
  rw [he, Int.add_zero]
  exact hr
theorem Wg.row (h : Wg W0 A f0 f1 G rb k0 k1 M0 M1 bs W) : W.cell? ⟨rb, 0, none⟩ = some (.pointer (some ⟨k0, 0, none⟩)) ∧ W.cell? ⟨rb, 1, none⟩ = some (.pointer (some ⟨k1, 0, none⟩)) := ⟨(h.rv.keep (rb, [.pointer (some ⟨k0, 0, none⟩), .pointer (some ⟨k1, 0, none⟩)]) (by simp)).1.at' 0 rfl, (h.rv.keep (rb, [.pointer (some ⟨k0, 0, none⟩), .pointer (some ⟨k1, 0, none⟩)]) (by simp)).1.at' 1 rfl⟩
/-- The entry's word, as the document reads it. -/
theorem Wg.entry (h : Wg W0 A f0 f1 G rb k0 k1 M0 M1 bs W) (g0 : 0 ≤ G) (g1 : G ≤ 13) : atI (wgW (G + gI M0 + gI M1)) 6 = wE (G + gI M0 + gI M1) ∧ (upV (wE (G + gI M0 + gI M1))).val = .agg #[.int .i64 0, .int .i64 0, .int .i64 0, .int .i64 (G + gI M0 + gI M1), .bool false, .bool true] ∧ upE (wE (G + gI M0 + gI M1)) = 0 := by
  have h0 := gI_01 M0
  have h1 := gI_01 M1
  refine ⟨rfl, ?_, upE_ok (wE_uok (by omega) (by omega))⟩
  rw [wE_up (by omega) (by omega)]
  rfl
theorem gI_wmG (M : Wm) : gI M = if wmG M then 1 else 0 := by unfold gI wmG; simp
/-- A machine as New makes it. -/
theorem wg_new (off b : Int) : wmNew 1099511627776 1 off b = ⟨true, 0, 0, off, b, 1, 0, 0, 0⟩ := by
  unfold wmNew
  rw [show ofB 1099511627776 1 = true from by decide +kernel, show ofS 1099511627776 1 = 0 from by decide +kernel, show ofG 1099511627776 1 = 0 from by decide +kernel]
theorem wi_new (off b off' : Int) {bs : List Int} (hl : bs.length = 8) : Wi off b off' ⟨true, 0, 0, off, b, 1, 0, 0, 0⟩ bs :=
  ⟨rfl, rfl, rfl, rfl, rfl, by simp, fun k => by simp at k, fun k => by simp at k, fun k => by simp at k, fun k => by simp at k, fun k => by simp at k, hl⟩
def wg0 : List Int := [0, 1, 0, 0, 0, 0, 0, 0, 0]
theorem wg_set (q : Int) : setI (setI wg0 6 (wE q)) 7 8 = wgW q := rfl
end
end Go.Proofs.YtnojemmpgaibkaaDoor
