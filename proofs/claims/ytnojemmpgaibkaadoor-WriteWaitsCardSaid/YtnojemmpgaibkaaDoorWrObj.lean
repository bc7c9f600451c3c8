/-
  What a machine that writes does alone to an object of 8 bytes at 0, of a layout of one thread and one slot.
  Conditions: none; plain lemmas.
-/
import Derived.Test.YtnojemmpgaibkaaDoorWrLive
namespace Go.Proofs.YtnojemmpgaibkaaDoor
open Go.RowKit
set_option linter.unusedVariables false
set_option linter.unusedSimpArgs false

section
variable {t s : Int} {ws ws' bs bs' : List Int} {M M' : Wm} {f i : Nat}
theorem wm_go (hO : wmO t s M ws bs = M') (hW : wmW t s M ws = ws') (hB : wmB M bs = bs') (h0 : M.step ≠ 0) (h1 : M'.step ≠ 0) : wmRun t s (f + 1) i M ws bs = wmRun t s f (i + 1) M' ws' bs' := by
  have hT : wmT M M' = (0, false) := by unfold wmT; rw [if_neg h0, if_neg h1]
  show (if (wmT M (wmO t s M ws bs)).2 then (⟨(wmT M (wmO t s M ws bs)).1, i + 1, wmO t s M ws bs, wmW t s M ws, wmB M bs⟩ : Wr) else wmRun t s f (i + 1) (wmO t s M ws bs) (wmW t s M ws) (wmB M bs)) = _
  rw [hO, hW, hB, hT]
  rfl
theorem wm_end (hO : wmO t s M ws bs = M') (hW : wmW t s M ws = ws') (hB : wmB M bs = bs') (h0 : M.step ≠ 0) (h1 : M'.step = 0) : wmRun t s (f + 1) i M ws bs = ⟨M'.kept, i + 1, M', ws', bs'⟩ := by
  have hT : wmT M M' = (M'.kept, true) := by unfold wmT; rw [if_neg h0, if_pos h1]
  show (if (wmT M (wmO t s M ws bs)).2 then (⟨(wmT M (wmO t s M ws bs)).1, i + 1, wmO t s M ws bs, wmW t s M ws, wmB M bs⟩ : Wr) else wmRun t s f (i + 1) (wmO t s M ws bs) (wmW t s M ws) (wmB M bs)) = _
  rw [hO, hW, hB, hT]
  rfl
end
def wo0 : List Int := [0, 1, 0, 0, 0, 0, 0, 0]
def woU : List Int := [0, 1, 0, 0, 0, 562949953421312, 8, 0]
def woG : List Int := [0, 1, 0, 0, 0, 580542139465728, 8, 0]
theorem wo_free : setI (setI wo0 5 562949953421312) 6 8 = woU := by decide +kernel
theorem mk00 : mkV 0 0 = 1099511627776 ∧ mkE 0 0 = 0 := by decide +kernel
theorem wo_new (off b : Int) : wmNew 1099511627776 1 off b = ⟨true, 0, 0, off, b, 1, 0, 0, 0⟩ := by
  unfold wmNew
  rw [show ofB 1099511627776 1 = true from by decide +kernel, show ofS 1099511627776 1 = 0 from by decide +kernel, show ofG 1099511627776 1 = 0 from by decide +kernel]
/-- A machine alone, from its first step on. -/
theorem wo_run {off b wd ba : Int} {bs : List Int} (h0 : 0 ≤ off) (h1 : off ≤ 7) : ∃ M, M.step = 0 ∧ wmRun 1 1 10 0 ⟨true, 0, 0, off, b, 1, wd, ba, 0⟩ woU bs = ⟨0, 6, M, woU, setI bs off (b % 256)⟩ := by
  have e1 : wmO 1 1 ⟨true, 0, 0, off, b, 1, wd, ba, 0⟩ woU bs = ⟨true, 0, 0, off, b, 2, 562949953421312, 0, 0⟩ := by kernel_rfl
  have e2 : wmO 1 1 ⟨true, 0, 0, off, b, 2, 562949953421312, 0, 0⟩ woU bs = ⟨true, 0, 0, off, b, 3, 562949953421312, 0, 0⟩ := by kernel_rfl
  have w2 : wmW 1 1 ⟨true, 0, 0, off, b, 2, 562949953421312, 0, 0⟩ woU = woG := by kernel_rfl
  have e3 : wmO 1 1 ⟨true, 0, 0, off, b, 3, 562949953421312, 0, 0⟩ woG bs = ⟨true, 0, 0, off, b, 4, 562949953421312, 0, 0⟩ := by
    rw [(wmO_3 rfl).1]
    have h8 : atI woG (partN 1 1 0 1) = 8 := by decide +kernel
    have h7 : wrap64 (8 - 1) = 7 := by decide +kernel
    show wm3 (atI woG (partN 1 1 0 1)) _ = _
    rw [h8]
    unfold wm3
    rw [h7, if_neg]
    simp only
    omega
  have e4 : wmO 1 1 ⟨true, 0, 0, off, b, 4, 562949953421312, 0, 0⟩ woG bs = ⟨true, 0, 0, off, b, 5, 562949953421312, 0, 0⟩ := by kernel_rfl
  have b4 : wmB ⟨true, 0, 0, off, b, 4, 562949953421312, 0, 0⟩ bs = setI bs off (b % 256) := by
    rw [(wmO_4 (t := 1) (s := 1) (ws := woG) rfl).2.2]
    have : wrap64 (0 + off) = off := by unfold wrap64; omega
    simp only [this]
  generalize setI bs off (b % 256) = bs2 at b4 ⊢
  have e5 : wmO 1 1 ⟨true, 0, 0, off, b, 5, 562949953421312, 0, 0⟩ woG bs2 = ⟨true, 0, 0, off, b, 6, 580542139465728, 0, 0⟩ := by kernel_rfl
  have e6 : wmO 1 1 ⟨true, 0, 0, off, b, 6, 580542139465728, 0, 0⟩ woG bs2 = ⟨true, 0, 0, off, b, 0, 580542139465728, 0, 0⟩ := by kernel_rfl
  have w6 : wmW 1 1 ⟨true, 0, 0, off, b, 6, 580542139465728, 0, 0⟩ woG = woU := by kernel_rfl
  refine ⟨⟨true, 0, 0, off, b, 0, 580542139465728, 0, 0⟩, rfl, ?_⟩
  rw [wm_go e1 (wmO_1 (t := 1) (s := 1) (ws := woU) (bs := bs) rfl).2.1 (wmO_1 (t := 1) (s := 1) (ws := woU) rfl).2.2 (by simp) (by simp), wm_go e2 w2 (wmO_2 (t := 1) (s := 1) (ws := woU) rfl).2.2 (by simp) (by simp),
    wm_go e3 (wmO_3 (t := 1) (s := 1) (ws := woG) (bs := bs) rfl).2.1 (wmO_3 (t := 1) (s := 1) (ws := woG) rfl).2.2 (by simp) (by simp), wm_go e4 (wmO_4 (t := 1) (s := 1) (ws := woG) (bs := bs) rfl).2.1 b4 (by simp) (by simp),
    wm_go e5 (wmO_5 (t := 1) (s := 1) (ws := woG) (bs := bs2) rfl).2.1 (wmO_5 (t := 1) (s := 1) (ws := woG) rfl).2.2 (by simp) (by simp), wm_end e6 w6 (wmO_6 (t := 1) (s := 1) (ws := woG) rfl).2.2 (by simp) rfl]
theorem tmod_bd (n : Int) : -256 < n.tmod 256 ∧ n.tmod 256 < 256 ∧ n = 256 * n.tdiv 256 + n.tmod 256 := by
  refine ⟨?_, Int.tmod_lt_of_pos n (by decide), (Int.mul_tdiv_add_tmod n 256).symm⟩
  by_cases h : 0 ≤ n
  · have := Int.tmod_nonneg 256 h
    omega
  · have h1 := Int.tmod_lt_of_pos (-n) (show (0 : Int) < 256 by decide)
    rw [Int.neg_tmod] at h1
    omega
theorem back_mod (n : Int) : n % 256 = n.tmod 256 % 256 := by
  obtain ⟨h1, h2, h3⟩ := tmod_bd n
  omega
end Go.Proofs.YtnojemmpgaibkaaDoor
