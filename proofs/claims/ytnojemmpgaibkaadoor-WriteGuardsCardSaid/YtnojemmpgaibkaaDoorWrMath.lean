/-
  A machine that writes a byte, as plain steps on a list of words and a list of bytes.
  Conditions: none; definitions and plain lemmas.
-/
import Derived.Test.YtnojemmpgaibkaaDoorRdMath
import Derived.Test.YtnojemmpgaibkaaDoorPlainCas
namespace Go.Proofs.YtnojemmpgaibkaaDoor
open Go.RowKit
set_option linter.unusedVariables false

/-- A machine's fields behind its layout. -/
structure Wm where
  kn : Bool
  slot : Int
  gen : Int
  off : Int
  b : Int
  step : Int
  word : Int
  base : Int
  kept : Int
/-- How it lies, cell by cell. -/
def wmL (t s : Int) (M : Wm) : List Value := [.int .i64 t, .int .i64 s, .bool M.kn, .int .i64 M.slot, .int .i64 M.gen, .int .i64 M.off, .int .i64 M.b, .int .i64 M.step, .int .i64 M.word, .int .i64 M.base, .int .i64 M.kept]
def wmEnd (c : Int) (M : Wm) : Wm := { M with kept := c, step := 0 }
/-- May no guard be had yet? -/
def waitW (x : Int) : Bool := (upV x).lk || ((upV x).q == 15)
/-- The steps: of the entry's word x, of whether a Cas is done, of the size z. -/
def wm1 (x : Int) (M : Wm) : Wm := if M.kn then (if ownB x M.gen then (if waitW x then { M with word := x } else { M with word := x, base := (upV x).o, step := 2 }) else wmEnd 4 { M with word := x }) else wmEnd 4 M
def wm2 (d : Bool) (M : Wm) : Wm := if d then { M with step := 3 } else { M with step := 1 }
def wm3 (z : Int) (M : Wm) : Wm := if M.off < 0 ∨ wrap64 (z - 1) < M.off then { M with kept := 5, step := 5 } else { M with step := 4 }
def wm4 (M : Wm) : Wm := { M with step := 5 }
def wm5 (x : Int) (M : Wm) : Wm := { M with word := x, step := 6 }
def wm6 (c : Int) (d : Bool) (M : Wm) : Wm := if c = 0 then (if d then { M with step := 0 } else { M with step := 5 }) else { M with step := 0 }
/-- A step: what the machine, the words and the bytes are behind it. -/
def wmO (t s : Int) (M : Wm) (ws bs : List Int) : Wm :=
  if M.step = 1 then wm1 (atI ws (partN t s M.slot 0)) M else if M.step = 2 then wm2 (casB ws (partN t s M.slot 0) M.word) M else if M.step = 3 then wm3 (atI ws (partN t s M.slot 1)) M else if M.step = 4 then wm4 M else if M.step = 5 then wm5 (atI ws (partN t s M.slot 0)) M else if M.step = 6 then wm6 (guardC (-1) M.word) (casB ws (partN t s M.slot 0) M.word) M else M
def wmW (t s : Int) (M : Wm) (ws : List Int) : List Int :=
  if M.step = 2 then casW ws (partN t s M.slot 0) M.word (guardV 1 M.word) else if M.step = 6 then (if guardC (-1) M.word = 0 then casW ws (partN t s M.slot 0) M.word (guardV (-1) M.word) else ws) else ws
def wmB (M : Wm) (bs : List Int) : List Int := if M.step = 4 then setI bs (wrap64 (M.base + M.off)) (M.b % 256) else bs
/-- What a step tells: a code, whether it has ended. -/
def wmT (M M' : Wm) : Int × Bool := if M.step = 0 then (1, true) else if M'.step = 0 then (M'.kept, true) else (0, false)
/-- Whether it has a guard. -/
def wmG (M : Wm) : Bool := decide (3 ≤ M.step)

section
variable {t s : Int} {M : Wm} {ws bs : List Int}
theorem wmO_0 (h : M.step = 0) : wmO t s M ws bs = M ∧ wmW t s M ws = ws ∧ wmB M bs = bs := by unfold wmO wmW wmB; simp [h]
theorem wmO_1 (h : M.step = 1) : wmO t s M ws bs = wm1 (atI ws (partN t s M.slot 0)) M ∧ wmW t s M ws = ws ∧ wmB M bs = bs := by unfold wmO wmW wmB; simp [h]
theorem wmO_2 (h : M.step = 2) : wmO t s M ws bs = wm2 (casB ws (partN t s M.slot 0) M.word) M ∧ wmW t s M ws = casW ws (partN t s M.slot 0) M.word (guardV 1 M.word) ∧ wmB M bs = bs := by unfold wmO wmW wmB; simp [h]
theorem wmO_3 (h : M.step = 3) : wmO t s M ws bs = wm3 (atI ws (partN t s M.slot 1)) M ∧ wmW t s M ws = ws ∧ wmB M bs = bs := by unfold wmO wmW wmB; simp [h]
theorem wmO_4 (h : M.step = 4) : wmO t s M ws bs = wm4 M ∧ wmW t s M ws = ws ∧ wmB M bs = setI bs (wrap64 (M.base + M.off)) (M.b % 256) := by unfold wmO wmW wmB; simp [h]
theorem wmO_5 (h : M.step = 5) : wmO t s M ws bs = wm5 (atI ws (partN t s M.slot 0)) M ∧ wmW t s M ws = ws ∧ wmB M bs = bs := by unfold wmO wmW wmB; simp [h]
theorem wmO_6 (h : M.step = 6) : wmO t s M ws bs = wm6 (guardC (-1) M.word) (casB ws (partN t s M.slot 0) M.word) M ∧ wmW t s M ws = (if guardC (-1) M.word = 0 then casW ws (partN t s M.slot 0) M.word (guardV (-1) M.word) else ws) ∧ wmB M bs = bs := by unfold wmO wmW wmB; simp [h]
theorem wm_step (h : 0 ≤ M.step ∧ M.step ≤ 6) : 0 ≤ (wmO t s M ws bs).step ∧ (wmO t s M ws bs).step ≤ 6 := by
  unfold wmO wm1 wm2 wm3 wm4 wm5 wm6 wmEnd
  repeat' split
  all_goals simp_all
end
/-- A machine alone, for so many steps at most: what it tells, by how many, what it comes to, and the words and bytes. -/
structure Wr where
  c : Int
  j : Nat
  M : Wm
  ws : List Int
  bs : List Int
def wmRun (t s : Int) : Nat → Nat → Wm → List Int → List Int → Wr
  | 0, i, M, ws, bs => ⟨-1, i, M, ws, bs⟩
  | f + 1, i, M, ws, bs => if (wmT M (wmO t s M ws bs)).2 then ⟨(wmT M (wmO t s M ws bs)).1, i + 1, wmO t s M ws bs, wmW t s M ws, wmB M bs⟩ else wmRun t s f (i + 1) (wmO t s M ws bs) (wmW t s M ws) (wmB M bs)

/-- A machine as New makes it. -/
def wmNew (h s off b : Int) : Wm := ⟨ofB h s, ofS h s, ofG h s, off, b, 1, 0, 0, 0⟩
def wmNil : Wm := ⟨false, 0, 0, 0, 0, 0, 0, 0, 0⟩
end Go.Proofs.YtnojemmpgaibkaaDoor
