/-
  A machine that pins, or unpins, an object, as plain steps on a list of words.
  Conditions: none; definitions and plain lemmas.
-/
import Derived.Test.YtnojemmpgaibkaaDoorRdMath
import Derived.Test.YtnojemmpgaibkaaDoorPlainCas
namespace Go.Proofs.YtnojemmpgaibkaaDoor
open Go.RowKit

/-- What an entry's word is turned to, and the error. -/
def turnV (un : Bool) (x : Int) : Int := if un then unpinV x else pinV x
def turnC (un : Bool) (x : Int) : Int := if un then unpinC x else pinC x
/-- A machine's fields behind its layout. -/
structure Pm where
  kn : Bool
  slot : Int
  gen : Int
  un : Bool
  step : Int
  word : Int
  nx : Int
  code : Int
/-- The function that it holds. -/
def turnF (un : Bool) : Value := .func (.func (if un then 54 else 53)) #[] #[]
/-- How it lies, cell by cell. -/
def pmL (t s : Int) (M : Pm) : List Value := [.int .i64 t, .int .i64 s, .bool M.kn, .int .i64 M.slot, .int .i64 M.gen, turnF M.un, .bool (!M.un), .int .i64 M.step, .int .i64 M.word, .int .i64 M.nx, .int .i64 M.code]
def pmEnd (c : Int) (M : Pm) : Pm := { M with code := c, step := 0 }
/-- The steps: of the entry's word x, of whether the Cas is done. -/
def pm1 (x : Int) (M : Pm) : Pm :=
  if M.kn then (if ownB x M.gen then (if !M.un && (upV x).lk then { M with word := x } else if turnC M.un x = 0 then { M with word := x, nx := turnV M.un x, step := 2 } else pmEnd (turnC M.un x) { M with word := x }) else pmEnd 4 { M with word := x }) else pmEnd 4 M
def pm2 (d : Bool) (M : Pm) : Pm := if d then pmEnd 0 M else { M with step := 1 }
def pmO (t s : Int) (M : Pm) (ws : List Int) : Pm := if M.step = 1 then pm1 (atI ws (partN t s M.slot 0)) M else if M.step = 2 then pm2 (casB ws (partN t s M.slot 0) M.word) M else M
def pmW (t s : Int) (M : Pm) (ws : List Int) : List Int := if M.step = 2 then casW ws (partN t s M.slot 0) M.word M.nx else ws
def pmT (M M' : Pm) : Int × Bool := if M.step = 0 then (1, true) else if M'.step = 0 then (M'.code, true) else (0, false)
section
variable {t s : Int} {M : Pm} {ws : List Int}
theorem pmO_0 (h : M.step = 0) : pmO t s M ws = M ∧ pmW t s M ws = ws := by unfold pmO pmW; simp [h]
theorem pmO_1 (h : M.step = 1) : pmO t s M ws = pm1 (atI ws (partN t s M.slot 0)) M ∧ pmW t s M ws = ws := by unfold pmO pmW; simp [h]
theorem pmO_2 (h : M.step = 2) : pmO t s M ws = pm2 (casB ws (partN t s M.slot 0) M.word) M ∧ pmW t s M ws = casW ws (partN t s M.slot 0) M.word M.nx := by unfold pmO pmW; simp [h]
theorem pm_step (h : 0 ≤ M.step ∧ M.step ≤ 2) : 0 ≤ (pmO t s M ws).step ∧ (pmO t s M ws).step ≤ 2 := by
  unfold pmO pm1 pm2 pmEnd
  repeat' split
  all_goals simp_all
end
/-- A machine alone, for so many steps at most. -/
structure Pr where
  c : Int
  j : Nat
  M : Pm
  ws : List Int
def pmRun (t s : Int) : Nat → Nat → Pm → List Int → Pr
  | 0, i, M, ws => ⟨-1, i, M, ws⟩
  | f + 1, i, M, ws => if (pmT M (pmO t s M ws)).2 then ⟨(pmT M (pmO t s M ws)).1, i + 1, pmO t s M ws, pmW t s M ws⟩ else pmRun t s f (i + 1) (pmO t s M ws) (pmW t s M ws)
/-- A machine as New, or NewUn, makes it. -/
def pmNew (h s : Int) (un : Bool) : Pm := ⟨ofB h s, ofS h s, ofG h s, un, 1, 0, 0, 0⟩
end Go.Proofs.YtnojemmpgaibkaaDoor
