/-
  A machine that reads a byte, as plain steps on a list of words and a list of bytes.
  Conditions: none; definitions and plain lemmas.
-/
import Derived.Test.YtnojemmpgaibkaaDoorEntryMath
import Derived.Test.YtnojemmpgaibkaaDoorHandleMath
import Derived.Test.YtnojemmpgaibkaaDoorLayMath
import Derived.Test.YtnojemmpgaibkaaDoorPlainMem
namespace Go.Proofs.YtnojemmpgaibkaaDoor
open Go.RowKit

/-- A machine's fields behind its layout. -/
structure Rm where
  kn : Bool
  slot : Int
  gen : Int
  off : Int
  step : Int
  base : Int
  out : Bool
  b : Int
  rc : Int
  rn : Int
/-- How it lies, cell by cell. -/
def rmL (t s : Int) (M : Rm) : List Value := [.int .i64 t, .int .i64 s, .bool M.kn, .int .i64 M.slot, .int .i64 M.gen, .int .i64 M.off, .int .i64 M.step, .int .i64 M.base, .bool M.out, .int .i64 M.b, .int .i64 M.rc, .int .i64 M.rn]
/-- Is a word a handle's own entry? -/
def ownB (x g : Int) : Bool := (upE x == 0) && ((upV x).lv && ((upV x).g == g))
def rmEnd (c n : Int) (M : Rm) : Rm := { M with rc := c, rn := n, step := 0 }
/-- The steps: of the entry's word x, of the size z, of the byte y, of the entry's word x again. -/
def rm1 (x : Int) (M : Rm) : Rm := if M.kn then (if ownB x M.gen then (if (upV x).lk then M else { M with base := (upV x).o, step := 2 }) else rmEnd 4 0 M) else rmEnd 4 0 M
def rm2 (z : Int) (M : Rm) : Rm := if M.off < 0 ∨ wrap64 (z - 1) < M.off then { M with out := true, step := 4 } else { M with out := false, step := 3 }
def rm3 (y : Int) (M : Rm) : Rm := { M with b := y, step := 4 }
def rm4 (x : Int) (M : Rm) : Rm := if ownB x M.gen then (if (upV x).o = M.base then (if (upV x).lk then { M with step := 1 } else if M.out then rmEnd 5 0 M else rmEnd 0 M.b M) else { M with step := 1 }) else { M with step := 1 }
def rmO (t s : Int) (M : Rm) (ws bs : List Int) : Rm :=
  if M.step = 1 then rm1 (atI ws (partN t s M.slot 0)) M else if M.step = 2 then rm2 (atI ws (partN t s M.slot 1)) M else if M.step = 3 then rm3 (atI bs (wrap64 (M.base + M.off))) M else if M.step = 4 then rm4 (atI ws (partN t s M.slot 0)) M else M
/-- What a step tells: a code, a number, whether it has ended. -/
def rmT (M M' : Rm) : Int × Int × Bool := if M.step = 0 then (1, 0, true) else if M'.step = 0 then (M'.rc, M'.rn, true) else (0, 0, false)
/-- A machine alone, for so many steps at most: what it tells, by how many, and what it comes to. -/
def rmRun (t s : Int) (ws bs : List Int) : Nat → Nat → Rm → (Int × Int) × Nat × Rm
  | 0, i, M => ((-1, 0), i, M)
  | f + 1, i, M => if (rmT M (rmO t s M ws bs)).2.2 then (((rmT M (rmO t s M ws bs)).1, (rmT M (rmO t s M ws bs)).2.1), i + 1, rmO t s M ws bs) else rmRun t s ws bs f (i + 1) (rmO t s M ws bs)

/-- A machine as New makes it. -/
def rmNew (h s off : Int) : Rm := ⟨ofB h s, ofS h s, ofG h s, off, 1, 0, false, 0, 0, 0⟩
def rmNil : Rm := ⟨false, 0, 0, 0, 0, 0, false, 0, 0, 0⟩
end Go.Proofs.YtnojemmpgaibkaaDoor
