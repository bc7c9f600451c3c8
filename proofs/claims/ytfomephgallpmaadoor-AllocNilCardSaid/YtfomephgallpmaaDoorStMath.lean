/-
  The machines that take and give slots, as plain steps on a list of words.
  Conditions: none; definitions and plain lemmas.
-/
import Derived.Test.YtfomephgallpmaaDoorHeadMath
import Derived.Test.YtfomephgallpmaaDoorLayMath
import Derived.Test.YtfomephgallpmaaDoorPlainCas
namespace Go.Proofs.YtfomephgallpmaaDoor
open Go.RowKit

/-- A machine's fields behind its layout. -/
structure Mc where
  slot : Int
  step : Int
  word : Int
  next : Int
  link : Int

/-- What a step comes to, the machine behind it, and the words. -/
structure Out where
  slot : Int
  err : Int
  done : Bool
  m : Mc
  ws : List Int

/-- The first step of a Pop, where x is the Stack's word. -/
def pop1 (x : Int) (M : Mc) (ws : List Int) : Out :=
  if heB x then
    if x % 1048576 = 0 then ⟨0, 11, true, { M with word := x, step := 3 }, ws⟩
    else ⟨0, 0, false, { M with word := x, slot := x % 1048576 - 1, step := 1 }, ws⟩
  else ⟨0, 2, true, { M with word := x, step := 3 }, ws⟩
/-- The second. -/
def pop2 (l : Int) (M : Mc) (ws : List Int) : Out :=
  if popE M.word l = 0 then ⟨0, 0, false, { M with next := popV M.word l, step := 2 }, ws⟩
  else ⟨0, 2, true, { M with step := 3 }, ws⟩
/-- The third. -/
def pop3 (M : Mc) (ws : List Int) : Out :=
  if casB ws 1 M.word then ⟨M.slot, 0, true, { M with step := 3 }, casW ws 1 M.word M.next⟩ else ⟨0, 0, false, { M with step := 0 }, ws⟩
/-- A step of a Pop. -/
def popO (t s : Int) (M : Mc) (ws : List Int) : Out :=
  if M.step = 0 then pop1 (atI ws 1) M ws else if M.step = 1 then pop2 (atI ws (partN t s M.slot 2)) M ws else if M.step = 2 then pop3 M ws else ⟨0, 1, true, M, ws⟩

/-- The first step of a Push, where x is the Stack's word and p the place of the slot's link. -/
def push1 (x p : Int) (M : Mc) (ws : List Int) : Out :=
  if 0 ≤ p then
    if pushE x M.slot = 0 then ⟨0, 0, false, { M with word := x, next := pushV x M.slot, link := pushL x M.slot, step := 1 }, ws⟩
    else ⟨0, 2, true, { M with word := x, step := 3 }, ws⟩
  else ⟨0, 1, true, { M with step := 3 }, ws⟩
def push2 (p : Int) (M : Mc) (ws : List Int) : Out := ⟨0, 0, false, { M with step := 2 }, setI ws p M.link⟩
def push3 (M : Mc) (ws : List Int) : Out :=
  if casB ws 1 M.word then ⟨0, 0, true, { M with step := 3 }, casW ws 1 M.word M.next⟩ else ⟨0, 0, false, { M with step := 0 }, ws⟩
/-- A step of a Push. -/
def pushO (t s : Int) (M : Mc) (ws : List Int) : Out :=
  if M.step = 0 then push1 (atI ws 1) (partN t s M.slot 2) M ws else if M.step = 1 then push2 (partN t s M.slot 2) M ws else if M.step = 2 then push3 M ws else ⟨0, 1, true, M, ws⟩

/-- How the machines lie, cell by cell. -/
def popL (t s : Int) (M : Mc) : List Value := [.int .i64 t, .int .i64 s, .int .i64 M.step, .int .i64 M.word, .int .i64 M.next, .int .i64 M.slot]
def pushC (t s : Int) (M : Mc) : List Value := [.int .i64 t, .int .i64 s, .int .i64 M.slot, .int .i64 M.step, .int .i64 M.word, .int .i64 M.next, .int .i64 M.link]

/-- The blocks that a step of a machine at k may turn. -/
def spanS (A : PAt) (k : Nat) : Nat → Prop := fun b => (A.lo ≤ b ∧ b < A.hi) ∨ b = k
theorem spanS_in {A : PAt} {k : Nat} : ∀ b, A.lo ≤ b → b < A.hi → spanS A k b := fun _ h1 h2 => Or.inl ⟨h1, h2⟩
theorem spanS_self {A : PAt} {k : Nat} : spanS A k k := Or.inr rfl
theorem spanS_not {A : PAt} {k b : Nat} (h1 : b < A.lo ∨ A.hi ≤ b) (h2 : b ≠ k) : ¬ spanS A k b := by rintro (h | h) <;> omega
end Go.Proofs.YtfomephgallpmaaDoor
