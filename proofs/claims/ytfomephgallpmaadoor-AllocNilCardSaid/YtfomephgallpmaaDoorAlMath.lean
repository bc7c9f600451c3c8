/-
  A machine that makes an object, as it lies.
  Conditions: none; definitions and plain lemmas.
-/
import Derived.Test.YtfomephgallpmaaDoorStBase
import Derived.Test.YtfomephgallpmaaDoorEntryMath
import Derived.Test.YtfomephgallpmaaDoorHandleMath
namespace Go.Proofs.YtfomephgallpmaaDoor
open Go.RowKit

/-- A machine's fields behind its layout; its Pop and its Push lie in it, each with the layout ahead. -/
structure Am where
  arena : Int
  n : Int
  size : Int
  step : Int
  pending : Int
  pt : Int
  ps : Int
  pop : Mc
  qt : Int
  qs : Int
  push : Mc
  slot : Int
  frontier : Int
  cleared : Int
  gen : Int
  kept : Int
/-- How it lies, cell by cell. -/
def alL (t s : Int) (X : Am) : List Value := [.int .i64 t, .int .i64 s, .int .i64 X.arena, .int .i64 X.n, .int .i64 X.size, .int .i64 X.step, .int .i64 X.pending,
  .int .i64 X.pt, .int .i64 X.ps, .int .i64 X.pop.step, .int .i64 X.pop.word, .int .i64 X.pop.next, .int .i64 X.pop.slot,
  .int .i64 X.qt, .int .i64 X.qs, .int .i64 X.push.slot, .int .i64 X.push.step, .int .i64 X.push.word, .int .i64 X.push.next, .int .i64 X.push.link,
  .int .i64 X.slot, .int .i64 X.frontier, .int .i64 X.cleared, .int .i64 X.gen, .int .i64 X.kept]
/-- With this Pop, or Push, in it, of the same layout. -/
def alP (t s : Int) (X : Am) (M : Mc) : List Value := alL t s { X with pt := t, ps := s, pop := M }
def alQ (t s : Int) (X : Am) (M : Mc) : List Value := alL t s { X with qt := t, qs := s, push := M }
end Go.Proofs.YtfomephgallpmaaDoor
