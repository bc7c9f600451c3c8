/-
  What the document's own functions answer for layer 4.
  Conditions: none.
-/
import Derived.Test.YtfomephgallpmaaDoorProg
import Derived.Test.YtfomephgallpmaaDoorLater
import Derived.Test.YtfomephgallpmaaDoorHeadMath
import Derived.WalkSpells
import Derived.WalkLawsBesides
import Derived.Lib.Hide
import Derived.BigQuiet
import Derived.LoopTactic
namespace Go.Proofs.YtfomephgallpmaaDoor
open Go.RowKit
attribute [local go_sem] Later.cell Later.frozen Later.lt Later.le

theorem hret_two {k : IntKind} {a b c d : Int} (h : a = b) (h' : c = d) : Ending.returned (.tuple #[.int k a, .int k c]) = .returned (.tuple #[.int k b, .int k d]) := by rw [h, h']
theorem hret_three {k : IntKind} {a b c d e f : Int} (h : a = b) (h' : c = d) (h'' : e = f) : Ending.returned (.tuple #[.int k a, .int k c, .int k e]) = .returned (.tuple #[.int k b, .int k d, .int k f]) := by rw [h, h', h'']

end Go.Proofs.YtfomephgallpmaaDoor
