/-
  Stands in the place of the text of that name where a seat holds the stack's machines.
  Conditions: none.
-/
import Derived.Test.YtfomephgallpmaaDoorStBase
