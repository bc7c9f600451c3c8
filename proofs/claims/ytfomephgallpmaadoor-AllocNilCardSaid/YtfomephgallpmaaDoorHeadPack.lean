/-
  Stands in the place of the text of that name where a seat holds all of the package head.
  Conditions: none.
-/
import Derived.Test.YtfomephgallpmaaDoorHeadWalks
