/-
  Stands in the place of the text of that name where a seat holds all of the package field that entries use.
  Conditions: none.
-/
import Derived.Test.YtnojemmpgaibkaaDoorFieldCore
