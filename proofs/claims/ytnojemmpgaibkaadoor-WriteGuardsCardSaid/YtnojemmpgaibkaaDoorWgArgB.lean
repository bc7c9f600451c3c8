/-
  The picks out of what comes in with them.
  Conditions: none; lemmas over the library's own notions and the program's table of types.
-/
import Derived.Test.YtnojemmpgaibkaaDoorWgArg
namespace Go.Proofs.YtnojemmpgaibkaaDoor
open Go.ChangeShapes Go.WideShapes Go.ChangeAt Go.RowKit Go.Deep
set_option linter.unusedVariables false
set_option maxRecDepth 100000
section
variable {H : Type} {enc : TypeId × Value → H} {W : World} {base : Nat} {sp : Nat → Bool} {hd : Bool}
theorem picks_of_trod {fuel : Nat} {c0 c1 c2 c3 : Value} {x : DataW H × List MemPlace} (h : DataW.trod enc Tryd.prog W base sp hd fuel 24 [c0, c1, c2, c3] = some x) :
    ∃ n y, DataW.trod enc Tryd.prog W base sp hd n 22 [c0] = some y := by
  obtain ⟨xs, n, _, _, hl, hx, hf⟩ := DataW.trod_struct Tryd.underlying24 h
  match xs, hx with
  | [y0, y1, y2, y3], _ =>
  have h1 : DataW.trod enc Tryd.prog W base sp hd n 22 (([c0, c1, c2, c3].drop 0).take (Tryd.prog.cellsOf 22)) = some y0 := hf 0 _ rfl
  rw [c_nums] at h1
  exact ⟨n, y0, h1⟩
end
end Go.Proofs.YtnojemmpgaibkaaDoor
