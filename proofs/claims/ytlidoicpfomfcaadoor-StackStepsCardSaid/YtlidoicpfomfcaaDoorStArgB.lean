/-
  The picks out of what comes in with them; a number that came in.
  Conditions: none; lemmas over the library's own notions and the program's table of types.
-/
import Derived.Test.YtlidoicpfomfcaaDoorStArg
namespace Go.Proofs.YtlidoicpfomfcaaDoor
open Go.ChangeShapes Go.WideShapes Go.ChangeAt Go.RowKit Go.Deep
set_option linter.unusedVariables false
set_option maxRecDepth 100000
section
variable {H : Type} {enc : TypeId × Value → H} {W : World} {base : Nat} {sp : Nat → Bool} {hd : Bool}
theorem c_cfg : Tryd.prog.cellsOf 23 = 3 := by kernel_rfl
theorem c_scr : Tryd.prog.cellsOf 24 = 1 := by kernel_rfl
theorem c_spo : Tryd.prog.cellsOf 27 = 7 := by kernel_rfl
theorem script_of_trod {fuel : Nat} {c0 c1 c2 c3 c4 c5 c6 : Value} {x : DataW H × List MemPlace} (h : DataW.trod enc Tryd.prog W base sp hd fuel 27 [c0, c1, c2, c3, c4, c5, c6] = some x) :
    ∃ n y, DataW.trod enc Tryd.prog W base sp hd n 24 [c3] = some y := by
  obtain ⟨xs, n, _, _, hl, hx, hf⟩ := DataW.trod_struct Tryd.underlying27 h
  match xs, hx with
  | [y0, y1, y2, y3], _ =>
  have h1 : DataW.trod enc Tryd.prog W base sp hd n 24 (([c0, c1, c2, c3, c4, c5, c6].drop 3).take (Tryd.prog.cellsOf 24)) = some y1 := hf 1 _ rfl
  rw [c_scr] at h1
  exact ⟨n, y1, h1⟩
end
end Go.Proofs.YtlidoicpfomfcaaDoor
