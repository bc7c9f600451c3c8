/-
  LayoutStarts, at every case.
  Conditions: that live answers true; that the package's two fields of heads read as they are laid.
-/
import Derived.Test.YtjcndjfiogbdiaaDoorLayStartsLaw
import Derived.Test.YtjcndjfiogbdiaaDoorLayStartsOut
namespace Go.Proofs.YtjcndjfiogbdiaaDoor
open Go.RowKit

theorem LayoutStarts_walk {a s t p q j : Int} {w : World} (hlive : ∀ W, HasHead W → Calls Tryd.prog 22 #[] W (Ret W (.bool true))) (hF : HasHead w) :
    Calls Tryd.prog 4 #[.agg #[.int .i64 a, .int .i64 s, .int .i64 t, .int .i64 p, .int .i64 q, .int .i64 j]] w (Ret w (.bool true)) := by
  by_cases h : 1 ≤ p ∧ p ≤ 400 ∧ 0 ≤ q ∧ q ≤ 4096
  · obtain ⟨p, rfl⟩ := Int.eq_ofNat_of_zero_le (show 0 ≤ p by omega)
    obtain ⟨q, rfl⟩ := Int.eq_ofNat_of_zero_le (show 0 ≤ q by omega)
    exact starts_main a s t j p q w hlive hF (by omega) (by omega) (by omega)
  · exact starts_out a s t p q j w hlive hF h
end Go.Proofs.YtjcndjfiogbdiaaDoor
