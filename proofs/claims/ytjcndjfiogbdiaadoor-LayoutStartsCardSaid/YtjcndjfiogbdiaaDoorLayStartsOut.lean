/-
  LayoutStarts, walked where the sizes are none that are tried.
  Conditions: that live answers true; that the package's two fields of heads read as they are laid.
-/
import Derived.Test.YtjcndjfiogbdiaaDoorLayGo
import Derived.RegionTactic
namespace Go.Proofs.YtjcndjfiogbdiaaDoor
open Go.RowKit
attribute [local go_sem] Later.cell Later.frozen Later.lt Later.le
set_option linter.unusedVariables false

set_option maxHeartbeats 4000000 in
theorem starts_out (a s t p q j : Int) (w : World) (hlive : ∀ W, HasHead W → Calls Tryd.prog 22 #[] W (Ret W (.bool true))) (hF : HasHead w) (h : ¬ (1 ≤ p ∧ p ≤ 400 ∧ 0 ≤ q ∧ q ≤ 4096)) :
    Calls Tryd.prog 4 #[.agg #[.int .i64 a, .int .i64 s, .int .i64 t, .int .i64 p, .int .i64 q, .int .i64 j]] w (Ret w (.bool true)) := by
  have hF2 : ∀ o o' : Obj, HasHead ((w.alloc o).alloc o').drew := fun o o' => hF.below ((((Below.refl _ _).alloc (Nat.le_refl _) _).alloc (by simp) _).drew)
  by_cases h1 : 1 ≤ p
  · by_cases h2 : p ≤ 400
    · by_cases h3 : 0 ≤ q
      · have h4 : ¬ q ≤ 4096 := fun h4 => h ⟨h1, h2, h3, h4⟩
        clear h
        go_enter Tryd.func4, Tryd.ntmps4
        go_wp2
        go_region
        go_wp2_with (go_at_call 22; (with_reducible refine (hlive _ (hF2 _ _)).mono ?_); rintro _ _ ⟨rfl, x, rfl⟩)
        go_ret
        exact Ret.mk rfl x.boxed2
      · have h3' : q < 0 := by omega
        clear h
        go_enter Tryd.func4, Tryd.ntmps4
        go_wp2
        go_region
        go_wp2_with (go_at_call 22; (with_reducible refine (hlive _ (hF2 _ _)).mono ?_); rintro _ _ ⟨rfl, x, rfl⟩)
        go_ret
        exact Ret.mk rfl x.boxed2
    · have h2' : 400 < p := by omega
      clear h
      go_enter Tryd.func4, Tryd.ntmps4
      go_wp2
      go_region
      go_wp2_with (go_at_call 22; (with_reducible refine (hlive _ (hF2 _ _)).mono ?_); rintro _ _ ⟨rfl, x, rfl⟩)
      go_ret
      exact Ret.mk rfl x.boxed2
  · have h1' : p < 1 := by omega
    clear h
    go_enter Tryd.func4, Tryd.ntmps4
    go_wp2
    go_region
    go_wp2_with (go_at_call 22; (with_reducible refine (hlive _ (hF2 _ _)).mono ?_); rintro _ _ ⟨rfl, x, rfl⟩)
    go_ret
    exact Ret.mk rfl x.boxed2
end Go.Proofs.YtjcndjfiogbdiaaDoor
