/-
  What the document's own functions answer for layer 6.
  Conditions: none.
-/
import Derived.Test.YtfomephgallpmaaDoorLayWalks
import Derived.Deep.OwnRows
namespace Go.Proofs.YtfomephgallpmaaDoor
open Go.RowKit
attribute [local go_sem] Later.cell Later.frozen Later.lt Later.le
set_option linter.unusedVariables false

section
variable {a s t : Int}
theorem rMay_yes (h : mayC a s t = true) (w : World) : Calls Tryd.prog 8 #[.agg #[.int .i64 a, .int .i64 s, .int .i64 t]] w (Ret w (.bool true)) := by
  obtain ⟨h1, h2, h3, h4, h5, h6, h7⟩ := mayC_iff.1 h
  have h0 := (tmod_iff a).2 h1
  clear h h1
  go_enter Tryd.func8, Tryd.ntmps8
  go_wp2
  go_ret
  exact Ret.mk rfl ((Below.refl _ _).alloc (Nat.le_refl _) _)
theorem rMay_no (h : mayC a s t = false) (w : World) : Calls Tryd.prog 8 #[.agg #[.int .i64 a, .int .i64 s, .int .i64 t]] w (Ret w (.bool false)) := by
  have h' := mayC_no h
  rw [← tmod_iff a] at h'
  clear h
  by_cases h2 : 8 ≤ a
  · by_cases h3 : a ≤ 4096
    · by_cases h0 : a.tmod 8 = 0
      · by_cases h4 : 1 ≤ s
        · by_cases h5 : s ≤ 64
          · by_cases h6 : 1 ≤ t
            · have h7 : ¬ t ≤ 4 := fun h7 => h' ⟨h0, h2, h3, h4, h5, h6, h7⟩
              clear h'
              go_enter Tryd.func8, Tryd.ntmps8
              go_wp2
              go_ret
              exact Ret.mk (by simp) ((Below.refl _ _).alloc (Nat.le_refl _) _)
            all_goals
              clear h'
              go_enter Tryd.func8, Tryd.ntmps8
              go_wp2
              go_ret
              exact Ret.mk rfl ((Below.refl _ _).alloc (Nat.le_refl _) _)
          all_goals
            clear h'
            go_enter Tryd.func8, Tryd.ntmps8
            go_wp2
            go_ret
            exact Ret.mk rfl ((Below.refl _ _).alloc (Nat.le_refl _) _)
        all_goals
          clear h'
          go_enter Tryd.func8, Tryd.ntmps8
          go_wp2
          go_ret
          exact Ret.mk rfl ((Below.refl _ _).alloc (Nat.le_refl _) _)
      all_goals
        clear h'
        have e' : (a % 8 == 0) = false := by simpa [tmod_iff] using h0
        have e : ¬ a % 8 = 0 := by simpa [tmod_iff] using h0
        clear h0
        go_enter Tryd.func8, Tryd.ntmps8
        go_wp2
        go_ret
        exact Ret.mk rfl ((Below.refl _ _).alloc (Nat.le_refl _) _)
    all_goals
      clear h'
      go_enter Tryd.func8, Tryd.ntmps8
      go_wp2
      go_ret
      exact Ret.mk rfl ((Below.refl _ _).alloc (Nat.le_refl _) _)
  all_goals
    clear h'
    go_enter Tryd.func8, Tryd.ntmps8
    go_wp2
    go_ret
    exact Ret.mk rfl ((Below.refl _ _).alloc (Nat.le_refl _) _)
theorem rMay_any (w : World) : Calls Tryd.prog 8 #[.agg #[.int .i64 a, .int .i64 s, .int .i64 t]] w (Ret w (.bool (mayC a s t))) := by
  cases h : mayC a s t
  · exact rMay_no h w
  · exact rMay_yes h w

theorem rWords_yes (h : mayC a s t = true) (w : World) : Calls Tryd.prog 22 #[.agg #[.int .i64 a, .int .i64 s, .int .i64 t]] w (Ret w (.int .i64 (wordsN t s))) := by
  have hc := fun W => rMay_yes h W
  obtain ⟨-, -, -, h4, h5, h6, h7⟩ := mayC_iff.1 h
  unfold wordsN
  clear h
  go_enter Tryd.func22, Tryd.ntmps22
  go_wp2_with (go_at_call 8; refine (hc _).mono ?_; rintro _ _ ⟨rfl, x, rfl⟩)
  go_ret
  exact Ret.mk (by simp; omega) x.boxed
theorem rWords_no (h : mayC a s t = false) (w : World) : Calls Tryd.prog 22 #[.agg #[.int .i64 a, .int .i64 s, .int .i64 t]] w (Ret w (.int .i64 0)) := by
  have hc := fun W => rMay_no h W
  clear h
  go_enter Tryd.func22, Tryd.ntmps22
  go_wp2_with (go_at_call 8; refine (hc _).mono ?_; rintro _ _ ⟨rfl, x, rfl⟩)
  go_ret
  exact Ret.mk rfl x.boxed

end
end Go.Proofs.YtfomephgallpmaaDoor
