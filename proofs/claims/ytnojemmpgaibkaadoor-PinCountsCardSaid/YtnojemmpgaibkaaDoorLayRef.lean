/-
  What the document's own functions answer for layer 6.
  Conditions: none.
-/
import Derived.Test.YtnojemmpgaibkaaDoorLayWalks
import Derived.Deep.OwnRows
namespace Go.Proofs.YtnojemmpgaibkaaDoor
open Go.RowKit
attribute [local go_sem] Later.cell Later.frozen Later.lt Later.le
set_option linter.unusedVariables false

section
variable {a s t : Int}
theorem rMay_yes (h : mayC a s t = true) (w : World) : Calls Tryd.prog 27 #[.agg #[.int .i64 a, .int .i64 s, .int .i64 t]] w (Ret w (.bool true)) := by
  obtain ⟨h1, h2, h3, h4, h5, h6, h7⟩ := mayC_iff.1 h
  have h0 := (tmod_iff a).2 h1
  clear h h1
  go_enter Tryd.func27, Tryd.ntmps27
  go_wp2
  go_ret
  exact Ret.mk rfl ((Below.refl _ _).alloc (Nat.le_refl _) _)
theorem rMay_no (h : mayC a s t = false) (w : World) : Calls Tryd.prog 27 #[.agg #[.int .i64 a, .int .i64 s, .int .i64 t]] w (Ret w (.bool false)) := by
  have h' := mayC_no h
  rw [← tmod_iff a] at h'
  clear h
  by_cases h2 : 8 ≤ a
  · by_cases h3 : a ≤ 4096
    · by_cases h0 : a.tmod 8 = 0
      · by_cases h4 : 1 ≤ s
        · by_cases h5 : s ≤ 64
          · by_cases h6 : 1 ≤ t
            · have h7 : ¬ t ≤ 4 := fun h7 => h' ⟨h0, h2, h3, h4, h5, h6, h7⟩
              clear h'
              go_enter Tryd.func27, Tryd.ntmps27
              go_wp2
              go_ret
              exact Ret.mk (by simp) ((Below.refl _ _).alloc (Nat.le_refl _) _)
            all_goals
              clear h'
              go_enter Tryd.func27, Tryd.ntmps27
              go_wp2
              go_ret
              exact Ret.mk rfl ((Below.refl _ _).alloc (Nat.le_refl _) _)
          all_goals
            clear h'
            go_enter Tryd.func27, Tryd.ntmps27
            go_wp2
            go_ret
            exact Ret.mk rfl ((Below.refl _ _).alloc (Nat.le_refl _) _)
        all_goals
          clear h'
          go_enter Tryd.func27, Tryd.ntmps27
          go_wp2
          go_ret
          exact Ret.mk rfl ((Below.refl _ _).alloc (Nat.le_refl _) _)
      all_goals
        clear h'
        have e' : (a % 8 == 0) = false := by simpa [tmod_iff] using h0
        have e : ¬ a % 8 = 0 := by simpa [tmod_iff] using h0
        clear h0
        go_enter Tryd.func27, Tryd.ntmps27
        go_wp2
        go_ret
        exact Ret.mk rfl ((Below.refl _ _).alloc (Nat.le_refl _) _)
    all_goals
      clear h'
      go_enter Tryd.func27, Tryd.ntmps27
      go_wp2
      go_ret
      exact Ret.mk rfl ((Below.refl _ _).alloc (Nat.le_refl _) _)
  all_goals
    clear h'
    go_enter Tryd.func27, Tryd.ntmps27
    go_wp2
    go_ret
    exact Ret.mk rfl ((Below.refl _ _).alloc (Nat.le_refl _) _)
theorem rMay_any (w : World) : Calls Tryd.prog 27 #[.agg #[.int .i64 a, .int .i64 s, .int .i64 t]] w (Ret w (.bool (mayC a s t))) := by
  cases h : mayC a s t
  · exact rMay_no h w
  · exact rMay_yes h w

theorem rWords_yes (h : mayC a s t = true) (w : World) : Calls Tryd.prog 40 #[.agg #[.int .i64 a, .int .i64 s, .int .i64 t]] w (Ret w (.int .i64 (wordsN t s))) := by
  have hc := fun W => rMay_yes h W
  obtain ⟨-, -, -, h4, h5, h6, h7⟩ := mayC_iff.1 h
  unfold wordsN
  clear h
  go_enter Tryd.func40, Tryd.ntmps40
  go_wp2_with (go_at_call 27; refine (hc _).mono ?_; rintro _ _ ⟨rfl, x, rfl⟩)
  go_ret
  exact Ret.mk (by simp; omega) x.boxed
theorem rWords_no (h : mayC a s t = false) (w : World) : Calls Tryd.prog 40 #[.agg #[.int .i64 a, .int .i64 s, .int .i64 t]] w (Ret w (.int .i64 0)) := by
  have hc := fun W => rMay_no h W
  clear h
  go_enter Tryd.func40, Tryd.ntmps40
  go_wp2_with (go_at_call 27; refine (hc _).mono ?_; rintro _ _ ⟨rfl, x, rfl⟩)
  go_ret
  exact Ret.mk rfl x.boxed

theorem rAt_no (h : mayC a s t = false) (k n : Int) (w : World) : Calls Tryd.prog 58 #[.agg #[.int .i64 a, .int .i64 s, .int .i64 t], .int .i64 k, .int .i64 n] w (Ret w (.int .i64 (-1))) := by
  have hc := fun W => rMay_no h W
  clear h
  go_enter Tryd.func58, Tryd.ntmps58
  go_wp2_with (go_at_call 27; refine (hc _).mono ?_; rintro _ _ ⟨rfl, x, rfl⟩)
  go_ret
  exact Ret.mk rfl x.boxed
theorem rAt_once (h : mayC a s t = true) (k n : Int) (hk : k ≤ 3) (w : World) : Calls Tryd.prog 58 #[.agg #[.int .i64 a, .int .i64 s, .int .i64 t], .int .i64 k, .int .i64 n] w (Ret w (.int .i64 k)) := by
  have hc := fun W => rMay_yes h W
  clear h
  go_enter Tryd.func58, Tryd.ntmps58
  go_wp2_with (go_at_call 27; refine (hc _).mono ?_; rintro _ _ ⟨rfl, x, rfl⟩)
  go_ret
  exact Ret.mk rfl x.boxed
theorem rAt_note (h : mayC a s t = true) (n : Int) (w : World) : Calls Tryd.prog 58 #[.agg #[.int .i64 a, .int .i64 s, .int .i64 t], .int .i64 4, .int .i64 n] w (Ret w (.int .i64 (noteN t n))) := by
  have hc := fun W => rMay_yes h W
  obtain ⟨-, -, -, -, -, h6, h7⟩ := mayC_iff.1 h
  clear h
  by_cases h0 : 0 ≤ n
  · by_cases h1 : n < t
    · rw [noteN_in ⟨h0, by omega⟩]
      go_enter Tryd.func58, Tryd.ntmps58
      go_wp2_with (go_at_call 27; refine (hc _).mono ?_; rintro _ _ ⟨rfl, x, rfl⟩)
      go_ret
      exact Ret.mk rfl x.boxed
    · rw [noteN_no (by omega)]
      go_enter Tryd.func58, Tryd.ntmps58
      go_wp2_with (go_at_call 27; refine (hc _).mono ?_; rintro _ _ ⟨rfl, x, rfl⟩)
      go_ret
      exact Ret.mk rfl x.boxed
  · rw [noteN_no (by omega)]
    go_enter Tryd.func58, Tryd.ntmps58
    go_wp2_with (go_at_call 27; refine (hc _).mono ?_; rintro _ _ ⟨rfl, x, rfl⟩)
    go_ret
    exact Ret.mk rfl x.boxed
theorem rAt_part (h : mayC a s t = true) (p n : Int) (h8 : 0 ≤ p) (h9 : p ≤ 2) (w : World) : Calls Tryd.prog 58 #[.agg #[.int .i64 a, .int .i64 s, .int .i64 t], .int .i64 (p + 5), .int .i64 n] w (Ret w (.int .i64 (partN t s n p))) := by
  have hc := fun W => rMay_yes h W
  obtain ⟨-, -, -, h4, h5, h6, h7⟩ := mayC_iff.1 h
  clear h
  have e1 : ¬ p + 5 ≤ 3 := by omega
  have e2 : (p + 5 == 4) = false := by simp; omega
  by_cases h0 : 0 ≤ n
  · by_cases h1 : n < s
    · rw [partN_in ⟨h0, by omega⟩]
      go_enter Tryd.func58, Tryd.ntmps58
      go_wp2_with (go_at_call 27; refine (hc _).mono ?_; rintro _ _ ⟨rfl, x, rfl⟩)
      go_ret
      exact Ret.mk (by simp; omega) x.boxed
    · rw [partN_no (by omega)]
      go_enter Tryd.func58, Tryd.ntmps58
      go_wp2_with (go_at_call 27; refine (hc _).mono ?_; rintro _ _ ⟨rfl, x, rfl⟩)
      go_ret
      exact Ret.mk rfl x.boxed
  · rw [partN_no (by omega)]
    go_enter Tryd.func58, Tryd.ntmps58
    go_wp2_with (go_at_call 27; refine (hc _).mono ?_; rintro _ _ ⟨rfl, x, rfl⟩)
    go_ret
    exact Ret.mk rfl x.boxed
end
end Go.Proofs.YtnojemmpgaibkaaDoor
