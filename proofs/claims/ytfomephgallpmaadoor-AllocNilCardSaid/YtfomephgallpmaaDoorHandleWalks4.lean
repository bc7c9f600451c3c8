/-
  What each call of package handle answers, at every input.
  Conditions: none.
-/
import Derived.Test.YtfomephgallpmaaDoorHandleRef3
import Derived.Laws.BitsAllLaws
import Derived.Laws.BitsLemmas
import Derived.Deep.DrawnRows
import Derived.WalkMore
import Derived.ScopeJumps
namespace Go.Proofs.YtfomephgallpmaaDoor
open Go.RowKit
attribute [local go_sem] Later.cell Later.frozen Later.lt Later.le

theorem wraps_i64 (n : Int) (h₀ : 0 ≤ n) (h₁ : n < 2 ^ 63) : IntKind.i64.wrap n = n := by rw [IntKind.wrap_i64]; omega
theorem i64_mask20 (h : Int) : bits .and .i64 h 1048575 = h % 1048576 := by
  show IntKind.i64.wrap ((BitVec.ofInt 64 h &&& BitVec.ofInt 64 1048575).toNat : Int) = _
  have e : (BitVec.ofInt 64 1048575).toNat = 1048575 := by decide
  rw [BitVec.toNat_and, BitVec.toNat_ofInt, e, nat_mask20, IntKind.wrap_i64]
  omega
theorem or_made {s g : Int} (h1 : 0 ≤ s) (h2 : s ≤ 63) (h3 : 0 ≤ g) (h4 : g ≤ 1000) : bits .or .i64 (bits .or .i64 1099511627776 (g * 1048576)) s = s + g * 1048576 + 1099511627776 := by
  rw [bits_join .i64 63 (by decide) wraps_i64 40 1099511627776 (g * 1048576) (by decide) (by decide) (by decide) (by omega) (by omega) (by omega)]
  rw [bits_join .i64 63 (by decide) wraps_i64 20 (1099511627776 + g * 1048576) s (by omega) (by omega) (by omega) (by omega) (by omega) (by omega)]
  omega

theorem hdwithin_any (n m : Int) (w : World) : Calls Tryd.prog 26 #[.int .i64 n, .int .i64 m] w fun e w' => e = .returned (.bool (decide (0 ≤ n ∧ n ≤ m))) ∧ w = w' := by
  by_cases h0 : 0 ≤ n
  · by_cases h1 : n ≤ m
    · go_enter Tryd.func26, Tryd.ntmps26
      go_wp2
      go_ret
      exact ⟨by simp [h0, h1], rfl⟩
    · go_enter Tryd.func26, Tryd.ntmps26
      go_wp2
      go_ret
      exact ⟨by simp [h1], rfl⟩
  · go_enter Tryd.func26, Tryd.ntmps26
    go_wp2
    go_ret
    exact ⟨by simp; omega, rfl⟩

theorem ret_two' {k : IntKind} {a b c d : Int} (h : a = b) (h' : c = d) : Value.tuple #[.int k a, .int k c] = .tuple #[.int k b, .int k d] := by rw [h, h']
theorem ret_split' {k : IntKind} {a b c d : Int} {e f : Bool} (h : a = b) (h' : c = d) (h'' : e = f) : Value.tuple #[.int k a, .int k c, .bool e] = .tuple #[.int k b, .int k d, .bool f] := by rw [h, h', h'']
theorem ret_three' {k : IntKind} {a b c d e f : Int} (h : a = b) (h' : c = d) (h'' : e = f) : Value.tuple #[.int k a, .int k c, .int k e] = .tuple #[.int k b, .int k d, .int k f] := by rw [h, h', h'']

theorem Make_same (s g : Int) (w : World) : Calls Tryd.prog 14 #[.int .i64 s, .int .i64 g] w fun e w' => e = .returned (.tuple #[.int .i64 (mkV s g), .int .i64 (mkE s g)]) ∧ w = w' := by
  by_cases hs : 0 ≤ s ∧ s ≤ 63
  · by_cases hg : 0 ≤ g ∧ g ≤ 1000
    · have k := mkP_true ⟨hs.1, hs.2, hg.1, hg.2⟩
      rw [mkV_ok k, mkE_ok k]
      clear k
      go_enter Tryd.func14, Tryd.ntmps14
      go_wp2_with (go_at_call 26; refine (hdwithin_any _ _ _).mono ?_; rintro _ _ ⟨rfl, rfl⟩)
      go_ret2
      exact ⟨congrArg Ending.returned (ret_two' (or_made hs.1 hs.2 hg.1 hg.2) rfl), rfl⟩
    · have k := mkP_false (s := s) (g := g) (by omega)
      rw [mkV_bad k, mkE_bad k]
      clear k
      go_enter Tryd.func14, Tryd.ntmps14
      go_wp2_with (go_at_call 26; refine (hdwithin_any _ _ _).mono ?_; rintro _ _ ⟨rfl, rfl⟩)
      go_ret2
      exact ⟨rfl, rfl⟩
  · have k := mkP_false (s := s) (g := g) (by omega)
    rw [mkV_bad k, mkE_bad k]
    clear k
    go_enter Tryd.func14, Tryd.ntmps14
    go_wp2_with (go_at_call 26; refine (hdwithin_any _ _ _).mono ?_; rintro _ _ ⟨rfl, rfl⟩)
    go_ret2
    exact ⟨rfl, rfl⟩
theorem Make_any (s g : Int) (w : World) : Calls Tryd.prog 14 #[.int .i64 s, .int .i64 g] w (Ret w (.tuple #[.int .i64 (mkV s g), .int .i64 (mkE s g)])) :=
  (Make_same s g w).mono fun _ _ ⟨he, hw⟩ => ⟨he, ⟨w, Below.refl _ _⟩, hw.symm⟩

/-- Split asks Make of the parts; the number is a handle just if that makes it again. -/
theorem isH_iff {h : Int} : isH h = (mkP (h % 1048576) (h / 1048576 % 1048576) && (mkV (h % 1048576) (h / 1048576 % 1048576) == h)) := by
  cases k : mkP (h % 1048576) (h / 1048576 % 1048576)
  · have : ¬ (0 ≤ h - 1099511627776 ∧ slotOf h ≤ 63 ∧ genOf h ≤ 1000) := by
      intro ⟨a, b, c⟩
      have : mkP (h % 1048576) (h / 1048576 % 1048576) = true := by
        unfold slotOf at b
        unfold genOf at c
        apply mkP_true
        omega
      rw [k] at this
      cases this
    rw [isH_false this]
    rfl
  · obtain ⟨h1, h2, h3, h4⟩ := mkP_of k
    rw [mkV_ok k]
    by_cases e : h % 1048576 + h / 1048576 % 1048576 * 1048576 + 1099511627776 = h
    · have : isH h = true := by
        have a1 : slotOf h = h % 1048576 := by unfold slotOf; omega
        have a2 : genOf h = h / 1048576 % 1048576 := by unfold genOf; omega
        simp only [isH, a1, a2, decide_eq_true_eq]
        omega
      rw [this]
      simp [e]
    · have : ¬ (0 ≤ h - 1099511627776 ∧ slotOf h ≤ 63 ∧ genOf h ≤ 1000) := by
        intro ⟨a, b, c⟩
        unfold slotOf at b
        unfold genOf at c
        apply e
        omega
      rw [isH_false this]
      simp [e]
theorem parts_of {h : Int} (k : isH h = true) : h % 1048576 = slotOf h ∧ h / 1048576 % 1048576 = genOf h := by
  obtain ⟨a, b, c⟩ := isH_of k
  unfold slotOf at *
  unfold genOf at *
  omega

/-- What holds at each jump: so far the size is no more than what the number is rounded to. -/
def rdJ (n : Int) (w : World) (a' : Act) (w' : World) : Prop := w' = w ∧ ∃ (k : Int) (u5 u6 u7 u8 u9 u10 u11 u12 u13 u14 u15 u16 u17 : Value),
  a' = { tmps := #[.int .i64 n, undef, .int .i64 0, .int .i64 0, .int .i64 k, u5, u6, u7, u8, u9, u10, u11, u12, u13, u14, u15, u16, u17], defers := [] } ∧ n ≤ k ∧ k ≤ (n + 7) / 8 * 8
def rdM (n : Int) (a' : Act) (_ : World) : Nat := ((n + 7) / 8 * 8 - intOf (a'.tmps.getD 4 undef)).toNat

theorem Round_any (n : Int) (w : World) : Calls Tryd.prog 13 #[.int .i64 n] w (Ret w (.tuple #[.int .i64 (rdV n), .int .i64 (rdE n)])) := by
  by_cases h : 1 ≤ n ∧ n ≤ 256
  · have k := rdB_true h
    rw [rdV_ok k, rdE_ok k]
    obtain ⟨h1, h2⟩ := h
    clear k
    go_enter Tryd.func13, Tryd.ntmps13
    go_wp2
    refine wp_scope_jumps 0 (rdJ n w) (rdM n) rfl ?_ ?_
    · go_wp2
      go_step3
      go_wp2
      · go_step3
        exact ⟨rfl, rfl, n + 1, _, _, _, _, _, _, _, _, _, _, _, _, _, rfl, by omega, by simp at *; omega⟩
      · simp only [Exit.jump]
        go_ret2
        exact Ret.mk (ret_two' (by simp at *; omega) rfl) (Below.refl _ _)
    · rintro a' w' ⟨rfl, k, u5, u6, u7, u8, u9, u10, u11, u12, u13, u14, u15, u16, u17, rfl, hk0, hk1⟩
      go_wp2
      · go_step3
        exact ⟨rfl, ⟨rfl, k + 1, _, _, _, _, _, _, _, _, _, _, _, _, _, rfl, by omega, by simp at *; omega⟩, by simp [rdM, intOf] at *; omega⟩
      · simp only [Exit.jump]
        go_ret2
        exact Ret.mk (ret_two' (by simp at *; omega) rfl) (Below.refl _ _)
  · have k := rdB_false h
    rw [rdV_bad k, rdE_bad k]
    clear k
    by_cases h1 : n < 1
    · go_enter Tryd.func13, Tryd.ntmps13
      go_wp2
      go_step3
      go_wp2
      try rw [Exit.noGoto_ret]
      go_ret2
      exact Ret.mk rfl (Below.refl _ _)
    · have h2 : 256 < n := by omega
      go_enter Tryd.func13, Tryd.ntmps13
      go_wp2
      go_step3
      go_wp2
      try rw [Exit.noGoto_ret]
      go_ret2
      exact Ret.mk rfl (Below.refl _ _)
end Go.Proofs.YtfomephgallpmaaDoor
