/-
  What the statements' own all, and the document's own Same, answer for layer 8.
  Conditions: that rows of calls lie in memory.
-/
import Derived.Test.YtfjgmggpkljphaaEvHelp
import Derived.Test.YtfjgmggpkljphaaEvCallsB
namespace Go.Proofs.Ytfjgmggpkljphaa
open Go.RowKit
attribute [local go_sem] Later.cell Later.frozen Later.lt Later.le
set_option linter.unusedVariables false

theorem told_lit (th d h o n c r : Int) (dn : Bool) (fr to : Int) (w : World) : Calls Try.prog 65 #[.agg #[.int .i64 th, .int .i64 d, .int .i64 h, .int .i64 o, .int .i64 n, .int .i64 c, .int .i64 r, .bool dn, .int .i64 fr, .int .i64 to]] w (Ret w (.agg #[.int .i64 th, .int .i64 d, .int .i64 h, .int .i64 o, .int .i64 n, .int .i64 c, .int .i64 r, .bool dn, .int .i64 fr, .int .i64 to])) := told_any ⟨th, d, h, o, n, c, r, dn, fr, to⟩ w

theorem ClsAt.ten {w : World} {g : Nat} {l : List Cl} (h : ClsAt w g l) (j : Nat) (hj : j < l.length) {x : Cl} (hx : l.getD j default = x) :
    w.cell? ⟨g, j * 10, none⟩ = some (.int .i64 x.th) ∧ w.cell? ⟨g, j * 10 + 1, none⟩ = some (.int .i64 x.d) ∧ w.cell? ⟨g, j * 10 + 2, none⟩ = some (.int .i64 x.h) ∧ w.cell? ⟨g, j * 10 + 3, none⟩ = some (.int .i64 x.o) ∧ w.cell? ⟨g, j * 10 + 4, none⟩ = some (.int .i64 x.n) ∧
      w.cell? ⟨g, j * 10 + 5, none⟩ = some (.int .i64 x.c) ∧ w.cell? ⟨g, j * 10 + 6, none⟩ = some (.int .i64 x.r) ∧ w.cell? ⟨g, j * 10 + 7, none⟩ = some (.bool x.done) ∧ w.cell? ⟨g, j * 10 + 8, none⟩ = some (.int .i64 x.fr) ∧ w.cell? ⟨g, j * 10 + 9, none⟩ = some (.int .i64 x.to) := by
  subst hx
  exact ⟨h j 0 _ hj rfl, h j 1 _ hj rfl, h j 2 _ hj rfl, h j 3 _ hj rfl, h j 4 _ hj rfl, h j 5 _ hj rfl, h j 6 _ hj rfl, h j 7 _ hj rfl, h j 8 _ hj rfl, h j 9 _ hj rfl⟩
theorem cls_take (l : List Cl) (k : Nat) (hk : k < l.length) : l.take (k + 1) = l.take k ++ [l.getD k default] := by
  rw [List.take_succ_eq_append_getElem hk]
  simp [hk]

/-- What a call answers that makes a row of calls. -/
def ClsRet1 (T : TypeId) (w : World) (l : List Cl) (en : Ending) (w' : World) : Prop :=
  ∃ v, en = .returned v ∧ ∃ y : Later w, w' = y.at' ∧ Cls T y.at' w.heap.size v l

set_option maxHeartbeats 4000000 in
theorem all_any {p : Option Addr} {cap : Nat} {l : List Cl} {w : World} (hl : l.length ≤ 1000000) (hsh : l ≠ [] → ∃ g, p = some ⟨g, 0, none⟩ ∧ g < w.heap.size ∧ ClsAt w g l) :
    Calls Try.prog 39 #[.slice p l.length cap] w (ClsRet1 70 w l) := by
  obtain ⟨ti, hi, hz0, hz1, hz2⟩ := info_parts info_call
  go_enter Try.func39, Try.ntmps39
  go_wp2
  go_loopw [3, 4] (fun v i wr => ∃ k : Nat, k ≤ l.length ∧ i = .int .i64 k ∧ ∃ y : Later w, wr = y.at' ∧ Cls 70 y.at' w.heap.size v (l.take k)) (fun _ i _ => l.length - (intOf i).toNat)
  case atStart => exact ⟨0, by omega, rfl, ⟨w, Below.refl _ _⟩, rfl, Cls.nil _ _ _⟩
  case round =>
    obtain ⟨k, hk, rfl, y, rfl, hown⟩ := hrel
    by_cases hkl : k < l.length
    · obtain ⟨g, rfl, hg, hat⟩ := hsh (by rintro rfl; simp at hkl)
      have hsucc := Lib.hid (cls_take l k hkl)
      have hten := hat.ten k hkl rfl
      have hlen : (l.take k).length ≤ 1000000 := by rw [List.length_take]; omega
      have i0 : (0 : Int) ≤ k := by omega
      have i1 : (k : Int) < l.length := by omega
      clear hsh hat
      generalize l.getD k default = X at hten hsucc
      obtain ⟨th, d, h, o, n, c, r, dn, fr, to⟩ := X
      obtain ⟨c0, c1, c2, c3, c4, c5, c6, c7, c8, c9⟩ := hten
      dsimp only at c0 c1 c2 c3 c4 c5 c6 c7 c8 c9
      have hy : Since' w y.at' := y.below
      go_wp2_with (first
        | (go_at_call 65; (with_reducible refine (told_lit th d h o n c r dn fr to _).mono ?_); rintro _ _ ⟨rfl, x, rfl⟩)
        | (at_builtin; refine unhid ?_))
      refine Lib.hid ?_
      refine wpList_append_own _ rfl (.tmp 11) (.tmp 17) 61 rfl w.heap.size 70 ti _ 10 80 Try.underlying61 hi hz0 hz1 hz2 rfl (by decide) _ _ _ rfl (Cls.alloc (Cls.later hown x) _) ⟨x.at'.heap.size, 0, none⟩ 1 1 (clCells ⟨th, d, h, o, n, c, r, dn, fr, to⟩) rfl rfl (cells_at (clCells ⟨th, d, h, o, n, c, r, dn, fr, to⟩) rfl) (clCells_one _) (by unfold maxLen; omega) (by omega) (World.size_le_of_since (Since'.alloc (Since'.later hy x) _)) ?_
      intro v' w4 hO hg4 _
      obtain ⟨y9, rfl, hO9⟩ := Cls.round (x := ⟨th, d, h, o, n, c, r, dn, fr, to⟩) (Since'.later hy x) (Cls.later hown x) hg4 hO
      clear hg4 hO
      go_wp2
      go_roundw
      case rel => exact ⟨k + 1, by omega, by go_num, y9, rfl, by rw [hsucc.out]; exact hO9⟩
      case measure => simp [intOf]; omega
    · have ek : k = l.length := by omega
      subst ek
      have i1 : ¬ (l.length : Int) < l.length := by omega
      rw [List.take_length] at hown
      go_wp2
      go_ret
      exact ⟨_, rfl, y, rfl, hown⟩

set_option maxHeartbeats 4000000 in
/-- Two rows of the same calls are the same. -/
theorem rSame_any {p1 p2 : Option Addr} {c1 c2 : Nat} {l : List Cl} {w : World} (hl : l.length ≤ 1000000) (h1 : l ≠ [] → ∃ g, p1 = some ⟨g, 0, none⟩ ∧ g < w.heap.size ∧ ClsAt w g l) (h2 : l ≠ [] → ∃ g, p2 = some ⟨g, 0, none⟩ ∧ g < w.heap.size ∧ ClsAt w g l) :
    Calls Try.prog 38 #[.slice p1 l.length c1, .slice p2 l.length c2] w (Ret w (.bool true)) := by
  go_enter Try.func38, Try.ntmps38
  go_wp2
  go_loopw [5] (fun i wr => ∃ k : Nat, k ≤ l.length ∧ i = .int .i64 k ∧ ∃ y : Later w, wr = y.at') (fun i _ => l.length - (intOf i).toNat)
  case atStart => exact ⟨0, by omega, rfl, ⟨w, Below.refl _ _⟩, rfl⟩
  case round =>
    obtain ⟨k, hk, rfl, y, rfl⟩ := hrel
    by_cases hkl : k < l.length
    · obtain ⟨g, rfl, hg, hat⟩ := h1 (by rintro rfl; simp at hkl)
      obtain ⟨g2, rfl, hg2, hat2⟩ := h2 (by rintro rfl; simp at hkl)
      have hten := hat.ten k hkl rfl
      have hten2 := hat2.ten k hkl rfl
      have i0 : (0 : Int) ≤ k := by omega
      have i1 : (k : Int) < l.length := by omega
      clear h1 h2 hat hat2
      generalize l.getD k default = X at hten hten2
      obtain ⟨th, d, h, o, n, c, r, dn, fr, to⟩ := X
      obtain ⟨a0, a1, a2, a3, a4, a5, a6, a7, a8, a9⟩ := hten
      obtain ⟨b0, b1, b2, b3, b4, b5, b6, b7, b8, b9⟩ := hten2
      dsimp only at a0 a1 a2 a3 a4 a5 a6 a7 a8 a9 b0 b1 b2 b3 b4 b5 b6 b7 b8 b9
      have e1 : ∀ v : Int, (v == v) = true := fun v => by simp
      have e2 : (dn == dn) = true := by simp
      go_wp2_with fail
      refine wp_region_later' y (by kernel_rfl) (by kernel_rfl) ?_
      repeat (go_big_quiet_step (fail))
      refine wpQuiet_nil ?_
      rintro _ ⟨z, rfl⟩
      go_wp2
      go_roundw
      case rel => exact ⟨k + 1, by omega, by go_num, z, rfl⟩
      case measure => simp [intOf]; omega
    · have i1 : ¬ (k : Int) < l.length := by omega
      clear hk
      go_wp2
      go_ret
      exact Ret.mk rfl y.below
end Go.Proofs.Ytfjgmggpkljphaa
