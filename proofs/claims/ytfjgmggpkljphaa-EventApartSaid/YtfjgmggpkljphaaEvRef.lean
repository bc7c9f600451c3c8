/-
  What the document's own functions answer for layer 8.
  Conditions: that the events lie in memory.
-/
import Derived.Test.YtfjgmggpkljphaaProg
import Derived.Test.YtfjgmggpkljphaaEvMem
import Derived.WalkKit
import Derived.WalkSpells
import Derived.WalkLawsBesides
import Derived.Lib.Hide
import Derived.BigQuiet
import Derived.LoopTactic
namespace Go.Proofs.Ytfjgmggpkljphaa
open Go.RowKit
attribute [local go_sem] Later.cell Later.frozen Later.lt Later.le
set_option linter.unusedVariables false

/-- No event of its thread stands between. -/
def NoSame (l : List Ev) (i k : Nat) : Prop := ∀ q, i < q → q < k → (evAt l q).th ≠ (evAt l i).th

section
variable {b off cap : Nat} {l : List Ev} {w : World}
theorem turn_any (hE : EvsAt w b off l) (hl : l.length ≤ 1000000) (i : Nat) (hi : i < l.length) : Calls Try.prog 66 #[.slice (some ⟨b, off, none⟩) l.length cap, .int .i64 i] w (Ret w (.int .i64 (turnTo l i i))) := by
  have hb := hE.lt
  have HE := Lib.hid hE
  have hle : ∀ k, turnTo l i k ≤ k := fun k => by
    induction k with
    | zero => exact Nat.le_refl _
    | succ k ih => unfold turnTo; split <;> omega
  have HLE := Lib.hid hle
  clear hE hle
  go_enter Try.func66, Try.ntmps66
  go_wp2
  go_loopw [5, 6] (fun n v wr => ∃ k : Nat, k ≤ i ∧ n = .int .i64 (turnTo l i k) ∧ v = .int .i64 k ∧ ∃ y : Later w, wr = y.at') (fun _ v _ => i - (intOf v).toNat)
  case atStart => exact ⟨0, by omega, rfl, rfl, ⟨w, Below.refl _ _⟩, rfl⟩
  case round =>
    obtain ⟨k, hk, rfl, rfl, y, rfl⟩ := hrel
    by_cases hki : k < i
    · have k0 := HE.out.c0 k (by omega)
      have k1 := HE.out.c0 i hi
      have i0 : (0 : Int) ≤ k := by omega
      have i1 : (k : Int) < l.length := by omega
      have i2 : (i : Int) < l.length := by omega
      have i3 : (0 : Int) ≤ i := by omega
      have i4 : k < l.length := by omega
      have i5 : (k : Int) < i := by omega
      have hle := HLE.out k
      have hn : turnTo l i (k + 1) = turnTo l i k + (if (evAt l k).th = (evAt l i).th then 1 else 0) := rfl
      by_cases hs : (evAt l k).th = (evAt l i).th
      · rw [if_pos hs] at hn
        rw [hs] at k0
        have e1 : ∀ u : Int, (u == u) = true := fun u => by simp
        generalize (evAt l i).th = v at k0 k1
        generalize turnTo l i k = m at hn hle ⊢
        have HN := Lib.hid hn
        clear hs hn
        go_wp2_with fail
        refine wp_region_later' y (by kernel_rfl) (by kernel_rfl) ?_
        repeat (go_big_quiet_step (fail))
        refine wpQuiet_nil ?_
        rintro _ ⟨z, rfl⟩
        go_wp2
        go_roundw
        case rel => exact ⟨k + 1, by omega, by rw [HN.out]; go_num, by go_num, z, rfl⟩
        case measure => simp [intOf]; omega
      · rw [if_neg hs] at hn
        have e1 : ((evAt l k).th == (evAt l i).th) = false := by simpa using hs
        generalize (evAt l i).th = v at k1 e1
        generalize (evAt l k).th = u at k0 e1
        generalize turnTo l i k = m at hn hle ⊢
        have HN := Lib.hid hn
        clear hs hn
        go_wp2_with fail
        refine wp_region_later' y (by kernel_rfl) (by kernel_rfl) ?_
        repeat (go_big_quiet_step (fail))
        refine wpQuiet_nil ?_
        rintro _ ⟨z, rfl⟩
        go_wp2
        go_roundw
        case rel => exact ⟨k + 1, by omega, by rw [HN.out]; rfl, by go_num, z, rfl⟩
        case measure => simp [intOf]; omega
    · have ek : k = i := by omega
      subst ek
      have i5 : ¬ (k : Int) < k := by omega
      go_wp2
      go_ret
      exact Ret.mk rfl y.below
theorem answer_any (hE : EvsAt w b off l) (hl : l.length ≤ 1000000) (i : Nat) (hi : i < l.length) : Calls Try.prog 64 #[.slice (some ⟨b, off, none⟩) l.length cap, .int .i64 i] w (Ret w (.int .i64 (ansN l i))) := by
  have hb := hE.lt
  have HE := Lib.hid hE
  have HA : Hid (∀ k, IsAns l i k → ansN l i = k) := fun k h => ansN_of hi h
  clear hE
  generalize ansN l i = A at HA ⊢
  go_enter Try.func64, Try.ntmps64
  go_wp2
  go_loopw [5] (fun v wr => ∃ k : Nat, i < k ∧ k ≤ l.length ∧ v = .int .i64 k ∧ NoSame l i k ∧ ∃ y : Later w, wr = y.at') (fun v _ => l.length - (intOf v).toNat)
  case atStart => exact ⟨i + 1, by omega, by omega, by go_num, (fun q h1 h2 => by omega), ⟨w, Below.refl _ _⟩, rfl⟩
  case round =>
    obtain ⟨k, hik, hk, rfl, hno, y, rfl⟩ := hrel
    by_cases hkl : k < l.length
    · have k0 := HE.out.c0 k hkl
      have k1 := HE.out.c0 i hi
      have i0 : (0 : Int) ≤ k := by omega
      have i1 : (k : Int) < l.length := by omega
      have i2 : (i : Int) < l.length := by omega
      have i3 : (0 : Int) ≤ i := by omega
      by_cases hs : (evAt l k).th = (evAt l i).th
      · have hA := Lib.hid (HA.out k ⟨hik, hk, hno, fun _ => hs⟩)
        rw [hs] at k0
        have e1 : ∀ u : Int, (u == u) = true := fun u => by simp
        generalize (evAt l i).th = v at k0 k1
        clear hs hno HA
        go_wp2_with fail
        refine wp_region_later' y (by kernel_rfl) (by kernel_rfl) ?_
        repeat (go_big_quiet_step (fail))
        refine wpQuiet_nil ?_
        rintro _ ⟨z, rfl⟩
        go_wp2
        go_ret
        exact Ret.mk (by rw [hA.out]; rfl) z.below
      · have hno' : NoSame l i (k + 1) := fun q h1 h2 => by
          by_cases e : q = k
          · subst e; exact hs
          · exact hno q h1 (by omega)
        have e1 : ((evAt l k).th == (evAt l i).th) = false := by simpa using hs
        generalize hgv : (evAt l i).th = v at k1 e1
        generalize hgu : (evAt l k).th = u at k0 e1
        clear hs hgv hgu
        go_wp2_with fail
        refine wp_region_later' y (by kernel_rfl) (by kernel_rfl) ?_
        repeat (go_big_quiet_step (fail))
        refine wpQuiet_nil ?_
        rintro _ ⟨z, rfl⟩
        go_wp2
        go_roundw
        case rel => exact ⟨k + 1, by omega, by omega, by go_num, hno', z, rfl⟩
        case measure => simp [intOf]; omega
    · have ek : k = l.length := by omega
      have hA := Lib.hid (HA.out k ⟨hik, hk, hno, fun h => absurd h hkl⟩)
      have EK := Lib.hid ek
      have i5 : ¬ (k : Int) < l.length := by omega
      have i6 : l.length ≤ k := by omega
      clear ek hno HA hkl
      go_wp2
      go_ret
      exact Ret.mk (by rw [hA.out, EK.out]; rfl) y.below
end
end Go.Proofs.Ytfjgmggpkljphaa
