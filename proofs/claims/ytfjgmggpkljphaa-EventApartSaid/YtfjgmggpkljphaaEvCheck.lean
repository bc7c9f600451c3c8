/-
  What the document's own Check answers for layer 8.
  Conditions: that the events lie in memory.
-/
import Derived.Test.YtfjgmggpkljphaaEvRef
namespace Go.Proofs.Ytfjgmggpkljphaa
open Go.RowKit
attribute [local go_sem] Later.cell Later.frozen Later.lt Later.le
set_option linter.unusedVariables false

/-- The error of events: none, if they are a history. -/
def histE (l : List Ev) : Int := if (List.range l.length).all (okAt l) then 0 else 2
theorem histE_ok {l : List Ev} (H : Hist l) : histE l = 0 := if_pos (List.all_eq_true.2 fun i hi => H i (List.mem_range.1 hi))
theorem histE_bad {l : List Ev} {i : Nat} (hi : i < l.length) (h : okAt l i = false) : histE l = 2 := if_neg fun k => by
  have := List.all_eq_true.1 k i (List.mem_range.2 hi)
  rw [h] at this
  cases this
theorem histE_cases (l : List Ev) : (Hist l ∧ histE l = 0) ∨ (¬ Hist l ∧ histE l = 2) := by
  by_cases h : (List.range l.length).all (okAt l) = true
  · exact .inl ⟨fun i hi => List.all_eq_true.1 h i (List.mem_range.2 hi), if_pos h⟩
  · exact .inr ⟨fun H => h (List.all_eq_true.2 fun i hi => H i (List.mem_range.1 hi)), if_neg h⟩
/-- The first k events are as they are to be. -/
def OkTo (l : List Ev) (k : Nat) : Prop := ∀ i, i < k → okAt l i = true

theorem okAt_parts (l : List Ev) (i : Nat) : okAt l i = (decide (0 ≤ (evAt l i).th ∧ (evAt l i).th ≤ 3) && ((evAt l i).bk == decide (turnTo l i i % 2 = 1)) && (if (evAt l i).bk then opZ (evAt l i) else rsZ (evAt l i))) := rfl

set_option maxHeartbeats 2000000 in
theorem rCheck_any {b off cap : Nat} {l : List Ev} {w : World} (hE : EvsAt w b off l) (hl : l.length ≤ 1000000) : Calls Try.prog 41 #[.slice (some ⟨b, off, none⟩) l.length cap] w (Ret w (.int .i64 (histE l))) := by
  have hb := hE.lt
  have HE := Lib.hid hE
  clear hE
  go_enter Try.func41, Try.ntmps41
  go_wp2
  go_loopw [3] (fun v wr => ∃ k : Nat, k ≤ l.length ∧ v = .int .i64 k ∧ OkTo l k ∧ ∃ y : Later w, wr = y.at') (fun v _ => l.length - (intOf v).toNat)
  case atStart => exact ⟨0, by omega, rfl, (fun i h => absurd h (Nat.not_lt_zero _)), ⟨w, Below.refl _ _⟩, rfl⟩
  case round =>
    obtain ⟨i, hk, rfl, hok, y, rfl⟩ := hrel
    by_cases hi : i < l.length
    · have k0 := HE.out.c0 i hi
      have k1 := HE.out.c1 i hi
      have k2 := HE.out.c2 i hi
      have k3 := HE.out.c3 i hi
      have k4 := HE.out.c4 i hi
      have k5 := HE.out.c5 i hi
      have k6 := HE.out.c6 i hi
      have k7 := HE.out.c7 i hi
      have i0 : (0 : Int) ≤ i := by omega
      have i1 : (i : Int) < l.length := by omega
      have hT := fun (x : Later w) => turn_any (cap := cap) (HE.out.later x) hl i hi
      have hbad : Hid (okAt l i = false → histE l = 2) := fun h => histE_bad hi h
      have hgood : Hid (okAt l i = true → OkTo l (i + 1)) := fun h q hq => by
        by_cases e : q = i
        · subst e; exact h
        · exact hok q (by omega)
      rw [okAt_parts] at hbad hgood
      have hT0 : 0 ≤ turnTo l i i := Nat.zero_le _
      have hT1 : turnTo l i i ≤ i := by
        have : ∀ k, turnTo l i k ≤ k := fun k => by
          induction k with
          | zero => exact Nat.le_refl _
          | succ k ih => unfold turnTo; split <;> omega
        exact this i
      generalize turnTo l i i = T at hT hbad hgood hT0 hT1
      generalize evAt l i = e at k0 k1 k2 k3 k4 k5 k6 k7 hbad hgood
      obtain ⟨th, bk, d, h, o, n, c, r⟩ := e
      dsimp only [opZ, rsZ] at k0 k1 k2 k3 k4 k5 k6 k7 hbad hgood
      have t0 : (0 : Int) ≤ (T : Int) := by omega
      by_cases a1 : th < 0
      case pos =>
        have hB := Lib.hid (hbad.out (by simp; omega))
        have d1 : decide (th < 0) = true := by simpa using a1
        clear hbad hgood hok
        go_wp2_with fail
        refine wp_region_later' y (by kernel_rfl) (by kernel_rfl) ?_
        repeat (go_big_quiet_step ((go_at_call 66; (with_reducible exact later_of _ (hT _)))))
        refine wpQuiet_nil ?_
        rintro _ ⟨z, rfl⟩
        go_wp2
        go_ret
        exact Ret.mk (by rw [hB.out]; rfl) z.below
      case neg =>
        have d1 : decide (th < 0) = false := by simpa using a1
        by_cases a2 : 3 < th
        case pos =>
          have hB := Lib.hid (hbad.out (by simp; omega))
          have d2 : decide (3 < th) = true := by simpa using a2
          clear hbad hgood hok
          go_wp2_with fail
          refine wp_region_later' y (by kernel_rfl) (by kernel_rfl) ?_
          repeat (go_big_quiet_step ((go_at_call 66; (with_reducible exact later_of _ (hT _)))))
          refine wpQuiet_nil ?_
          rintro _ ⟨z, rfl⟩
          go_wp2
          go_ret
          exact Ret.mk (by rw [hB.out]; rfl) z.below
        case neg =>
          have d2 : decide (3 < th) = false := by simpa using a2
          have ht : decide (0 ≤ th ∧ th ≤ 3) = true := by simp; omega
          rw [ht] at hbad hgood
          by_cases hp : T % 2 = 1
          case pos =>
            have hpx : decide (T % 2 = 1) = true := by simpa using hp
            have e1 : ((T : Int) % 2 == 1) = true := by simp; omega
            have e2 : (T : Int) % 2 = 1 := by omega
            rw [hpx] at hbad hgood
            cases bk
            case false =>
              have hB := Lib.hid (hbad.out rfl)
              clear hbad hgood hok
              go_wp2_with fail
              refine wp_region_later' y (by kernel_rfl) (by kernel_rfl) ?_
              repeat (go_big_quiet_step ((go_at_call 66; (with_reducible exact later_of _ (hT _)))))
              refine wpQuiet_nil ?_
              rintro _ ⟨z, rfl⟩
              go_wp2
              go_ret
              exact Ret.mk (by rw [hB.out]; rfl) z.below
            case true =>
              by_cases zd : d = 0
              case neg =>
                have hB := Lib.hid (hbad.out (by simp [zd]))
                have wd : (d == 0) = false := by simpa using zd
                clear hbad hgood hok
                go_wp2_with fail
                refine wp_region_later' y (by kernel_rfl) (by kernel_rfl) ?_
                repeat (go_big_quiet_step ((go_at_call 66; (with_reducible exact later_of _ (hT _)))))
                refine wpQuiet_nil ?_
                rintro _ ⟨z, rfl⟩
                go_wp2
                go_ret
                exact Ret.mk (by rw [hB.out]; rfl) z.below
              case pos =>
                subst zd
                by_cases zh : h = 0
                case neg =>
                  have hB := Lib.hid (hbad.out (by simp [zh]))
                  have wh : (h == 0) = false := by simpa using zh
                  clear hbad hgood hok
                  go_wp2_with fail
                  refine wp_region_later' y (by kernel_rfl) (by kernel_rfl) ?_
                  repeat (go_big_quiet_step ((go_at_call 66; (with_reducible exact later_of _ (hT _)))))
                  refine wpQuiet_nil ?_
                  rintro _ ⟨z, rfl⟩
                  go_wp2
                  go_ret
                  exact Ret.mk (by rw [hB.out]; rfl) z.below
                case pos =>
                  subst zh
                  by_cases zo : o = 0
                  case neg =>
                    have hB := Lib.hid (hbad.out (by simp [zo]))
                    have wo : (o == 0) = false := by simpa using zo
                    clear hbad hgood hok
                    go_wp2_with fail
                    refine wp_region_later' y (by kernel_rfl) (by kernel_rfl) ?_
                    repeat (go_big_quiet_step ((go_at_call 66; (with_reducible exact later_of _ (hT _)))))
                    refine wpQuiet_nil ?_
                    rintro _ ⟨z, rfl⟩
                    go_wp2
                    go_ret
                    exact Ret.mk (by rw [hB.out]; rfl) z.below
                  case pos =>
                    subst zo
                    by_cases zn : n = 0
                    case neg =>
                      have hB := Lib.hid (hbad.out (by simp [zn]))
                      have wn : (n == 0) = false := by simpa using zn
                      clear hbad hgood hok
                      go_wp2_with fail
                      refine wp_region_later' y (by kernel_rfl) (by kernel_rfl) ?_
                      repeat (go_big_quiet_step ((go_at_call 66; (with_reducible exact later_of _ (hT _)))))
                      refine wpQuiet_nil ?_
                      rintro _ ⟨z, rfl⟩
                      go_wp2
                      go_ret
                      exact Ret.mk (by rw [hB.out]; rfl) z.below
                    case pos =>
                      subst zn
                      have hG := hgood.out rfl
                      clear hbad hgood hok
                      go_wp2_with fail
                      refine wp_region_later' y (by kernel_rfl) (by kernel_rfl) ?_
                      repeat (go_big_quiet_step ((go_at_call 66; (with_reducible exact later_of _ (hT _)))))
                      refine wpQuiet_nil ?_
                      rintro _ ⟨z, rfl⟩
                      go_wp2
                      go_roundw
                      case rel => exact ⟨i + 1, by omega, by go_num, hG, z, rfl⟩
                      case measure => simp [intOf]; omega
          case neg =>
            have hpx : decide (T % 2 = 1) = false := by simpa using hp
            have e1 : ((T : Int) % 2 == 1) = false := by simp; omega
            have e2 : (T : Int) % 2 = 0 := by omega
            rw [hpx] at hbad hgood
            cases bk
            case true =>
              have hB := Lib.hid (hbad.out rfl)
              clear hbad hgood hok
              go_wp2_with fail
              refine wp_region_later' y (by kernel_rfl) (by kernel_rfl) ?_
              repeat (go_big_quiet_step ((go_at_call 66; (with_reducible exact later_of _ (hT _)))))
              refine wpQuiet_nil ?_
              rintro _ ⟨z, rfl⟩
              go_wp2
              go_ret
              exact Ret.mk (by rw [hB.out]; rfl) z.below
            case false =>
              by_cases zc : c = 0
              case neg =>
                have hB := Lib.hid (hbad.out (by simp [zc]))
                have wc : (c == 0) = false := by simpa using zc
                clear hbad hgood hok
                go_wp2_with fail
                refine wp_region_later' y (by kernel_rfl) (by kernel_rfl) ?_
                repeat (go_big_quiet_step ((go_at_call 66; (with_reducible exact later_of _ (hT _)))))
                refine wpQuiet_nil ?_
                rintro _ ⟨z, rfl⟩
                go_wp2
                go_ret
                exact Ret.mk (by rw [hB.out]; rfl) z.below
              case pos =>
                subst zc
                by_cases zr : r = 0
                case neg =>
                  have hB := Lib.hid (hbad.out (by simp [zr]))
                  have wr : (r == 0) = false := by simpa using zr
                  clear hbad hgood hok
                  go_wp2_with fail
                  refine wp_region_later' y (by kernel_rfl) (by kernel_rfl) ?_
                  repeat (go_big_quiet_step ((go_at_call 66; (with_reducible exact later_of _ (hT _)))))
                  refine wpQuiet_nil ?_
                  rintro _ ⟨z, rfl⟩
                  go_wp2
                  go_ret
                  exact Ret.mk (by rw [hB.out]; rfl) z.below
                case pos =>
                  subst zr
                  have hG := hgood.out rfl
                  clear hbad hgood hok
                  go_wp2_with fail
                  refine wp_region_later' y (by kernel_rfl) (by kernel_rfl) ?_
                  repeat (go_big_quiet_step ((go_at_call 66; (with_reducible exact later_of _ (hT _)))))
                  refine wpQuiet_nil ?_
                  rintro _ ⟨z, rfl⟩
                  go_wp2
                  go_roundw
                  case rel => exact ⟨i + 1, by omega, by go_num, hG, z, rfl⟩
                  case measure => simp [intOf]; omega
    · have hkl : i = l.length := by omega
      have hH := Lib.hid (histE_ok (l := l) fun q hq => hok q (by omega))
      have i1 : ¬ (i : Int) < l.length := by omega
      have i2 : l.length ≤ i := by omega
      clear hk hi hok hkl
      go_wp2
      go_ret
      exact Ret.mk (by rw [hH.out]; rfl) y.below
end Go.Proofs.Ytfjgmggpkljphaa
