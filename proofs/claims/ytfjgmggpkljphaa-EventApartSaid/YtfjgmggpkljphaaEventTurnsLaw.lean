/-
  EventTurns, walked: of events that lie in memory.
  Conditions: that the events lie in memory.
-/
import Derived.Test.YtfjgmggpkljphaaEventCallsLaw
namespace Go.Proofs.Ytfjgmggpkljphaa
open Go.RowKit
attribute [local go_sem] Later.cell Later.frozen Later.lt Later.le
set_option linter.unusedVariables false
set_option maxRecDepth 4000

theorem callsTo_getD {l : List Ev} {k j : Nat} (h : j < (callsTo l k).length) : (callsTo l k).getD j default = callAt l ((asksTo l k).getD j 0) := by
  have h' : j < (asksTo l k).length := by rwa [callsTo_len] at h
  simp [callsTo, h']
/-- Of two calls of a history the first one began ahead; of one thread, it was answered ahead. -/
theorem turns_pair {l : List Ev} (H : Hist l) {k i : Nat} (hki : k < i) (hi : i < (callsTo l l.length).length) :
    ((callsTo l l.length).getD k default).fr < ((callsTo l l.length).getD i default).fr ∧
      (((callsTo l l.length).getD k default).th = ((callsTo l l.length).getD i default).th → ((callsTo l l.length).getD k default).done = true ∧ clBefore ((callsTo l l.length).getD k default) ((callsTo l l.length).getD i default) = true) := by
  have hi' : i < (asksTo l l.length).length := by rwa [callsTo_len] at hi
  have hk' : k < (asksTo l l.length).length := by omega
  rw [callsTo_getD hi, callsTo_getD (by omega)]
  obtain ⟨a1, a2⟩ := asksTo_get hk'
  obtain ⟨b1, b2⟩ := asksTo_get hi'
  have hs := asksTo_sorted l.length k i hki hi'
  generalize (asksTo l l.length).getD k 0 = a at a1 a2 hs ⊢
  generalize (asksTo l l.length).getD i 0 = b at b1 b2 hs ⊢
  have e1 : (callAt l a).fr = a := by unfold callAt; split <;> rfl
  have e2 : (callAt l b).fr = b := by unfold callAt; split <;> rfl
  have e3 : (callAt l a).th = (evAt l a).th := by unfold callAt; split <;> rfl
  have e4 : (callAt l b).th = (evAt l b).th := by unfold callAt; split <;> rfl
  refine ⟨by rw [e1, e2]; omega, fun h => ?_⟩
  rw [e3, e4] at h
  have ha := calls_turn H b1 hs h a2 b2
  have hc := callAt_some (l := l) (k := a) rfl (show ansN l a < l.length by omega)
  unfold clBefore
  rw [e2, hc]
  exact ⟨rfl, by simp; omega⟩
/-- How many of the first i calls are done. -/
def dones (C : List Cl) (i : Nat) : Nat := ((C.take i).filter fun c => c.done).length
theorem dones_succ (C : List Cl) (i : Nat) (h : i < C.length) : dones C (i + 1) = dones C i + (if (C.getD i default).done then 1 else 0) := by
  unfold dones
  rw [cls_take C i h, List.filter_append, List.length_append]
  congr 1
  cases hd : (C.getD i default).done
  · rw [List.filter_cons, hd]; rfl
  · rw [List.filter_cons, hd]; rfl
theorem dones_le (C : List Cl) (i : Nat) : dones C i ≤ i := by
  unfold dones
  exact Nat.le_trans (List.length_filter_le _ _) (by rw [List.length_take]; omega)
theorem before_lit (th d h o n c r : Int) (dn : Bool) (fr to th2 d2 h2 o2 n2 c2 r2 : Int) (dn2 : Bool) (fr2 to2 : Int) (w : World) :
    Calls Try.prog 44 #[cl10 th d h o n c r dn fr to, cl10 th2 d2 h2 o2 n2 c2 r2 dn2 fr2 to2] w (Ret w (.bool (clBefore ⟨th, d, h, o, n, c, r, dn, fr, to⟩ ⟨th2, d2, h2, o2, n2, c2, r2, dn2, fr2, to2⟩))) :=
  Before_any ⟨th, d, h, o, n, c, r, dn, fr, to⟩ ⟨th2, d2, h2, o2, n2, c2, r2, dn2, fr2, to2⟩ w

set_option maxHeartbeats 4000000 in
theorem EventTurns_true {p : Option Addr} {cap : Nat} {l : List Ev} {w : World} (hE : EvsP w p l) (hm : l.length ≤ maxLen) : Calls Try.prog 11 #[.slice p l.length cap] w (Ret w (.bool true)) := by
  have hlv := fun W => live_true W
  by_cases hl : 60 < l.length
  · have h60 : (60 : Int) < l.length := by omega
    go_enter Try.func11, Try.ntmps11
    go_wp2_with (go_at_call 35; (with_reducible refine (hlv _).mono ?_); rintro _ _ ⟨rfl, x, rfl⟩)
    go_ret
    exact Ret.mk rfl x.below
  · have h60 : ¬ (60 : Int) < l.length := by omega
    have c1 := fun (W : World) (h : EvsP W p l) => Calls_p (cap := cap) h (by omega)
    have c3 := fun (W : World) (h : EvsP W p l) => Check_p (cap := cap) h (by omega)
    have hcl := callsOf_le l
    rcases histE_cases l with ⟨H, e⟩ | ⟨_, e⟩
    · have hco : callsOf l = callsTo l l.length := by unfold callsOf; rw [e, if_pos rfl]
      have hpair := fun k i hki hi => turns_pair H (k := k) (i := i) hki hi
      have hcnt := calls_count H
      rw [e] at c1 c3
      rw [hco] at c1 hcl
      clear e hco H
      generalize callsTo l l.length = C at c1 hcl hpair hcnt
      have HP := Lib.hid hpair
      have hall : C.length + dones C C.length = l.length := by unfold dones; rw [List.take_length]; exact hcnt
      clear hpair hcnt
      go_enter Try.func11, Try.ntmps11
      go_wp2_with (first
        | (go_at_call 36; (with_reducible refine (c1 _ hE).mono ?_); rintro _ _ ⟨v1, rfl, x1, rfl, hO1⟩))
      have hE2 := hE.later x1
      obtain ⟨p1, q1, rfl, hP1⟩ := hO1.sliceP
      have hb : Below w.heap.size w x1.at' := x1.below
      clear hO1 c1
      generalize x1.at' = W at *
      go_loopw [5, 6, 7] (fun n i _ wr => ∃ k : Nat, k ≤ C.length ∧ n = .int .i64 ((k + dones C k : Nat) : Int) ∧ i = .int .i64 k ∧ ∃ y : Later W, wr = y.at') (fun _ i _ _ => C.length - (intOf i).toNat)
      case atStart => exact ⟨0, by omega, rfl, rfl, ⟨W, Below.refl _ _⟩, rfl⟩
      case round =>
        obtain ⟨i, hi, rfl, rfl, y, rfl⟩ := hrel
        by_cases hil : i < C.length
        · obtain ⟨g, rfl, hg, hat⟩ := hP1 (by rintro rfl; simp at hil)
          have hten := hat.ten i hil rfl
          have hsucc := dones_succ C i hil
          have hdl := dones_le C i
          have i0 : (0 : Int) ≤ i := by omega
          have i1 : (i : Int) < C.length := by omega
          generalize hXe : C.getD i default = X at hten hsucc
          obtain ⟨th, d, h, o, n, c, r, dn, fr, to⟩ := X
          have hXX := Lib.hid hXe
          clear hXe
          obtain ⟨b0, b1, b2, b3, b4, b5, b6, b7, b8, b9⟩ := hten
          dsimp only at b0 b1 b2 b3 b4 b5 b6 b7 b8 b9 hsucc
          cases dn
          · simp only [Bool.false_eq_true, if_false, Nat.add_zero] at hsucc
            have HS := Lib.hid hsucc
            clear hsucc
            go_wp2
            go_loopw [7] (fun v wr => ∃ k : Nat, k ≤ i ∧ v = .int .i64 k ∧ ∃ z : Later W, wr = z.at') (fun v _ => i - (intOf v).toNat)
            case atStart => exact ⟨0, by omega, rfl, y, rfl⟩
            case round =>
              obtain ⟨k, hk, rfl, z, rfl⟩ := hrel
              by_cases hki : k < i
              · have hpr := HP.out k i hki hil
                have hten2 := hat.ten k (by omega) rfl
                rw [hXX.out] at hpr
                generalize C.getD k default = Y at hten2 hpr
                obtain ⟨th2, d2, h2, o2, n2, c2, r2, dn2, fr2, to2⟩ := Y
                obtain ⟨e0, e1, e2, e3, e4, e5, e6, e7, e8, e9⟩ := hten2
                dsimp only at e0 e1 e2 e3 e4 e5 e6 e7 e8 e9 hpr
                obtain ⟨hfr, hpr⟩ := hpr
                have j0 : (0 : Int) ≤ k := by omega
                have j1 : (k : Int) < C.length := by omega
                have j2 : (k : Int) < i := by omega
                by_cases hth : th2 = th
                · obtain ⟨rfl, hbf⟩ := hpr hth
                  subst hth
                  have hbc := fun W => before_lit th2 d2 h2 o2 n2 c2 r2 true fr2 to2 th2 d h o n c r false fr to W
                  rw [hbf] at hbc
                  have ett : (th2 == th2) = true := by simp
                  have hfd : decide (fr ≤ fr2) = false := by simpa using hfr
                  clear hbf hpr
                  simp only [cl10] at hbc
                  go_wp2_with fail
                  refine wp_region_later' z (by kernel_rfl) (by kernel_rfl) ?_
                  repeat (go_big_quiet_step ((go_at_call 44; with_reducible exact later_of _ (hbc _))))
                  refine wpQuiet_nil ?_
                  rintro _ ⟨z2, rfl⟩
                  go_wp2_with fail
                  refine wp_region_later' z2 (by kernel_rfl) (by kernel_rfl) ?_
                  repeat (go_big_quiet_step (fail))
                  refine wpQuiet_nil ?_
                  rintro _ ⟨z3, rfl⟩
                  go_wp2
                  go_roundw
                  case rel => exact ⟨k + 1, by omega, by go_num, z3, rfl⟩
                  case measure => simp [intOf]; omega
                · have ett : (th2 == th) = false := by simpa using hth
                  have hfd : decide (fr ≤ fr2) = false := by simpa using hfr
                  clear hpr
                  go_wp2_with fail
                  refine wp_region_later' z (by kernel_rfl) (by kernel_rfl) ?_
                  repeat (go_big_quiet_step (fail))
                  refine wpQuiet_nil ?_
                  rintro _ ⟨z2, rfl⟩
                  go_wp2_with fail
                  refine wp_region_later' z2 (by kernel_rfl) (by kernel_rfl) ?_
                  repeat (go_big_quiet_step (fail))
                  refine wpQuiet_nil ?_
                  rintro _ ⟨z3, rfl⟩
                  go_wp2
                  go_roundw
                  case rel => exact ⟨k + 1, by omega, by go_num, z3, rfl⟩
                  case measure => simp [intOf]; omega
              · have ek : k = i := by omega
                subst ek
                have j2 : ¬ (k : Int) < k := by omega
                go_wp2
                go_roundw
                case rel => exact ⟨k + 1, by omega, by rw [HS.out]; go_num, by go_num, z, rfl⟩
                case measure => simp [intOf]; omega
          · simp only [if_true] at hsucc
            have HS := Lib.hid hsucc
            clear hsucc
            go_wp2
            go_loopw [7] (fun v wr => ∃ k : Nat, k ≤ i ∧ v = .int .i64 k ∧ ∃ z : Later W, wr = z.at') (fun v _ => i - (intOf v).toNat)
            case atStart => exact ⟨0, by omega, rfl, y, rfl⟩
            case round =>
              obtain ⟨k, hk, rfl, z, rfl⟩ := hrel
              by_cases hki : k < i
              · have hpr := HP.out k i hki hil
                have hten2 := hat.ten k (by omega) rfl
                rw [hXX.out] at hpr
                generalize C.getD k default = Y at hten2 hpr
                obtain ⟨th2, d2, h2, o2, n2, c2, r2, dn2, fr2, to2⟩ := Y
                obtain ⟨e0, e1, e2, e3, e4, e5, e6, e7, e8, e9⟩ := hten2
                dsimp only at e0 e1 e2 e3 e4 e5 e6 e7 e8 e9 hpr
                obtain ⟨hfr, hpr⟩ := hpr
                have j0 : (0 : Int) ≤ k := by omega
                have j1 : (k : Int) < C.length := by omega
                have j2 : (k : Int) < i := by omega
                by_cases hth : th2 = th
                · obtain ⟨rfl, hbf⟩ := hpr hth
                  subst hth
                  have hbc := fun W => before_lit th2 d2 h2 o2 n2 c2 r2 true fr2 to2 th2 d h o n c r true fr to W
                  rw [hbf] at hbc
                  have ett : (th2 == th2) = true := by simp
                  have hfd : decide (fr ≤ fr2) = false := by simpa using hfr
                  clear hbf hpr
                  simp only [cl10] at hbc
                  go_wp2_with fail
                  refine wp_region_later' z (by kernel_rfl) (by kernel_rfl) ?_
                  repeat (go_big_quiet_step ((go_at_call 44; with_reducible exact later_of _ (hbc _))))
                  refine wpQuiet_nil ?_
                  rintro _ ⟨z2, rfl⟩
                  go_wp2_with fail
                  refine wp_region_later' z2 (by kernel_rfl) (by kernel_rfl) ?_
                  repeat (go_big_quiet_step (fail))
                  refine wpQuiet_nil ?_
                  rintro _ ⟨z3, rfl⟩
                  go_wp2
                  go_roundw
                  case rel => exact ⟨k + 1, by omega, by go_num, z3, rfl⟩
                  case measure => simp [intOf]; omega
                · have ett : (th2 == th) = false := by simpa using hth
                  have hfd : decide (fr ≤ fr2) = false := by simpa using hfr
                  clear hpr
                  go_wp2_with fail
                  refine wp_region_later' z (by kernel_rfl) (by kernel_rfl) ?_
                  repeat (go_big_quiet_step (fail))
                  refine wpQuiet_nil ?_
                  rintro _ ⟨z2, rfl⟩
                  go_wp2_with fail
                  refine wp_region_later' z2 (by kernel_rfl) (by kernel_rfl) ?_
                  repeat (go_big_quiet_step (fail))
                  refine wpQuiet_nil ?_
                  rintro _ ⟨z3, rfl⟩
                  go_wp2
                  go_roundw
                  case rel => exact ⟨k + 1, by omega, by go_num, z3, rfl⟩
                  case measure => simp [intOf]; omega
              · have ek : k = i := by omega
                subst ek
                have j2 : ¬ (k : Int) < k := by omega
                go_wp2
                go_roundw
                case rel => exact ⟨k + 1, by omega, by rw [HS.out]; go_num, by go_num, z, rfl⟩
                case measure => simp [intOf]; omega
        · have ei : i = C.length := by omega
          subst ei
          have i1 : ¬ (C.length : Int) < C.length := by omega
          rw [hall]
          have ell : ((l.length : Int) == (l.length : Int)) = true := by simp
          go_wp2_with (go_at_call 35; (with_reducible refine (hlv _).mono ?_); rintro _ _ ⟨rfl, x, rfl⟩)
          go_ret
          exact Ret.mk rfl (hb.trans ((y.on x.below).below.mono hb.size))
    · have hco : callsOf l = [] := by unfold callsOf; rw [e, if_neg (by decide)]
      rw [e] at c1 c3
      rw [hco] at c1
      clear e hco hcl
      go_enter Try.func11, Try.ntmps11
      go_wp2_with (first
        | (go_at_call 36; (with_reducible refine (c1 _ hE).mono ?_); rintro _ _ ⟨v1, rfl, x1, rfl, hO1⟩; obtain ⟨p1, q1, rfl, hP1⟩ := hO1.sliceP; have hE2 := hE.later x1)
        | (go_at_call 40; (with_reducible refine (c3 _ hE2).mono ?_); rintro _ _ ⟨rfl, x5, rfl⟩)
        | (go_at_call 35; (with_reducible refine (hlv _).mono ?_); rintro _ _ ⟨rfl, x6, rfl⟩))
      go_ret
      exact Ret.mk rfl ((x1.on x5.below).on x6.below).below
end Go.Proofs.Ytfjgmggpkljphaa
