/-
  The statement ModelCounts of layer 7, walked: true, whatever the two numbers are.
  Conditions: none.
-/
import Derived.Test.YtfjgmggpkljphaaMdLiveAny
namespace Go.Proofs.Ytfjgmggpkljphaa
open Go.RowKit Go.Maps Go
attribute [local go_sem] Later.cell Later.frozen Later.lt Later.le
set_option linter.unusedVariables false
set_option linter.unusedSimpArgs false
set_option maxRecDepth 4000

/-- The map of one object, of m bytes, pinned p times. -/
def csS (m : Nat) (p : Int) : St := ⟨[⟨1099511627776, List.replicate m 0, p⟩], [1099511627776]⟩
theorem isH0 : isH 1099511627776 = true := by decide +kernel
theorem csGood {m : Nat} {p : Int} (hm : 1 ≤ m ∧ m ≤ 256) (hp : 0 ≤ p ∧ p ≤ 7) : Good (csS m p) := by
  refine ⟨by simp [csS], by simp [csS], fun x hx => ?_, fun h hh => ?_⟩
  · obtain rfl : x = ⟨1099511627776, List.replicate m 0, p⟩ := by simpa [csS] using hx
    refine ⟨fun e => ?_, by simp; omega, hp.1, hp.2, by simp [csS]⟩
    have := congrArg List.length e
    simp at this
    omega
  · obtain rfl : h = 1099511627776 := by simpa [csS] using hh
    exact isH0
theorem cs_alloc {m : Nat} (hm : 1 ≤ m ∧ m ≤ 256) : tryB St.none 0 0 0 m 0 1099511627776 = true ∧ tryS St.none 0 0 0 m 0 1099511627776 = csS m 0 := by
  have hr : rdB (m : Int) = true := rdB_true (by omega)
  have ha : ansH 0 m = false := by simp [ansH, hr]
  have hb : newB St.none 1099511627776 = true := by simp [newB, isH0, St.none]
  refine ⟨by unfold tryB; rw [ha, if_neg (by decide), if_neg (by decide), if_pos rfl, hb], ?_⟩
  unfold tryS
  rw [ha, if_neg (by decide), if_pos ⟨rfl, hb⟩]
  simp [newS, csS, putO, delO, insO, putT, insT, St.none]
theorem cs_get (m : Nat) (p : Int) : getO (csS m p).L 1099511627776 = some ⟨1099511627776, List.replicate m 0, p⟩ := by simp [getO, csS]
theorem cs_pin {m : Nat} {p : Int} (hp : 0 ≤ p ∧ p < 7) : tryB (csS m p) 4 1099511627776 0 0 0 0 = true ∧ tryS (csS m p) 4 1099511627776 0 0 0 0 = csS m (p + 1) := by
  have hp' : ¬ p = 7 := by omega
  have hE : ansE (csS m p) 4 1099511627776 0 0 = 0 := by simp [ansE, cs_get, obE, hp']
  have hN : ansN' (csS m p) 4 1099511627776 0 0 = 0 := by simp [ansN', cs_get, obN]
  have ha : ansH 4 0 = true := by simp [ansH]
  refine ⟨by simp [tryB, ha, hE, hN], ?_⟩
  simp [tryS, ha, hE, hN, doS, cs_get, obB]
  simp [csS, putO, delO, insO]
theorem cs_over {m : Nat} : tryB (csS m 7) 4 1099511627776 0 0 7 0 = true ∧ tryS (csS m 7) 4 1099511627776 0 0 7 0 = csS m 7 := by
  have hE : ansE (csS m 7) 4 1099511627776 0 0 = 7 := by simp [ansE, cs_get, obE]
  have hN : ansN' (csS m 7) 4 1099511627776 0 0 = 0 := by simp [ansN', cs_get, obN]
  have ha : ansH 4 0 = true := by simp [ansH]
  exact ⟨by simp [tryB, ha, hE, hN], by simp [tryS, ha, hE, hN]⟩
theorem cs_free {m : Nat} {p : Int} (hp : 0 < p) : tryB (csS m p) 1 1099511627776 0 0 6 0 = true ∧ tryS (csS m p) 1 1099511627776 0 0 6 0 = csS m p := by
  have hE : ansE (csS m p) 1 1099511627776 0 0 = 6 := by simp [ansE, cs_get, obE, hp]
  have hN : ansN' (csS m p) 1 1099511627776 0 0 = 0 := by simp [ansN', cs_get, obN]
  have ha : ansH 1 0 = true := by simp [ansH]
  exact ⟨by simp [tryB, ha, hE, hN], by simp [tryS, ha, hE, hN]⟩
theorem cs_unpin {m : Nat} {p : Int} (hp : 0 < p) : tryB (csS m p) 5 1099511627776 0 0 0 0 = true ∧ tryS (csS m p) 5 1099511627776 0 0 0 0 = csS m (p - 1) := by
  have hp' : ¬ p = 0 := by omega
  have hE : ansE (csS m p) 5 1099511627776 0 0 = 0 := by simp [ansE, cs_get, obE, hp']
  have hN : ansN' (csS m p) 5 1099511627776 0 0 = 0 := by simp [ansN', cs_get, obN]
  have ha : ansH 5 0 = true := by simp [ansH]
  refine ⟨by simp [tryB, ha, hE, hN], ?_⟩
  simp [tryS, ha, hE, hN, doS, cs_get, obB]
  simp [csS, putO, delO, insO]
theorem cs_not {m : Nat} : tryB (csS m 0) 5 1099511627776 0 0 8 0 = true ∧ tryS (csS m 0) 5 1099511627776 0 0 8 0 = csS m 0 := by
  have hE : ansE (csS m 0) 5 1099511627776 0 0 = 8 := by simp [ansE, cs_get, obE]
  have hN : ansN' (csS m 0) 5 1099511627776 0 0 = 0 := by simp [ansN', cs_get, obN]
  have ha : ansH 5 0 = true := by simp [ansH]
  exact ⟨by simp [tryB, ha, hE, hN], by simp [tryS, ha, hE, hN]⟩
def csE : St := ⟨[], [1099511627776]⟩
theorem cs_last {m : Nat} : tryB (csS m 0) 1 1099511627776 0 0 0 0 = true ∧ tryS (csS m 0) 1 1099511627776 0 0 0 0 = csE := by
  have hE : ansE (csS m 0) 1 1099511627776 0 0 = 0 := by simp [ansE, cs_get, obE]
  have hN : ansN' (csS m 0) 1 1099511627776 0 0 = 0 := by simp [ansN', cs_get, obN]
  have ha : ansH 1 0 = true := by simp [ansH]
  refine ⟨by simp [tryB, ha, hE, hN], ?_⟩
  simp [tryS, ha, hE, hN, doS]
  simp [csS, csE, delO]
theorem csEGood : Good csE := by
  refine ⟨by simp [csE], by simp [csE], by simp [csE], fun h hh => ?_⟩
  obtain rfl : h = 1099511627776 := by simpa [csE] using hh
  exact isH0
abbrev TryC (w W : World) (g : Nat) (d c r n : Int) (h : Int) (S' : St) : Prop :=
  Calls Try.prog 23 #[.pointer (some ⟨g, 0, none⟩), .agg #[.int .i64 d, .int .i64 h, .int .i64 0, .int .i64 n], .agg #[.int .i64 c, .int .i64 r]] W (fun en w' => en = .returned (.bool true) ∧ PM w w' g S' [])
section
variable {w W : World} {g m : Nat} {p : Int}
theorem csLen : (csS m p).L.length ≤ 1000 ∧ (csS m p).T.length ≤ 1000 := by simp [csS]
theorem tc_of {S S' : St} {d c r n h : Int} (P : PM w W g S []) (G : Good S) (hN : S.L.length ≤ 1000 ∧ S.T.length ≤ 1000) (hw : (Lit.int .i64 h).wf = true) (hwr : (Lit.int .i64 r).wf = true) (e : tryB S d h 0 n c r = true ∧ tryS S d h 0 n c r = S') : TryC w W g d c r n h S' := by
  refine (P.try G hN d h 0 n c r hw hwr).mono ?_
  rintro en w' ⟨h1, h2, _⟩
  rw [e.1] at h1
  rw [e.2] at h2
  exact ⟨h1, h2⟩
theorem tc_alloc (P : PM w W g St.none []) (hm : 1 ≤ m ∧ m ≤ 256) : TryC w W g 0 0 1099511627776 m 0 (csS m 0) := tc_of P Good.none (by decide) rfl rfl (cs_alloc hm)
theorem tc_pin (P : PM w W g (csS m p) []) (hm : 1 ≤ m ∧ m ≤ 256) (hp : 0 ≤ p ∧ p < 7) : TryC w W g 4 0 0 0 1099511627776 (csS m (p + 1)) := tc_of P (csGood hm (by omega)) csLen rfl rfl (cs_pin hp)
theorem tc_over (P : PM w W g (csS m 7) []) (hm : 1 ≤ m ∧ m ≤ 256) : TryC w W g 4 7 0 0 1099511627776 (csS m 7) := tc_of P (csGood hm (by omega)) csLen rfl rfl cs_over
theorem tc_free (P : PM w W g (csS m p) []) (hm : 1 ≤ m ∧ m ≤ 256) (hp : 0 < p ∧ p ≤ 7) : TryC w W g 1 6 0 0 1099511627776 (csS m p) := tc_of P (csGood hm (by omega)) csLen rfl rfl (cs_free hp.1)
theorem tc_unpin (P : PM w W g (csS m p) []) (hm : 1 ≤ m ∧ m ≤ 256) (hp : 0 < p ∧ p ≤ 7) : TryC w W g 5 0 0 0 1099511627776 (csS m (p - 1)) := tc_of P (csGood hm (by omega)) csLen rfl rfl (cs_unpin hp.1)
theorem tc_not (P : PM w W g (csS m 0) []) (hm : 1 ≤ m ∧ m ≤ 256) : TryC w W g 5 8 0 0 1099511627776 (csS m 0) := tc_of P (csGood hm (by omega)) csLen rfl rfl cs_not
theorem tc_last (P : PM w W g (csS m 0) []) (hm : 1 ≤ m ∧ m ≤ 256) : TryC w W g 1 0 0 0 1099511627776 csE := tc_of P (csGood hm (by omega)) csLen rfl rfl cs_last
theorem tc_live (P : PM w W g csE []) : Calls Try.prog 26 #[.pointer (some ⟨g, 0, none⟩)] W (IntsRet W []) := by
  obtain ⟨bo, bt, hM, _⟩ := P
  exact Live_any hM csEGood (by simp [csE])
end

set_option maxHeartbeats 4000000 in
theorem ModelCounts_any (sz n : Int) (w : World) : Calls Try.prog 7 #[.int .i64 sz, .int .i64 n] w (Ret w (.bool true)) := by
  have cm := fun W => refMake_any 0 0 W
  have em : mkV 0 0 = 1099511627776 := by decide +kernel
  have ee : mkE 0 0 = 0 := by decide +kernel
  rw [em, ee] at cm
  clear em ee
  have hlv := fun W => live_any W
  by_cases hc : 0 ≤ n ∧ n ≤ 20 ∧ 1 ≤ sz ∧ sz ≤ 256
  · obtain ⟨n0, n1, s0, s1⟩ := hc
    obtain ⟨m, rfl⟩ : ∃ m : Nat, sz = (m : Int) := ⟨sz.toNat, by omega⟩
    obtain ⟨N, rfl⟩ : ∃ N : Nat, n = (N : Int) := ⟨n.toNat, by omega⟩
    have hm : 1 ≤ m ∧ m ≤ 256 := by omega
    have hN : N ≤ 20 := by omega
    go_enter Try.func7, Try.ntmps7
    go_wp2_with (first
      | (go_at_call 17; (with_reducible refine (New_any _).mono ?_); rintro _ _ ⟨rfl, rfl⟩; have P0 := PM.new w)
      | (go_at_call 34; (with_reducible refine (cm _).mono ?_); rintro _ _ ⟨rfl, rfl⟩)
      | (go_at_call 23; (with_reducible refine (tc_alloc P0 hm).mono ?_); rintro _ w1 ⟨rfl, P1⟩))
    go_loopw [8] (fun v wr => ∃ k : Nat, k ≤ N ∧ v = .int .i64 k ∧ PM w wr w.heap.size (csS m ((min k 7 : Nat) : Int)) []) (fun v _ => N - (intOf v).toNat)
    case atStart => exact ⟨0, by omega, rfl, P1⟩
    case round =>
      obtain ⟨k, hk, rfl, P⟩ := hrel
      by_cases hkn : k < N
      · have i1 : (k : Int) < N := by omega
        by_cases h7 : k < 7
        · have i2 : ¬ (7 : Int) ≤ k := by omega
          rw [show min k 7 = k by omega] at P
          have T := tc_pin (P.alloc (.cells #[.int .i64 0, .int .i64 0] 35)) hm (by omega)
          go_wp2_with (first
            | (go_at_call 23; (with_reducible refine T.mono ?_); rintro _ w2 ⟨rfl, P2⟩))
          go_roundw
          case rel => exact ⟨k + 1, by omega, by go_num, by rw [show ((min (k + 1) 7 : Nat) : Int) = (k : Int) + 1 by omega]; exact P2⟩
          case measure => simp [intOf]; omega
        · have i2 : (7 : Int) ≤ k := by omega
          rw [show min k 7 = 7 by omega] at P
          have T := tc_over (P.alloc (.cells #[.int .i64 7, .int .i64 0] 35)) hm
          go_wp2_with (first
            | (go_at_call 23; (with_reducible refine T.mono ?_); rintro _ w2 ⟨rfl, P2⟩))
          go_roundw
          case rel => exact ⟨k + 1, by omega, by go_num, by rw [show ((min (k + 1) 7 : Nat) : Int) = 7 by omega]; exact P2⟩
          case measure => simp [intOf]; omega
      · have i1 : ¬ (k : Int) < N := by omega
        obtain rfl : k = N := by omega
        obtain ⟨Q, hQ⟩ : ∃ Q : Nat, Q = min k 7 := ⟨_, rfl⟩
        rw [← hQ] at P
        have hQ7 : Q ≤ 7 := by omega
        have hmin : ∀ W ty, (Builtin.min_ #[3, 3] ty #[.int .i64 k, .int .i64 7]).run Try.prog W = .ok (.int .i64 Q) W := fun W ty => by
          rw [run_min_int2]
          have e : (if (7 : Int) < (k : Int) then (7 : Int) else (k : Int)) = (Q : Int) := by split <;> omega
          rw [e]
        clear hQ
        go_wp2
        go_loopw [10] (fun v wr => ∃ j : Nat, j ≤ Q ∧ v = .int .i64 j ∧ PM w wr w.heap.size (csS m ((Q : Int) - j)) []) (fun v _ => Q - (intOf v).toNat)
        case atStart => exact ⟨0, by omega, rfl, by simpa using P⟩
        case round =>
          obtain ⟨j, hj, rfl, P⟩ := hrel
          by_cases hjn : j < Q
          · have i3 : (j : Int) < Q := by omega
            have T1 := tc_free P hm (by omega)
            go_wp2_with (first
              | (go_at_call 23; (with_reducible refine T1.mono ?_); rintro _ w2 ⟨rfl, P2⟩; have T2 := tc_unpin P2 hm (by omega))
              | (go_at_call 23; (with_reducible refine T2.mono ?_); rintro _ w3 ⟨rfl, P3⟩))
            go_roundw
            case rel => exact ⟨j + 1, by omega, by go_num, by rw [show (Q : Int) - ((j + 1 : Nat) : Int) = (Q : Int) - j - 1 by omega]; exact P3⟩
            case measure => simp [intOf]; omega
          · have i3 : ¬ (j : Int) < Q := by omega
            obtain rfl : j = Q := by omega
            rw [show (j : Int) - (j : Int) = 0 by omega] at P
            have T1 := tc_not P hm
            go_wp2_with (first
              | (go_at_call 23; (with_reducible refine T1.mono ?_); rintro _ w2 ⟨rfl, P2⟩; have T2 := tc_last P2 hm)
              | (go_at_call 23; (with_reducible refine T2.mono ?_); rintro _ w3 ⟨rfl, P3⟩; have T3 := tc_live P3)
              | (go_at_call 26; (with_reducible refine T3.mono ?_); rintro _ _ ⟨v9, rfl, y9, rfl, hO9⟩; obtain ⟨p9, k9, rfl, _⟩ := hO9.slice'' 0 rfl; have P4 := P3.later y9)
              | (go_at_call 16; (with_reducible refine (hlv _).mono ?_); rintro _ _ ⟨rfl, x, rfl⟩))
            go_ret
            exact Ret.mk rfl (Snc.later (show Snc w y9.at' from P4.size) x)
  · by_cases a1 : n < 0
    · go_enter Try.func7, Try.ntmps7
      go_wp2_with (first
        | (go_at_call 17; (with_reducible refine (New_any _).mono ?_); rintro _ _ ⟨rfl, rfl⟩)
        | (go_at_call 34; (with_reducible refine (cm _).mono ?_); rintro _ _ ⟨rfl, rfl⟩)
        | (go_at_call 16; (with_reducible refine (hlv _).mono ?_); rintro _ _ ⟨rfl, x, rfl⟩))
      go_ret
      exact Ret.mk rfl (Snc.later (show Snc w _ from (PM.new w).size) x)
    · by_cases a2 : 20 < n
      · go_enter Try.func7, Try.ntmps7
        go_wp2_with (first
          | (go_at_call 17; (with_reducible refine (New_any _).mono ?_); rintro _ _ ⟨rfl, rfl⟩)
          | (go_at_call 34; (with_reducible refine (cm _).mono ?_); rintro _ _ ⟨rfl, rfl⟩)
          | (go_at_call 16; (with_reducible refine (hlv _).mono ?_); rintro _ _ ⟨rfl, x, rfl⟩))
        go_ret
        exact Ret.mk rfl (Snc.later (show Snc w _ from (PM.new w).size) x)
      · by_cases a3 : sz < 1
        · go_enter Try.func7, Try.ntmps7
          go_wp2_with (first
            | (go_at_call 17; (with_reducible refine (New_any _).mono ?_); rintro _ _ ⟨rfl, rfl⟩)
            | (go_at_call 34; (with_reducible refine (cm _).mono ?_); rintro _ _ ⟨rfl, rfl⟩)
            | (go_at_call 16; (with_reducible refine (hlv _).mono ?_); rintro _ _ ⟨rfl, x, rfl⟩))
          go_ret
          exact Ret.mk rfl (Snc.later (show Snc w _ from (PM.new w).size) x)
        · have a4 : 256 < sz := by omega
          go_enter Try.func7, Try.ntmps7
          go_wp2_with (first
            | (go_at_call 17; (with_reducible refine (New_any _).mono ?_); rintro _ _ ⟨rfl, rfl⟩)
            | (go_at_call 34; (with_reducible refine (cm _).mono ?_); rintro _ _ ⟨rfl, rfl⟩)
            | (go_at_call 16; (with_reducible refine (hlv _).mono ?_); rintro _ _ ⟨rfl, x, rfl⟩))
          go_ret
          exact Ret.mk rfl (Snc.later (show Snc w _ from (PM.new w).size) x)
end Go.Proofs.Ytfjgmggpkljphaa
