/-
  EventCut, walked: of events that lie in memory.
  Conditions: that the events lie in memory.
-/
import Derived.Test.YtfjgmggpkljphaaEventTurnsLaw
namespace Go.Proofs.Ytfjgmggpkljphaa
open Go.RowKit
attribute [local go_sem] Later.cell Later.frozen Later.lt Later.le
set_option linter.unusedVariables false
set_option maxRecDepth 4000

/-- Of a history that is cut off each call is as it was, but for its answer. -/
theorem cut_pair {l : List Ev} {a : Nat} (ha : a ≤ l.length) :
    (callsTo (l.take a) (l.take a).length).length ≤ (callsTo l l.length).length ∧ ∀ i, i < (callsTo l l.length).length →
      ((((callsTo l l.length).getD i default).fr < a ↔ i < (callsTo (l.take a) (l.take a).length).length) ∧
        (i < (callsTo (l.take a) (l.take a).length).length → ∃ c r to, (callsTo (l.take a) (l.take a).length).getD i default =
          { (callsTo l l.length).getD i default with c := c, r := r, done := ((callsTo l l.length).getD i default).done && decide (((callsTo l l.length).getD i default).to < a), to := to })) := by
  obtain ⟨h1, h2⟩ := cut_calls ha
  refine ⟨by rw [callsTo_len, callsTo_len]; exact h1, fun i hi => ?_⟩
  have hi' : i < (asksTo l l.length).length := by rwa [callsTo_len] at hi
  obtain ⟨h3, h4⟩ := h2 i hi'
  rw [callsTo_getD hi, callsTo_len]
  have hq := asksTo_get hi'
  have hfr : ∀ q, (callAt l q).fr = q := fun q => by unfold callAt; split <;> rfl
  refine ⟨by rw [hfr, ← h3]; omega, fun hb => ?_⟩
  rw [callsTo_getD (by rwa [callsTo_len]), h4 hb]
  have hqa := h3.2 hb
  generalize (asksTo l l.length).getD i 0 = q at hq hqa ⊢
  have hlen : (l.take a).length = a := by rw [List.length_take]; omega
  have hev : evAt (l.take a) q = evAt l q := take_at hqa
  have hans := ans_take ha hqa
  by_cases c : ansN l q < a
  · rw [if_pos c] at hans
    rw [callAt_some hans (by omega), callAt_some (l := l) rfl (by omega), hev]
    exact ⟨_, _, _, by simp [c]; exact ⟨rfl, rfl, rfl⟩⟩
  · rw [if_neg c] at hans
    rw [callAt_none hans (by omega), hev]
    by_cases c2 : ansN l q < l.length
    · rw [callAt_some (l := l) rfl c2]
      exact ⟨_, _, _, by simp; exact ⟨rfl, rfl, by omega, rfl⟩⟩
    · rw [callAt_none (l := l) rfl c2]
      exact ⟨_, _, _, by simp; exact ⟨rfl, rfl, rfl⟩⟩
theorem EvsP.take {w : World} {p : Option Addr} {l : List Ev} (h : EvsP w p l) (a : Nat) : EvsP w p (l.take a) := fun hne => by
  obtain ⟨b, off, e, hE⟩ := h (by rintro rfl; simp at hne)
  have hi : ∀ i, i < (l.take a).length → i < l.length ∧ evAt (l.take a) i = evAt l i := fun i hi => by
    rw [List.length_take] at hi
    exact ⟨by omega, take_at (by omega)⟩
  refine ⟨b, off, e, hE.lt, ?_, ?_, ?_, ?_, ?_, ?_, ?_, ?_⟩ <;> intro i h <;> obtain ⟨h1, h2⟩ := hi i h <;> rw [h2]
  · exact hE.c0 i h1
  · exact hE.c1 i h1
  · exact hE.c2 i h1
  · exact hE.c3 i h1
  · exact hE.c4 i h1
  · exact hE.c5 i h1
  · exact hE.c6 i h1
  · exact hE.c7 i h1

set_option maxHeartbeats 4000000 in
theorem EventCut_true {p : Option Addr} {cap : Nat} {l : List Ev} {w : World} (hE : EvsP w p l) (hm : l.length ≤ maxLen) (hcap : l.length ≤ cap) (x : Int) : Calls Try.prog 12 #[.slice p l.length cap, .int .i64 x] w (Ret w (.bool true)) := by
  have hlv := fun W => live_true W
  by_cases hl : 60 < l.length
  · have h60 : (60 : Int) < l.length := by omega
    go_enter Try.func12, Try.ntmps12
    go_wp2_with (go_at_call 35; (with_reducible refine (hlv _).mono ?_); rintro _ _ ⟨rfl, x1, rfl⟩)
    go_ret
    exact Ret.mk rfl x1.below
  have h60 : ¬ (60 : Int) < l.length := by omega
  by_cases hx0 : x < 0
  · go_enter Try.func12, Try.ntmps12
    go_wp2_with (go_at_call 35; (with_reducible refine (hlv _).mono ?_); rintro _ _ ⟨rfl, x1, rfl⟩)
    go_ret
    exact Ret.mk rfl x1.below
  by_cases hx1 : (l.length : Int) < x
  · go_enter Try.func12, Try.ntmps12
    go_wp2_with (go_at_call 35; (with_reducible refine (hlv _).mono ?_); rintro _ _ ⟨rfl, x1, rfl⟩)
    go_ret
    exact Ret.mk rfl x1.below
  obtain ⟨a, rfl⟩ : ∃ a : Nat, x = a := ⟨x.toNat, by omega⟩
  have ha : a ≤ l.length := by omega
  have c3 := fun (W : World) (h : EvsP W p l) => Check_p (cap := cap) h (by omega)
  rcases histE_cases l with ⟨H, e⟩ | ⟨_, e⟩
  · have c1 := fun (W : World) (h : EvsP W p l) => Calls_p (cap := cap) h (by omega)
    have c2 := fun (W : World) (h : EvsP W p (l.take a)) => Calls_p (cap := cap) h (by rw [List.length_take]; omega)
    have hcl := callsOf_le l
    have hco : callsOf l = callsTo l l.length := by unfold callsOf; rw [e, if_pos rfl]
    have e2 := histE_ok (hist_take H a)
    have hco2 : callsOf (l.take a) = callsTo (l.take a) (l.take a).length := by unfold callsOf; rw [e2, if_pos rfl]
    obtain ⟨hle, hpair⟩ := cut_pair ha
    have hln : (l.take a).length = a := by rw [List.length_take]; omega
    have hE' := fun (W : World) (h : EvsP W p l) => h.take a
    rw [e] at c1 c3
    rw [e2, hco2, hln] at c2
    rw [hln] at hle hpair
    rw [hco] at c1 hcl
    clear e hco H e2 hco2 hln
    generalize callsTo l l.length = C at c1 hcl hpair hle
    generalize callsTo (l.take a) a = B at c2 hpair hle
    have HP := Lib.hid hpair
    clear hpair
    have a0 : (0 : Int) ≤ a := by omega
    have a1 : (a : Int) ≤ l.length := by omega
    have a2 : (a : Int) ≤ cap := by omega
    have hle3 : decide (C.length < B.length) = false := by simp; omega
    go_enter Try.func12, Try.ntmps12
    go_wp2_with (first
      | (go_at_call 40; (with_reducible refine (c3 _ hE).mono ?_); rintro _ _ ⟨rfl, x3, rfl⟩; have hE3 := hE.later x3)
      | (go_at_call 36; (with_reducible refine (c1 _ hE3).mono ?_); rintro _ _ ⟨v1, rfl, x1, rfl, hO1⟩; have hE1 := hE' _ (hE3.later x1)))
    go_wp2_with (go_at_call 36; (with_reducible refine (c2 _ hE1).mono ?_); rintro _ _ ⟨v2, rfl, x2, rfl, hO2⟩; obtain ⟨p1, q1, rfl, hP1⟩ := (hO1.later x2).sliceP; obtain ⟨p2, q2, rfl, hP2⟩ := hO2.sliceP)
    have hb : Below w.heap.size w x2.at' := ((x3.on x1.below).on x2.below).below
    clear hO1 hO2 c1 c2 c3 hE3 hE1 hE'
    generalize x2.at' = W at *
    go_loopw [9] (fun v wr => ∃ k : Nat, k ≤ C.length ∧ v = .int .i64 k ∧ ∃ y : Later W, wr = y.at') (fun v _ => C.length - (intOf v).toNat)
    case atStart => exact ⟨0, by omega, rfl, ⟨W, Below.refl _ _⟩, rfl⟩
    case round =>
      obtain ⟨i, hi, rfl, y, rfl⟩ := hrel
      by_cases hil : i < C.length
      · obtain ⟨g, rfl, hg, hat⟩ := hP1 (by rintro rfl; simp at hil)
        have hten := hat.ten i hil rfl
        have hpr := HP.out i hil
        have i0 : (0 : Int) ≤ i := by omega
        have i1 : (i : Int) < C.length := by omega
        generalize C.getD i default = X at hten hpr
        obtain ⟨th, d, h, o, n, c, r, dn, fr, to⟩ := X
        obtain ⟨b0, b1, b2, b3, b4, b5, b6, b7, b8, b9⟩ := hten
        dsimp only at b0 b1 b2 b3 b4 b5 b6 b7 b8 b9 hpr
        obtain ⟨hiff, hpr⟩ := hpr
        by_cases hib : i < B.length
        · obtain ⟨c2, r2, to2, hB⟩ := hpr hib
          obtain ⟨g2, rfl, hg2, hat2⟩ := hP2 (by rintro rfl; simp at hib)
          have hten2 := hat2.ten i hib hB
          have hfa := hiff.2 hib
          have i2 : (i : Int) < B.length := by omega
          obtain ⟨e0, e1, e2, e3, e4, e5, e6, e7, e8, e9⟩ := hten2
          dsimp only at e0 e1 e2 e3 e4 e5 e6 e7 e8 e9
          clear hpr hB hiff
          have er : ∀ u : Bool, (u != u) = false := fun u => by cases u <;> rfl
          have er2 : ∀ u : Int, (u != u) = false := fun u => by simp
          cases dn
          · simp only [Bool.false_and] at e7
            go_wp2_with fail
            refine wp_region_later' y (by kernel_rfl) (by kernel_rfl) ?_
            repeat (go_big_quiet_step (fail))
            refine wpQuiet_nil ?_
            rintro _ ⟨z, rfl⟩
            go_wp2
            go_roundw
            case rel => exact ⟨i + 1, by omega, by go_num, z, rfl⟩
            case measure => simp [intOf]; omega
          · by_cases hto : to < (a : Int)
            · simp only [Bool.true_and, hto, decide_true] at e7
              go_wp2_with fail
              refine wp_region_later' y (by kernel_rfl) (by kernel_rfl) ?_
              repeat (go_big_quiet_step (fail))
              refine wpQuiet_nil ?_
              rintro _ ⟨z, rfl⟩
              go_wp2
              go_roundw
              case rel => exact ⟨i + 1, by omega, by go_num, z, rfl⟩
              case measure => simp [intOf]; omega
            · simp only [Bool.true_and, hto, decide_false] at e7
              go_wp2_with fail
              refine wp_region_later' y (by kernel_rfl) (by kernel_rfl) ?_
              repeat (go_big_quiet_step (fail))
              refine wpQuiet_nil ?_
              rintro _ ⟨z, rfl⟩
              go_wp2
              go_roundw
              case rel => exact ⟨i + 1, by omega, by go_num, z, rfl⟩
              case measure => simp [intOf]; omega
        · have hfa : ¬ fr < (a : Int) := fun h => hib (hiff.1 h)
          have i2 : ¬ (i : Int) < B.length := by omega
          clear hpr hiff
          go_wp2
          go_roundw
          case rel => exact ⟨i + 1, by omega, by go_num, y, rfl⟩
          case measure => simp [intOf]; omega
      · have ei : i = C.length := by omega
        subst ei
        have i1 : ¬ (C.length : Int) < C.length := by omega
        go_wp2_with (go_at_call 35; (with_reducible refine (hlv _).mono ?_); rintro _ _ ⟨rfl, x9, rfl⟩)
        go_ret
        exact Ret.mk rfl (hb.trans ((y.on x9.below).below.mono hb.size))
  · rw [e] at c3
    clear e
    go_enter Try.func12, Try.ntmps12
    go_wp2_with (first
      | (go_at_call 40; (with_reducible refine (c3 _ hE).mono ?_); rintro _ _ ⟨rfl, x3, rfl⟩)
      | (go_at_call 35; (with_reducible refine (hlv _).mono ?_); rintro _ _ ⟨rfl, x1, rfl⟩))
    go_ret
    exact Ret.mk rfl (x3.on x1.below).below
end Go.Proofs.Ytfjgmggpkljphaa
