/-
  EventApart, walked: of events that lie in memory.
  Conditions: that the events lie in memory.
-/
import Derived.Test.YtfjgmggpkljphaaEventHandlesLaw
import Derived.Test.YtfjgmggpkljphaaEventTurnsLaw
namespace Go.Proofs.Ytfjgmggpkljphaa
open Go.RowKit
attribute [local go_sem] Later.cell Later.frozen Later.lt Later.le
set_option linter.unusedVariables false
set_option maxRecDepth 4000

theorem apart_pair {l k : List Ev} (U : Unlike l k) (h1 : ∀ j, j < l.length → (evAt l j).th ≤ 1) (h2 : ∀ j, j < k.length → 2 ≤ (evAt k j).th) :
    ∀ i j, i < (callsTo (l ++ k) (l ++ k).length).length → j < (callsTo (l ++ k) (l ++ k).length).length → ((callsTo (l ++ k) (l ++ k).length).getD i default).th < 2 → 2 ≤ ((callsTo (l ++ k) (l ++ k).length).getD j default).th →
      clBefore ((callsTo (l ++ k) (l ++ k).length).getD i default) ((callsTo (l ++ k) (l ++ k).length).getD j default) = ((callsTo (l ++ k) (l ++ k).length).getD i default).done := by
  intro i j hi hj t1 t2
  rw [callsTo_getD hi] at t1 ⊢
  rw [callsTo_getD hj] at t2 ⊢
  have hi' : i < (asksTo (l ++ k) (l ++ k).length).length := by rwa [callsTo_len] at hi
  have hj' : j < (asksTo (l ++ k) (l ++ k).length).length := by rwa [callsTo_len] at hj
  obtain ⟨a1, a2⟩ := asksTo_get hi'
  obtain ⟨b1, b2⟩ := asksTo_get hj'
  generalize (asksTo (l ++ k) (l ++ k).length).getD i 0 = a at a1 a2 t1 ⊢
  generalize (asksTo (l ++ k) (l ++ k).length).getD j 0 = b at b1 b2 t2 ⊢
  have eth : ∀ q, (callAt (l ++ k) q).th = (evAt (l ++ k) q).th := fun q => by unfold callAt; split <;> rfl
  have efr : ∀ q, (callAt (l ++ k) q).fr = q := fun q => by unfold callAt; split <;> rfl
  rw [eth] at t1 t2
  have ha : a < l.length := by
    rcases Nat.lt_or_ge a l.length with h | h
    · exact h
    · obtain ⟨q, rfl⟩ : ∃ q, a = l.length + q := ⟨a - l.length, by omega⟩
      rw [app_right] at t1
      rw [List.length_append] at a1
      have := h2 q (by omega)
      omega
  have hb : l.length ≤ b := by
    rcases Nat.lt_or_ge b l.length with h | h
    · rw [app_left h] at t2
      have := h1 b h
      omega
    · exact h
  have hans := ans_app U ha
  unfold clBefore
  rw [efr]
  by_cases c : ansN l a < l.length
  · rw [if_pos c] at hans
    rw [callAt_some hans (by rw [List.length_append]; omega)]
    simp; omega
  · rw [if_neg c] at hans
    rw [callAt_none hans (Nat.lt_irrefl _)]
    rfl
theorem EvRow.take {w : World} {base : Nat} {v : Value} {l k : List Ev} {j : Nat} (h : w.ownsRow base 77 8 v ((l ++ k.take j).length + 1) (evsCells (l ++ k.take j) ++ evCells (evAt k j))) (hj : j < k.length) : EvRow w base v (l ++ k.take (j + 1)) := by
  have e : l ++ k.take (j + 1) = (l ++ k.take j) ++ [evAt k j] := by
    rw [List.take_succ_eq_append_getElem hj, List.append_assoc]
    simp [evAt, hj]
  have e2 : evsCells [evAt k j] = evCells (evAt k j) := by simp [evsCells]
  rw [e]
  exact EvRow.app (by rw [e2]; exact h)

set_option maxHeartbeats 4000000 in
theorem EventApart_true {p : Option Addr} {cap : Nat} {l : List Ev} {w : World} (hE : EvsP w p l) (hm : l.length ≤ maxLen) {q : Option Addr} {cap2 : Nat} {k : List Ev} (hF : EvsP w q k) (hm2 : k.length ≤ maxLen) :
    Calls Try.prog 13 #[.slice p l.length cap, .slice q k.length cap2] w (Ret w (.bool true)) := by
  have hlv := fun W => live_true W
  by_cases hl : 20 < l.length
  · have h60 : (20 : Int) < l.length := by omega
    go_enter Try.func13, Try.ntmps13
    go_wp2_with (go_at_call 35; (with_reducible refine (hlv _).mono ?_); rintro _ _ ⟨rfl, x1, rfl⟩)
    go_ret
    exact Ret.mk rfl x1.below
  have h60 : ¬ (20 : Int) < l.length := by omega
  by_cases hk : 20 < k.length
  · have h61 : (20 : Int) < k.length := by omega
    go_enter Try.func13, Try.ntmps13
    go_wp2_with (go_at_call 35; (with_reducible refine (hlv _).mono ?_); rintro _ _ ⟨rfl, x1, rfl⟩)
    go_ret
    exact Ret.mk rfl x1.below
  have h61 : ¬ (20 : Int) < k.length := by omega
  have c1 := fun (W : World) (h : EvsP W p l) => Check_p (cap := cap) h (by omega)
  have c2 := fun (W : World) (h : EvsP W q k) => Check_p (cap := cap2) h (by omega)
  rcases histE_cases l with ⟨H, e⟩ | ⟨_, e⟩
  case inr =>
    rw [e] at c1
    clear e
    go_enter Try.func13, Try.ntmps13
    go_wp2_with (first
      | (go_at_call 40; (with_reducible refine (c1 _ hE).mono ?_); rintro _ _ ⟨rfl, x3, rfl⟩)
      | (go_at_call 35; (with_reducible refine (hlv _).mono ?_); rintro _ _ ⟨rfl, x1, rfl⟩))
    go_ret
    exact Ret.mk rfl (x3.on x1.below).below
  rw [e] at c1
  clear e
  rcases histE_cases k with ⟨K, e⟩ | ⟨_, e⟩
  case inr =>
    rw [e] at c2
    clear e
    go_enter Try.func13, Try.ntmps13
    go_wp2_with (go_at_call 40; (with_reducible refine (c1 _ hE).mono ?_); rintro _ _ ⟨rfl, x3, rfl⟩)
    go_wp2_with (first
      | (go_at_call 40; (with_reducible refine (c2 _ (hF.later x3)).mono ?_); rintro _ _ ⟨rfl, x4, rfl⟩)
      | (go_at_call 35; (with_reducible refine (hlv _).mono ?_); rintro _ _ ⟨rfl, x1, rfl⟩))
    go_ret
    exact Ret.mk rfl ((x3.on x4.below).on x1.below).below
  rw [e] at c2
  clear e
  obtain ⟨ti, hi, hz0, hz1, hz2⟩ := info_parts info_ev
  go_enter Try.func13, Try.ntmps13
  go_wp2_with (go_at_call 40; (with_reducible refine (c1 _ hE).mono ?_); rintro _ _ ⟨rfl, x3, rfl⟩)
  go_wp2_with (go_at_call 40; (with_reducible refine (c2 _ (hF.later x3)).mono ?_); rintro _ _ ⟨rfl, x4, rfl⟩)
  have hE1 := (hE.later x3).later x4
  have hF1 := (hF.later x3).later x4
  have hS1 : Since' w x4.at' := (x3.on x4.below).below
  clear c1 c2
  generalize x4.at' = W at *
  go_loopw [5] (fun v wr => ∃ j : Nat, v = .int .i64 j ∧ j ≤ l.length ∧ (∀ i, i < j → (evAt l i).th ≤ 1) ∧ ∃ y : Later W, wr = y.at') (fun v _ => l.length - (intOf v).toNat)
  case atStart => exact ⟨0, rfl, by omega, fun i hi => absurd hi (Nat.not_lt_zero _), ⟨W, Below.refl _ _⟩, rfl⟩
  case round =>
    obtain ⟨j, rfl, hj, hlo, y, rfl⟩ := hrel
    by_cases hjl : j < l.length
    · obtain ⟨b, off, rfl, hEE⟩ := hE1 (by rintro rfl; simp at hjl)
      have k0 := hEE.c0 j hjl
      have hb := hEE.lt
      have j0 : (0 : Int) ≤ j := by omega
      have j1 : (j : Int) < l.length := by omega
      by_cases ht : 1 < (evAt l j).th
      · go_wp2_with (go_at_call 35; (with_reducible refine (hlv _).mono ?_); rintro _ _ ⟨rfl, x9, rfl⟩)
        go_ret
        exact Ret.mk rfl (Since'.later (Since'.later hS1 y) x9)
      · have hlo2 : ∀ i, i < j + 1 → (evAt l i).th ≤ 1 := fun i hi => by
          by_cases e : i = j
          · subst e; omega
          · exact hlo i (by omega)
        have HLO := Lib.hid hlo2
        clear hlo hlo2
        go_wp2
        go_roundw
        case rel => exact ⟨j + 1, by go_num, by omega, HLO.out, y, rfl⟩
        case measure => simp [intOf]; omega
    · have ej : j = l.length := by omega
      subst ej
      have j1 : ¬ (l.length : Int) < l.length := by omega
      have HLO := Lib.hid hlo
      clear hlo
      have hE2 := hE1.later y
      have hF2 := hF1.later y
      have hS2 : Since' w y.at' := Since'.later hS1 y
      clear hE1 hF1 hS1
      generalize y.at' = V at *
      go_wp2_with (at_builtin; refine unhid ?_)
      refine Lib.hid ?_
      refine wpList_append_any _ rfl (.tmp 44) (.tmp 45) 57 rfl V.heap.size 77 ti _ 8 64 Try.underlying57 hi hz0 hz1 hz2 rfl (by decide) _ _ _ rfl (EvRow.nil V V.heap.size) p l.length cap (evsCells l) rfl (evsCells_len l) hE2.news.1 hE2.news.2 (evsCells_one l) (by unfold maxLen; simp; omega) (by simp; omega) (Nat.le_refl _) ?_
      intro v1 W1 hO1 hg1
      have hR1 := EvRow.app hO1
      rw [List.nil_append] at hR1
      have hV1 : Since' V W1 := Since'.grown (Below.refl _ _) (Nat.le_refl _) (EvRow.nil V V.heap.size) hg1
      clear hO1 hg1
      go_wp2
      go_loopw [6, 7] (fun v i wr => ∃ j : Nat, i = .int .i64 j ∧ j ≤ k.length ∧ (∀ i, i < j → 2 ≤ (evAt k i).th) ∧ Since' V wr ∧ EvRow wr V.heap.size v (l ++ k.take j)) (fun _ v _ => k.length - (intOf v).toNat)
      case atStart => exact ⟨0, rfl, by omega, fun i hi => absurd hi (Nat.not_lt_zero _), hV1, by simpa using hR1⟩
      case round =>
        obtain ⟨j, rfl, hj, hhi, hV, hR⟩ := hrel
        by_cases hjl : j < k.length
        · obtain ⟨b, off, rfl, hFF⟩ := (hF2.below hV) (by rintro rfl; simp at hjl)
          have k0 := hFF.c0 j hjl
          have k1 := hFF.c1 j hjl
          have k2 := hFF.c2 j hjl
          have k3 := hFF.c3 j hjl
          have k4 := hFF.c4 j hjl
          have k5 := hFF.c5 j hjl
          have k6 := hFF.c6 j hjl
          have k7 := hFF.c7 j hjl
          have hb := hFF.lt
          have j0 : (0 : Int) ≤ j := by omega
          have j1 : (j : Int) < k.length := by omega
          by_cases ht : (evAt k j).th < 2
          · go_wp2_with (go_at_call 35; (with_reducible refine (hlv _).mono ?_); rintro _ _ ⟨rfl, x9, rfl⟩)
            go_ret
            exact Ret.mk rfl (Since'.later (Below.trans hS2 (Below.mono hV (Below.size hS2))) x9)
          · have hhi2 : ∀ i, i < j + 1 → 2 ≤ (evAt k i).th := fun i hi => by
              by_cases e : i = j
              · subst e; omega
              · exact hhi i (by omega)
            have HHI := Lib.hid hhi2
            have hlen : (l ++ k.take j).length ≤ 40 := by rw [List.length_append, List.length_take]; omega
            have hsz := Below.size hV
            clear hhi hhi2
            go_wp2_with (at_builtin; refine unhid ?_)
            refine Lib.hid ?_
            refine wpList_append_own _ rfl (.tmp 60) (.tmp 65) 57 rfl V.heap.size 77 ti _ 8 64 Try.underlying57 hi hz0 hz1 hz2 rfl (by decide) _ _ _ rfl (World.ownsRow.alloc hR _) ⟨wr.heap.size, 0, none⟩ 1 1 (evCells (evAt k j)) rfl rfl (cells_at (evCells (evAt k j)) rfl) (fun u hu => evsCells_one [evAt k j] u (by simpa [evsCells] using hu)) (by unfold maxLen; omega) (by omega) (by simp; omega) ?_
            intro v' W4 hO4 hg4 _
            have hV4 : Since' V W4 := Since'.grown (Since'.alloc hV _) (Nat.le_refl _) (World.ownsRow.alloc hR _) hg4
            have hR4 := EvRow.take hO4 hjl
            clear hO4 hg4
            go_wp2
            go_roundw
            case rel => exact ⟨j + 1, by go_num, by omega, HHI.out, hV4, hR4⟩
            case measure => simp [intOf]; omega
        · have ej : j = k.length := by omega
          subst ej
          rw [List.take_length] at hR
          have j1 : ¬ (k.length : Int) < k.length := by omega
          have U : Unlike l k := fun a b ha hb e => by
            have h1 := HLO.out a ha
            have h2 := hhi b hb
            omega
          have hpair := apart_pair U HLO.out hhi
          have hHK := hist_app H K U
          have hco : callsOf (l ++ k) = callsTo (l ++ k) (l ++ k).length := by unfold callsOf; rw [histE_ok hHK, if_pos rfl]
          have hcl := callsOf_le (l ++ k)
          obtain ⟨p2, q2, rfl, hP2⟩ := hR.sliceP
          have c1 := Calls_p (cap := q2) hP2 (by rw [List.length_append]; omega)
          rw [histE_ok hHK] at c1
          rw [hco] at c1 hcl
          have hS3 : Since' w wr := Below.trans hS2 (Below.mono hV (Below.size hS2))
          clear hco hHK U hhi HLO hE2 hF2 hR hP2 H K
          generalize callsTo (l ++ k) (l ++ k).length = C at c1 hcl hpair
          have HP := Lib.hid hpair
          clear hpair
          rw [List.length_append] at c1 hcl ⊢
          go_wp2_with (go_at_call 36; (with_reducible refine c1.mono ?_); rintro _ _ ⟨v5, rfl, x5, rfl, hO5⟩; obtain ⟨p5, q5, rfl, hP5⟩ := hO5.sliceP)
          have hS5 : Since' w x5.at' := Since'.later hS3 x5
          clear hO5 c1
          generalize x5.at' = W5 at *
          go_loopw [10, 11] (fun v _ wr => ∃ i : Nat, v = .int .i64 i ∧ i ≤ C.length ∧ ∃ y : Later W5, wr = y.at') (fun v _ _ => C.length - (intOf v).toNat)
          case atStart => exact ⟨0, rfl, by omega, ⟨W5, Below.refl _ _⟩, rfl⟩
          case round =>
            obtain ⟨i, rfl, hi', y2, rfl⟩ := hrel
            by_cases hil : i < C.length
            · obtain ⟨g, rfl, hg, hat⟩ := hP5 (by rintro rfl; simp at hil)
              have hten := hat.ten i hil rfl
              have hpr := fun j hj => HP.out i j hil hj
              have i0 : (0 : Int) ≤ i := by omega
              have i1 : (i : Int) < C.length := by omega
              generalize C.getD i default = X at hten hpr
              obtain ⟨th, d, h, o, n, c, r, dn, fr, to⟩ := X
              obtain ⟨b0, b1, b2, b3, b4, b5, b6, b7, b8, b9⟩ := hten
              dsimp only at b0 b1 b2 b3 b4 b5 b6 b7 b8 b9
              have HPR := Lib.hid hpr
              clear hpr
              go_wp2
              go_loopw [11] (fun v wr => ∃ j : Nat, v = .int .i64 j ∧ j ≤ C.length ∧ ∃ y : Later W5, wr = y.at') (fun v _ => C.length - (intOf v).toNat)
              case atStart => exact ⟨0, rfl, by omega, y2, rfl⟩
              case round =>
                obtain ⟨j, rfl, hj', y3, rfl⟩ := hrel
                by_cases hjl : j < C.length
                · have hten2 := hat.ten j hjl rfl
                  have hpr := HPR.out j hjl
                  have j0 : (0 : Int) ≤ j := by omega
                  have j1 : (j : Int) < C.length := by omega
                  generalize C.getD j default = Y at hten2 hpr
                  obtain ⟨th2, d2, h2, o2, n2, c2, r2, dn2, fr2, to2⟩ := Y
                  obtain ⟨e0, e1, e2, e3, e4, e5, e6, e7, e8, e9⟩ := hten2
                  dsimp only at e0 e1 e2 e3 e4 e5 e6 e7 e8 e9 hpr
                  by_cases ht1 : th < 2
                  · have hd1 : decide (th < 2) = true := by simpa using ht1
                    by_cases ht2 : 2 ≤ th2
                    · have hd2 : decide (2 ≤ th2) = true := by simpa using ht2
                      have hbc := fun W => before_lit th d h o n c r dn fr to th2 d2 h2 o2 n2 c2 r2 dn2 fr2 to2 W
                      rw [hpr ht1 ht2] at hbc
                      simp only [cl10] at hbc
                      clear hpr
                      have er : (dn != dn) = false := by cases dn <;> rfl
                      go_wp2_with fail
                      refine wp_region_later' y3 (by kernel_rfl) (by kernel_rfl) ?_
                      repeat (go_big_quiet_step ((go_at_call 44; with_reducible exact later_of _ (hbc _))))
                      refine wpQuiet_nil ?_
                      rintro _ ⟨z, rfl⟩
                      go_wp2
                      go_roundw
                      case rel => exact ⟨j + 1, by go_num, by omega, z, rfl⟩
                      case measure => simp [intOf]; omega
                    · have hd2 : decide (2 ≤ th2) = false := by simpa using ht2
                      clear hpr
                      go_wp2_with fail
                      refine wp_region_later' y3 (by kernel_rfl) (by kernel_rfl) ?_
                      repeat (go_big_quiet_step (fail))
                      refine wpQuiet_nil ?_
                      rintro _ ⟨z, rfl⟩
                      go_wp2
                      go_roundw
                      case rel => exact ⟨j + 1, by go_num, by omega, z, rfl⟩
                      case measure => simp [intOf]; omega
                  · have hd1 : decide (th < 2) = false := by simpa using ht1
                    clear hpr
                    go_wp2_with fail
                    refine wp_region_later' y3 (by kernel_rfl) (by kernel_rfl) ?_
                    repeat (go_big_quiet_step (fail))
                    refine wpQuiet_nil ?_
                    rintro _ ⟨z, rfl⟩
                    go_wp2
                    go_roundw
                    case rel => exact ⟨j + 1, by go_num, by omega, z, rfl⟩
                    case measure => simp [intOf]; omega
                · have ej : j = C.length := by omega
                  subst ej
                  have j1 : ¬ (C.length : Int) < C.length := by omega
                  go_wp2
                  go_roundw
                  case rel => exact ⟨i + 1, by go_num, by omega, y3, rfl⟩
                  case measure => simp [intOf]; omega
            · have ei : i = C.length := by omega
              subst ei
              have j1 : ¬ (C.length : Int) < C.length := by omega
              go_wp2_with (go_at_call 35; (with_reducible refine (hlv _).mono ?_); rintro _ _ ⟨rfl, x9, rfl⟩)
              go_ret
              exact Ret.mk rfl (Since'.later (Since'.later hS5 y2) x9)
end Go.Proofs.Ytfjgmggpkljphaa
