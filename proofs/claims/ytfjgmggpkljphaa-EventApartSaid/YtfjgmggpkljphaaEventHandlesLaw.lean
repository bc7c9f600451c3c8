/-
  EventHandles, walked: of events that lie in memory.
  Conditions: that the events lie in memory.
-/
import Derived.Test.YtfjgmggpkljphaaEvRow
import Derived.Test.YtfjgmggpkljphaaEventCallsLaw
namespace Go.Proofs.Ytfjgmggpkljphaa
open Go.RowKit
attribute [local go_sem] Later.cell Later.frozen Later.lt Later.le
set_option linter.unusedVariables false
set_option maxRecDepth 4000

theorem rise_get {L : List Int} (h : Rise L) {i j : Nat} (hij : i < j) (hj : j < L.length) : L.getD i 0 < L.getD j 0 := by
  have := (List.pairwise_iff_getElem.1 h) i j (by omega) hj hij
  simpa [hj, show i < L.length by omega] using this
theorem Since'.grown {V w w4 : World} {base : Nat} {v : Value} {e : TypeId} {size n : Nat} {xs : List Value} (hS : Since' V w) (hV : V.heap.size ≤ base) (hown : w.ownsRow base e size v n xs) (hg : w.grownBy w4 v.ownBlock) : Since' V w4 :=
  Below.grown hS hg (Below.size hS) fun k hk => by have := (World.ownsRow.lt hown k hk).1; omega
theorem EvRow.later {w : World} {base : Nat} {v : Value} {l : List Ev} (h : EvRow w base v l) (x : Later w) : EvRow x.at' base v l :=
  World.ownsRow.kept h (row := none) ⟨x.below.os, x.below.tape, x.below.output, x.below.size, fun k hk _ => x.below.block k hk⟩ (by cases v.ownBlock <;> simp)

/-- A slice that holds these numbers, below block n. -/
def IntsB (n : Nat) (w : World) (p : Option Addr) (l : List Int) : Prop := ∀ j, j < l.length → ∃ g, p = some ⟨g, 0, none⟩ ∧ g < n ∧ w.cell? ⟨g, j, none⟩ = some (.int .i64 (l.getD j 0))
theorem IntsB.grown {n : Nat} {w w4 : World} {p : Option Addr} {l : List Int} {v : Value} {e : TypeId} {size m : Nat} {xs : List Value} (h : IntsB n w p l) (hown : w.ownsRow n e size v m xs) (hg : w.grownBy w4 v.ownBlock) : IntsB n w4 p l := fun j hj => by
  obtain ⟨g, e, hgn, hc⟩ := h j hj
  exact ⟨g, e, hgn, hg.cell hc fun e2 => by have := (World.ownsRow.lt hown g e2.symm).1; omega⟩
theorem IntsB.later {n : Nat} {w : World} {p : Option Addr} {l : List Int} (h : IntsB n w p l) (hn : n ≤ w.heap.size) (x : Later w) : IntsB n x.at' p l := fun j hj => by
  obtain ⟨g, e, hgn, hc⟩ := h j hj
  exact ⟨g, e, hgn, (x.cell g j none (by omega)).trans hc⟩
theorem any_take (A : List Int) (x : Int) (j : Nat) (h : j < A.length) : (A.take (j + 1)).any (fun a => a == x) = ((A.take j).any (fun a => a == x) || (A.getD j 0 == x)) := by
  rw [List.take_succ_eq_append_getElem h, List.any_append]
  simp [h]

set_option maxHeartbeats 4000000 in
theorem EventHandles_true {p : Option Addr} {cap : Nat} {l : List Ev} {w : World} (hE : EvsP w p l) (hm : l.length ≤ maxLen) {q : Option Addr} {cap2 : Nat} {k : List Ev} (hF : EvsP w q k) (hm2 : k.length ≤ maxLen) :
    Calls Try.prog 14 #[.slice p l.length cap, .slice q k.length cap2] w (Ret w (.bool true)) := by
  have hlv := fun W => live_true W
  by_cases hl : 30 < l.length
  · have h60 : (30 : Int) < l.length := by omega
    go_enter Try.func14, Try.ntmps14
    go_wp2_with (go_at_call 35; (with_reducible refine (hlv _).mono ?_); rintro _ _ ⟨rfl, x1, rfl⟩)
    go_ret
    exact Ret.mk rfl x1.below
  have h60 : ¬ (30 : Int) < l.length := by omega
  by_cases hk : 30 < k.length
  · have h61 : (30 : Int) < k.length := by omega
    go_enter Try.func14, Try.ntmps14
    go_wp2_with (go_at_call 35; (with_reducible refine (hlv _).mono ?_); rintro _ _ ⟨rfl, x1, rfl⟩)
    go_ret
    exact Ret.mk rfl x1.below
  have h61 : ¬ (30 : Int) < k.length := by omega
  obtain ⟨ti, hi, hz0, hz1, hz2⟩ := info_parts info_ev
  obtain ⟨ti2, hi2, hy0, hy1, hy2⟩ := info_parts info_num
  have hA := fun (W : World) (r : Option Addr) (c : Nat) (h : EvsP W r (l ++ k)) => Handles_p (cap := c) h (by rw [List.length_append]; omega)
  have hB := fun (W : World) (h : EvsP W p l) => Handles_p (cap := cap) h (by omega)
  have hC := fun (W : World) (h : EvsP W q k) => Handles_p (cap := cap2) h (by omega)
  have hrise := hands_rise (l ++ k)
  have hle := hands_le l k
  have hall := fun x (hx : x ∈ hands l ++ hands k) => hands_all l k hx
  have hl1 := hands_le_len l
  have hl2 := hands_le_len k
  have hl3 := hands_le_len (l ++ k)
  rw [List.length_append] at hA hl3
  generalize hands (l ++ k) = A at hA hrise hle hall hl3
  generalize hands l = B1 at hB hle hall hl1
  generalize hands k = B2 at hC hle hall hl2
  go_enter Try.func14, Try.ntmps14
  go_wp2_with (at_builtin; refine unhid ?_)
  refine Lib.hid ?_
  refine wpList_append_any _ rfl (.tmp 21) (.tmp 22) 57 rfl w.heap.size 77 ti _ 8 64 Try.underlying57 hi hz0 hz1 hz2 rfl (by decide) _ _ _ rfl (EvRow.nil w w.heap.size) p l.length cap (evsCells l) rfl (evsCells_len l) hE.news.1 hE.news.2 (evsCells_one l) (by unfold maxLen; simp; omega) (by simp; omega) (Nat.le_refl _) ?_
  intro v1 W1 hO1 hg1
  have hR1 := EvRow.app hO1
  rw [List.nil_append] at hR1
  have hS1 : Since' w W1 := Since'.grown (Below.refl _ _) (Nat.le_refl _) (EvRow.nil w w.heap.size) hg1
  clear hO1 hg1
  have hE1 := hE.below hS1
  have hF1 := hF.below hS1
  go_wp2_with (at_builtin; refine unhid ?_)
  refine Lib.hid ?_
  refine wpList_append_any _ rfl (.tmp 24) (.tmp 25) 57 rfl w.heap.size 77 ti _ 8 64 Try.underlying57 hi hz0 hz1 hz2 rfl (by decide) _ _ _ rfl hR1 q k.length cap2 (evsCells k) rfl (evsCells_len k) hF1.news.1 hF1.news.2 (evsCells_one k) (by unfold maxLen; omega) (by omega) (Below.size hS1) ?_
  intro v2 W2 hO2 hg2
  have hR2 := EvRow.app hO2
  have hS2 : Since' w W2 := Since'.grown hS1 (Nat.le_refl _) hR1 hg2
  obtain ⟨p2, q2, rfl, hP2⟩ := hR2.sliceP
  rw [List.length_append]
  have hE2 := hE.below hS2
  have hF2 := hF.below hS2
  clear hO2 hg2 hR1 hR2 hE1 hF1
  go_wp2_with (go_at_call 42; (with_reducible refine (hA _ p2 q2 hP2).mono ?_); rintro _ _ ⟨v3, rfl, x3, rfl, hO3⟩; obtain ⟨p3, q3, rfl, hI3⟩ := hO3.slice)
  have hE3 := hE2.later x3
  have hF3 := hF2.later x3
  have hS3 : Since' w x3.at' := Since'.later hS2 x3
  clear hO3 hA hP2 hE2 hF2
  generalize x3.at' = W at *
  go_loopw [7] (fun v wr => ∃ j : Nat, v = .int .i64 ((j : Int) + 1) ∧ j ≤ A.length ∧ ∃ y : Later W, wr = y.at') (fun v _ => A.length + 1 - (intOf v).toNat)
  case atStart => exact ⟨0, rfl, by omega, ⟨W, Below.refl _ _⟩, rfl⟩
  case round =>
    obtain ⟨j, rfl, hj, y, rfl⟩ := hrel
    by_cases hjl : j + 1 < A.length
    · obtain ⟨g, rfl, hg, b0⟩ := hI3 j (by omega)
      obtain ⟨g', eg, _, b1⟩ := hI3 (j + 1) hjl
      obtain rfl : g = g' := by simpa using eg
      have hr := rise_get hrise (i := j) (j := j + 1) (by omega) hjl
      have j0 : (0 : Int) ≤ j := by omega
      have j1 : (j : Int) + 1 < A.length := by omega
      have j2 : (j : Int) < A.length := by omega
      have j3 : (0 : Int) ≤ (j : Int) + 1 := by omega
      have jt : ((j : Int) + 1).toNat = j + 1 := by omega
      generalize A.getD j 0 = x0 at b0 hr
      generalize A.getD (j + 1) 0 = x1 at b1 hr
      have hrd : decide (x1 ≤ x0) = false := by simpa using hr
      clear eg
      go_wp2_with fail
      refine wp_region_later' y (by kernel_rfl) (by kernel_rfl) ?_
      repeat (go_big_quiet_step (fail))
      refine wpQuiet_nil ?_
      rintro _ ⟨z, rfl⟩
      go_wp2
      go_roundw
      case rel => exact ⟨j + 1, by go_num, by omega, z, rfl⟩
      case measure => simp [intOf]; omega
    · have j1 : ¬ (j : Int) + 1 < A.length := by omega
      go_wp2_with (first
        | (go_at_call 42; (with_reducible refine (hB _ (hE3.later y)).mono ?_); rintro _ _ ⟨v4, rfl, x4, rfl, hO4⟩; obtain ⟨p4, q4, rfl, hI4⟩ := hO4.slice)
        | (at_builtin; refine unhid ?_))
      have hS4 : Since' w x4.at' := Since'.later (Since'.later hS3 y) x4
      have hI34 : IntsB x4.at'.heap.size x4.at' p3 A := (hI3.later y).later x4
      have hF4 := (hF3.later y).later x4
      refine Lib.hid ?_
      refine wpList_append_any _ rfl (.tmp 45) (.tmp 47) 29 rfl x4.at'.heap.size 3 ti2 _ 1 8 Try.underlying29 hi2 hy0 hy1 hy2 rfl (by decide) _ _ _ rfl (Ints.nil x4.at' x4.at'.heap.size) p4 B1.length q4 (B1.map (Value.int .i64)) rfl (by simp) hI4.news.1 hI4.news.2 (ints_one B1) (by unfold maxLen; simp; omega) (by simp; omega) (Nat.le_refl _) ?_
      intro v5 W5 hO5 hg5
      have hR5 := Ints.app hO5
      rw [List.nil_append] at hR5
      have hS5 : Since' w W5 := Since'.grown hS4 (Below.size hS4) (Ints.nil x4.at' x4.at'.heap.size) hg5
      have hI35 := IntsB.grown hI34 (Ints.nil x4.at' x4.at'.heap.size) hg5
      have hF5 : EvsP W5 q k := hF.below hS5
      have hn5 : x4.at'.heap.size ≤ W5.heap.size := hg5.size
      have hn4 : w.heap.size ≤ x4.at'.heap.size := Below.size hS4
      clear hO5 hg5 hO4 hI4 hI34 hF4
      generalize x4.at'.heap.size = n4 at *
      go_wp2_with (first
        | (go_at_call 42; (with_reducible refine (hC _ hF5).mono ?_); rintro _ _ ⟨v6, rfl, x6, rfl, hO6⟩; obtain ⟨p6, q6, rfl, hI6⟩ := hO6.slice)
        | (at_builtin; refine unhid ?_))
      have hS6 : Since' w x6.at' := Since'.later hS5 x6
      have hI36 := hI35.later hn5 x6
      have hR6 := hR5.later x6
      have hn6 : n4 ≤ x6.at'.heap.size := Nat.le_trans hn5 x6.below.size
      refine Lib.hid ?_
      refine wpList_append_any _ rfl (.tmp 49) (.tmp 51) 29 rfl n4 3 ti2 _ 1 8 Try.underlying29 hi2 hy0 hy1 hy2 rfl (by decide) _ _ _ rfl hR6 p6 B2.length q6 (B2.map (Value.int .i64)) rfl (by simp) hI6.news.1 hI6.news.2 (ints_one B2) (by unfold maxLen; omega) (by omega) hn6 ?_
      intro v7 W7 hO7 hg7
      have hR7 := Ints.app hO7
      have hS7 : Since' w W7 := by
        refine Below.grown hS6 hg7 (Below.size hS6) fun b hb => ?_
        have := (World.ownsRow.lt hR6 b hb).1
        omega
      have hI37 := IntsB.grown hI36 hR6 hg7
      have hn7 : n4 ≤ W7.heap.size := Nat.le_trans hn6 hg7.size
      obtain ⟨p7, q7, rfl, hI7⟩ := hR7.slice
      clear hO7 hg7 hR7 hR6 hI6 hO6 hI36 hI35 hF5 hR5
      have hD : (B1 ++ B2).length ≤ 60 := by rw [List.length_append]; omega
      generalize B1 ++ B2 = D at *
      have hAl : A.length ≤ 60 := by omega
      clear hB hC hlv
      have hlv := fun W => live_true W
      go_wp2
      go_loopw [9, 10, 11] (fun v _ _ wr => ∃ i : Nat, i ≤ D.length ∧ v = .int .i64 i ∧ ∃ z : Later W7, wr = z.at') (fun v _ _ _ => D.length - (intOf v).toNat)
      case atStart => exact ⟨0, by omega, rfl, ⟨W7, Below.refl _ _⟩, rfl⟩
      case round =>
        obtain ⟨i, hi, rfl, z, rfl⟩ := hrel
        by_cases hil : i < D.length
        · obtain ⟨g7, rfl, hg7, d0⟩ := hI7 i hil
          have hin : D.getD i 0 ∈ A := hall _ (by simp [hil])
          have i0 : (0 : Int) ≤ i := by omega
          have i1 : (i : Int) < D.length := by omega
          generalize D.getD i 0 = x at d0 hin
          have hany : A.any (fun a => a == x) = true := List.any_eq_true.2 ⟨x, hin, by simp⟩
          have HANY := Lib.hid hany
          clear hin hany
          go_wp2
          go_loopw [10, 11] (fun f v wr => ∃ j : Nat, j ≤ A.length ∧ f = .bool ((A.take j).any (fun a => a == x)) ∧ v = .int .i64 j ∧ ∃ z : Later W7, wr = z.at') (fun _ v _ => A.length - (intOf v).toNat)
          case atStart => exact ⟨0, by omega, rfl, rfl, z, rfl⟩
          case round =>
            obtain ⟨j, hj, rfl, rfl, z2, rfl⟩ := hrel
            by_cases hjl : j < A.length
            · obtain ⟨g3, rfl, hg3, a0⟩ := hI37 j hjl
              have hg3' : g3 < W7.heap.size := by omega
              have hstep := any_take A x j hjl
              have j0 : (0 : Int) ≤ j := by omega
              have j1 : (j : Int) < A.length := by omega
              generalize A.getD j 0 = u at a0 hstep
              generalize (A.take j).any (fun a => a == x) = fd at hstep
              have HST := Lib.hid hstep
              clear hstep
              cases fd
              · by_cases hux : u = x
                · have hb2 : (u == x) = true := by simpa using hux
                  go_wp2_with fail
                  refine wp_region_later' z2 (by kernel_rfl) (by kernel_rfl) ?_
                  repeat (go_big_quiet_step (fail))
                  refine wpQuiet_nil ?_
                  rintro _ ⟨z3, rfl⟩
                  go_wp2
                  go_roundw
                  case rel => exact ⟨j + 1, by omega, by rw [HST.out, hb2]; rfl, by go_num, z3, rfl⟩
                  case measure => simp [intOf]; omega
                · have hb2 : (u == x) = false := by simpa using hux
                  go_wp2_with fail
                  refine wp_region_later' z2 (by kernel_rfl) (by kernel_rfl) ?_
                  repeat (go_big_quiet_step (fail))
                  refine wpQuiet_nil ?_
                  rintro _ ⟨z3, rfl⟩
                  go_wp2
                  go_roundw
                  case rel => exact ⟨j + 1, by omega, by rw [HST.out, hb2]; rfl, by go_num, z3, rfl⟩
                  case measure => simp [intOf]; omega
              · go_wp2_with fail
                refine wp_region_later' z2 (by kernel_rfl) (by kernel_rfl) ?_
                repeat (go_big_quiet_step (fail))
                refine wpQuiet_nil ?_
                rintro _ ⟨z3, rfl⟩
                go_wp2
                go_roundw
                case rel => exact ⟨j + 1, by omega, by rw [HST.out]; rfl, by go_num, z3, rfl⟩
                case measure => simp [intOf]; omega
            · have ej : j = A.length := by omega
              subst ej
              rw [List.take_length, HANY.out]
              have j1 : ¬ (A.length : Int) < A.length := by omega
              go_wp2
              go_roundw
              case rel => exact ⟨i + 1, by omega, by go_num, z2, rfl⟩
              case measure => simp [intOf]; omega
        · have ei : i = D.length := by omega
          subst ei
          have i1 : ¬ (D.length : Int) < D.length := by omega
          have i2 : (A.length : Int) ≤ D.length := by omega
          go_wp2_with (go_at_call 35; (with_reducible refine (hlv _).mono ?_); rintro _ _ ⟨rfl, x9, rfl⟩)
          go_ret
          exact Ret.mk rfl (Since'.later (Since'.later hS7 z) x9)
end Go.Proofs.Ytfjgmggpkljphaa
