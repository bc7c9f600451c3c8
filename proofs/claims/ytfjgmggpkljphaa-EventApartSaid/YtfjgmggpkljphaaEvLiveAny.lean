/-
  The sample answers of layer 8 (live).
  Conditions: that the program's functions answer as the document says (Has8).
-/
import Derived.Test.YtfjgmggpkljphaaEvLive
import Derived.Test.YtfjgmggpkljphaaQuietHead
namespace Go.Proofs.Ytfjgmggpkljphaa
open Go.RowKit
attribute [local go_sem] Later.cell Later.frozen Later.lt Later.le
set_option linter.unusedVariables false

theorem any_one {P : Program} {md : Region.Mode} {ops : Array Oper} {Q : Exit → Act → World → Prop} {f : Nat} {L : Array Bool} {a : Act} {w : World} (i : Nat) {o : Oper} (hr : Region.ready md ops L = [i]) (ho : ops[i]? = some o)
    (hw : Region.wanted o (yielded ops a.tmps) = true) (h : ∀ K' : Act → World → Prop, (∀ a w, wpAny P md ops Q f (L.setIfInBounds i true) a w → K' a w) → Oper.wp P o a w K' Q) : wpAny P md ops Q (f + 1) L a w :=
  wpAny_ready hr (by simp) (AllReady.cons ho (fun K hK => by rw [if_pos hw]; exact h K hK) AllReady.nil)
theorem any_two {P : Program} {md : Region.Mode} {ops : Array Oper} {Q : Exit → Act → World → Prop} {f : Nat} {L : Array Bool} {a : Act} {w : World} (i j : Nat) {o o2 : Oper} (hr : Region.ready md ops L = [i, j]) (ho : ops[i]? = some o) (ho2 : ops[j]? = some o2)
    (hw : Region.wanted o (yielded ops a.tmps) = true) (hw2 : Region.wanted o2 (yielded ops a.tmps) = true) (h : ∀ K' : Act → World → Prop, (∀ a w, wpAny P md ops Q f (L.setIfInBounds i true) a w → K' a w) → Oper.wp P o a w K' Q)
    (h2 : ∀ K' : Act → World → Prop, (∀ a w, wpAny P md ops Q f (L.setIfInBounds j true) a w → K' a w) → Oper.wp P o2 a w K' Q) : wpAny P md ops Q (f + 1) L a w :=
  wpAny_ready hr (by simp) (AllReady.cons ho (fun K hK => by rw [if_pos hw]; exact h K hK) (AllReady.cons ho2 (fun K hK => by rw [if_pos hw2]; exact h2 K hK) AllReady.nil))

set_option maxRecDepth 4000 in
set_option maxHeartbeats 4000000 in
theorem live_any (H8 : Has8) (w : World) : Calls Try.prog 35 #[] w (Ret w (.bool true)) := by
  have hL4 : ∀ T, EvsP (w.alloc (.cells #[.int .i64 1, .bool false, .int .i64 2, .int .i64 7, .int .i64 0, .int .i64 0, .int .i64 0, .int .i64 0, .int .i64 0, .bool false, .int .i64 1, .int .i64 5, .int .i64 0, .int .i64 0, .int .i64 0, .int .i64 0, .int .i64 1, .bool true, .int .i64 0, .int .i64 0, .int .i64 0, .int .i64 0, .int .i64 0, .int .i64 9, .int .i64 1, .bool false, .int .i64 2, .int .i64 7, .int .i64 0, .int .i64 0, .int .i64 0, .int .i64 0] T)) (some ⟨w.heap.size, 0, none⟩) L4 :=
    fun T _ => ⟨_, _, rfl, evsAt_new w T L4⟩
  have hL1 : ∀ (W : World) T, EvsP (W.alloc (.cells #[.int .i64 0, .bool true, .int .i64 0, .int .i64 0, .int .i64 0, .int .i64 0, .int .i64 0, .int .i64 0] T)) (some ⟨W.heap.size, 0, none⟩) L1 :=
    fun W T _ => ⟨_, _, rfl, evsAt_new W T L1⟩
  go_enter Try.func35, Try.ntmps35
  go_wp2_with (first
    | (go_at_call 36; (with_reducible refine (live_l4 H8 (hL4 _)).mono ?_); rintro _ _ ⟨v1, rfl, x, rfl, hO1⟩)
    | (go_at_call 36; (with_reducible refine (live_l1 H8 (hL1 _ _)).mono ?_); rintro _ _ ⟨v2, rfl, x2, rfl, _⟩; obtain ⟨g, c, rfl, hg, hat⟩ := live_row hO1 x2.boxed; have hP4 := ((hL4 _).later x).below x2.boxed))
  obtain ⟨⟨a0, a1, a2, a3, a4, a5, a6, a7, a8, a9⟩, ⟨b0, b1, b2, b3, b4, b5, b6, b7, b8, b9⟩, ⟨c0, c1, c2, c3, c4, c5, c6, c7, c8, c9⟩⟩ := live_cells hat
  have hw : Below w.heap.size w x2.at' := (((Below.refl _ _).alloc (Nat.le_refl _) _).trans (x.below.mono (by simp))).trans (x2.boxed.mono (Nat.le_trans (by simp) x.below.size))
  have q1 := fun W => live_b1 H8 W
  have q2 := fun W => live_b2 H8 W
  have q3 := fun W => live_b3 H8 W
  clear hO1 hL1
  dsimp only [List.append]
  refine wp_region_head (m := 78) (C := fun w' => ∃ x : Later x2.at', w' = x.at') (by as_aux_lemma => kernel_rfl) (by as_aux_lemma => kernel_rfl) (by as_aux_lemma => kernel_rfl) ⟨⟨_, (Below.refl _ _).drew⟩, rfl⟩ ?_
  simp only [List.take_succ_cons, List.take_zero]
  repeat (go_big_quiet_step (first
    | (go_at_call 44; with_reducible exact later_of _ (q1 _))
    | (go_at_call 44; with_reducible exact later_of _ (q2 _))
    | (go_at_call 44; with_reducible exact later_of _ (q3 _))))
  refine wpQuiet_nil ?_
  rintro _ ⟨x3, rfl⟩
  have hP5 := hP4.later x3
  refine any_two 78 80 (by as_aux_lemma => kernel_rfl) rfl rfl (by as_aux_lemma => kernel_rfl) (by as_aux_lemma => kernel_rfl) ?_ ?_
  · intro K hK
    go_wp2
    refine any_two 79 80 (by as_aux_lemma => kernel_rfl) rfl rfl (by as_aux_lemma => kernel_rfl) (by as_aux_lemma => kernel_rfl) ?_ ?_
    · intro K hK
      go_wp2_with (go_at_call 42; (with_reducible refine (live_hd H8 hP5).mono ?_); rintro _ _ ⟨v6, rfl, x6, rfl, hO6⟩; obtain ⟨p6, c6, rfl, hI6⟩ := hO6.slice' 3 rfl)
      refine any_one 80 (by as_aux_lemma => kernel_rfl) rfl (by as_aux_lemma => kernel_rfl) ?_
      intro K hK
      go_wp2
      refine any_one 81 (by as_aux_lemma => kernel_rfl) rfl (by as_aux_lemma => kernel_rfl) ?_
      intro K hK
      go_wp2_with (go_at_call 25; (with_reducible refine (iSame3 (hI6.alloc _) (row579 _ _)).mono ?_); rintro _ _ ⟨rfl, x7, rfl⟩)
      refine any_one 82 (by as_aux_lemma => kernel_rfl) rfl (by as_aux_lemma => kernel_rfl) ?_
      intro K hK
      go_wp2
      refine any_one 83 (by as_aux_lemma => kernel_rfl) rfl (by as_aux_lemma => kernel_rfl) ?_
      intro K hK
      go_wp2
      refine any_one 84 (by as_aux_lemma => kernel_rfl) rfl (by as_aux_lemma => kernel_rfl) ?_
      intro K hK
      go_wp2
      refine any_one 85 (by as_aux_lemma => kernel_rfl) rfl (by as_aux_lemma => kernel_rfl) ?_
      intro K hK
      go_wp2_with (go_at_call 40; (with_reducible refine (live_ck H8 ((hP5.later x6).below x7.boxed)).mono ?_); rintro _ _ ⟨rfl, x8, rfl⟩)
      refine any_one 86 (by as_aux_lemma => kernel_rfl) rfl (by as_aux_lemma => kernel_rfl) ?_
      intro K hK
      go_wp2
      refine any_one 87 (by as_aux_lemma => kernel_rfl) rfl (by as_aux_lemma => kernel_rfl) ?_
      intro K hK
      go_wp2
      refine any_one 88 (by as_aux_lemma => kernel_rfl) rfl (by as_aux_lemma => kernel_rfl) ?_
      intro K hK
      go_wp2
      refine wpAny_done (by as_aux_lemma => kernel_rfl) ?_ _
      go_wp2
      go_ret
      exact Ret.mk rfl (hw.trans ((((x3.on x6.below).on x7.boxed).on x8.below).below.mono hw.size))
    · intro K hK
      go_wp2
      refine any_one 79 (by as_aux_lemma => kernel_rfl) rfl (by as_aux_lemma => kernel_rfl) ?_
      intro K hK
      go_wp2_with (go_at_call 42; (with_reducible refine (live_hd H8 (hP5.below ((Below.refl _ _).alloc (Nat.le_refl _) _))).mono ?_); rintro _ _ ⟨v6, rfl, x6, rfl, hO6⟩; obtain ⟨p6, c6, rfl, hI6⟩ := hO6.slice' 3 rfl)
      refine any_one 81 (by as_aux_lemma => kernel_rfl) rfl (by as_aux_lemma => kernel_rfl) ?_
      intro K hK
      go_wp2_with (go_at_call 25; (with_reducible refine (iSame3 hI6 ((row579 _ _).later x6)).mono ?_); rintro _ _ ⟨rfl, x7, rfl⟩)
      refine any_one 82 (by as_aux_lemma => kernel_rfl) rfl (by as_aux_lemma => kernel_rfl) ?_
      intro K hK
      go_wp2
      refine any_one 83 (by as_aux_lemma => kernel_rfl) rfl (by as_aux_lemma => kernel_rfl) ?_
      intro K hK
      go_wp2
      refine any_one 84 (by as_aux_lemma => kernel_rfl) rfl (by as_aux_lemma => kernel_rfl) ?_
      intro K hK
      go_wp2
      refine any_one 85 (by as_aux_lemma => kernel_rfl) rfl (by as_aux_lemma => kernel_rfl) ?_
      intro K hK
      go_wp2_with (go_at_call 40; (with_reducible refine (live_ck H8 ((hP5.below x6.boxed).later x7)).mono ?_); rintro _ _ ⟨rfl, x8, rfl⟩)
      refine any_one 86 (by as_aux_lemma => kernel_rfl) rfl (by as_aux_lemma => kernel_rfl) ?_
      intro K hK
      go_wp2
      refine any_one 87 (by as_aux_lemma => kernel_rfl) rfl (by as_aux_lemma => kernel_rfl) ?_
      intro K hK
      go_wp2
      refine any_one 88 (by as_aux_lemma => kernel_rfl) rfl (by as_aux_lemma => kernel_rfl) ?_
      intro K hK
      go_wp2
      refine wpAny_done (by as_aux_lemma => kernel_rfl) ?_ _
      go_wp2
      go_ret
      exact Ret.mk rfl (hw.trans ((((x3.on x6.boxed).on x7.below).on x8.below).below.mono hw.size))
  · intro K hK
    go_wp2
    refine any_one 78 (by as_aux_lemma => kernel_rfl) rfl (by as_aux_lemma => kernel_rfl) ?_
    intro K hK
    go_wp2
    refine any_one 79 (by as_aux_lemma => kernel_rfl) rfl (by as_aux_lemma => kernel_rfl) ?_
    intro K hK
    go_wp2_with (go_at_call 42; (with_reducible refine (live_hd H8 (hP5.below ((Below.refl _ _).alloc (Nat.le_refl _) _))).mono ?_); rintro _ _ ⟨v6, rfl, x6, rfl, hO6⟩; obtain ⟨p6, c6, rfl, hI6⟩ := hO6.slice' 3 rfl)
    refine any_one 81 (by as_aux_lemma => kernel_rfl) rfl (by as_aux_lemma => kernel_rfl) ?_
    intro K hK
    go_wp2_with (go_at_call 25; (with_reducible refine (iSame3 hI6 ((row579 _ _).later x6)).mono ?_); rintro _ _ ⟨rfl, x7, rfl⟩)
    refine any_one 82 (by as_aux_lemma => kernel_rfl) rfl (by as_aux_lemma => kernel_rfl) ?_
    intro K hK
    go_wp2
    refine any_one 83 (by as_aux_lemma => kernel_rfl) rfl (by as_aux_lemma => kernel_rfl) ?_
    intro K hK
    go_wp2
    refine any_one 84 (by as_aux_lemma => kernel_rfl) rfl (by as_aux_lemma => kernel_rfl) ?_
    intro K hK
    go_wp2
    refine any_one 85 (by as_aux_lemma => kernel_rfl) rfl (by as_aux_lemma => kernel_rfl) ?_
    intro K hK
    go_wp2_with (go_at_call 40; (with_reducible refine (live_ck H8 ((hP5.below x6.boxed).later x7)).mono ?_); rintro _ _ ⟨rfl, x8, rfl⟩)
    refine any_one 86 (by as_aux_lemma => kernel_rfl) rfl (by as_aux_lemma => kernel_rfl) ?_
    intro K hK
    go_wp2
    refine any_one 87 (by as_aux_lemma => kernel_rfl) rfl (by as_aux_lemma => kernel_rfl) ?_
    intro K hK
    go_wp2
    refine any_one 88 (by as_aux_lemma => kernel_rfl) rfl (by as_aux_lemma => kernel_rfl) ?_
    intro K hK
    go_wp2
    refine wpAny_done (by as_aux_lemma => kernel_rfl) ?_ _
    go_wp2
    go_ret
    exact Ret.mk rfl (hw.trans ((((x3.on x6.boxed).on x7.below).on x8.below).below.mono hw.size))
end Go.Proofs.Ytfjgmggpkljphaa
