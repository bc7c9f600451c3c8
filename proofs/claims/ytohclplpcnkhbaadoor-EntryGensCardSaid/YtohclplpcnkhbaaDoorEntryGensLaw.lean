/-
  The statement EntryGens of layer 2, walked: behind each Next the generation is one more, up to the last one.
  Conditions: that the package's table of fields reads as it is laid.
-/
import Derived.Test.YtohclplpcnkhbaaDoorEntryHelp
import Derived.LoopTactic
namespace Go.Proofs.YtohclplpcnkhbaaDoor
open Go.RowKit
attribute [local go_sem] Later.cell Later.frozen Later.lt Later.le
attribute [local go_sem ↓] Go.wp_at_zero Go.wp_at_succ

/-- The word of a live entry that nothing holds. -/
def lw (o g : Int) : Int := En.word ⟨o, g, 0, 0, false, true⟩
def lmay (o g : Int) : Prop := 0 ≤ o ∧ o ≤ 4096 ∧ 0 ≤ g ∧ g ≤ 1000
theorem lmay_may {o g : Int} (h : lmay o g) : En.may ⟨o, g, 0, 0, false, true⟩ = true := may_live ⟨h.2.2.1, h.2.2.2⟩ ⟨h.1, h.2.1⟩ (by decide) (by decide)
theorem dmay {g : Int} (h0 : 0 ≤ g) (h1 : g ≤ 1000) : En.may ⟨0, g, 0, 0, false, false⟩ = true := may_dead ⟨h0, h1⟩

theorem next_lw {o g : Int} (h : lmay o g) : nextV (lw o g) = En.word ⟨0, if g < 1000 then g + 1 else g, 0, 0, false, false⟩ ∧ nextM (lw o g) = decide (g < 1000) ∧ nextC (lw o g) = 0 := by
  have hm := lmay_may h
  have hw := uok_word hm
  have hp := unp_word hm
  have hv : (unp (En.word ⟨o, g, 0, 0, false, true⟩)).lv = true := by rw [hp]
  have e0 : nextE ⟨o, g, 0, 0, false, true⟩ = 0 := rfl
  have e1 : nextN ⟨o, g, 0, 0, false, true⟩ = ⟨0, if g < 1000 then g + 1 else g, 0, 0, false, false⟩ := rfl
  have hk : En.may ⟨0, if g < 1000 then g + 1 else g, 0, 0, false, false⟩ = true := by
    obtain ⟨_, _, h3, h4⟩ := h
    split
    · exact dmay (by omega) (by omega)
    · exact dmay h3 h4
  unfold lw nextV nextM nextC
  rw [hp, e0, e1, hw]
  refine ⟨(chV_ok hw hv).trans (packV_ok hk), by simp, (chE_ok hw hv).trans (packE_ok hk)⟩

theorem next_more_at {o g : Int} (h : lmay o g) (hg : g < 1000) (w : World) (hF : HasFields w) :
    Calls Tryd.prog 19 #[.int .i64 (lw o g)] w (Ret w (.tuple #[.int .i64 (En.word ⟨0, g + 1, 0, 0, false, false⟩), .bool true, .int .i64 0])) := by
  obtain ⟨h1, h2, h3⟩ := next_lw h
  rw [if_pos hg] at h1
  exact Next_at _ h1 (h2.trans (by simpa using hg)) h3 w hF
theorem next_last_at {o g : Int} (h : lmay o g) (hg : ¬ g < 1000) (w : World) (hF : HasFields w) :
    Calls Tryd.prog 19 #[.int .i64 (lw o g)] w (Ret w (.tuple #[.int .i64 (En.word ⟨0, g, 0, 0, false, false⟩), .bool false, .int .i64 0])) := by
  obtain ⟨h1, h2, h3⟩ := next_lw h
  rw [if_neg hg] at h1
  exact Next_at _ h1 (h2.trans (by simpa using hg)) h3 w hF
theorem unpack_at {g : Int} (h0 : 0 ≤ g) (h1 : g ≤ 1000) (w : World) (hF : HasFields w) :
    Calls Tryd.prog 12 #[.int .i64 (En.word ⟨0, g, 0, 0, false, false⟩)] w (Ret w (.tuple #[.agg #[.int .i64 0, .int .i64 g, .int .i64 0, .int .i64 0, .bool false, .bool false], .int .i64 0])) :=
  Unpack_at _ ((upV_ok (uok_word (dmay h0 h1))).trans (unp_word (dmay h0 h1))) (upE_ok (uok_word (dmay h0 h1))) w hF
theorem pack_at {o g : Int} (h : lmay o g) (w : World) (hF : HasFields w) :
    Calls Tryd.prog 9 #[.agg #[.int .i64 o, .int .i64 g, .int .i64 0, .int .i64 0, .bool false, .bool true]] w (Ret w (.tuple #[.int .i64 (lw o g), .int .i64 0])) :=
  Pack_at o g 0 0 false true (packV_ok (lmay_may h)) (packE_ok (lmay_may h)) w hF

set_option maxHeartbeats 1000000 in
theorem gens_skip (o g p q : Int) (lk lv : Bool) (n : Int) (w : World) (hF : HasFields w) (h : ¬ (0 ≤ n ∧ n ≤ 30 ∧ lv = true ∧ lk = false ∧ p = 0 ∧ q = 0)) : Calls Tryd.prog 6 #[.agg #[.int .i64 o, .int .i64 g, .int .i64 p, .int .i64 q, .bool lk, .bool lv], .int .i64 n] w (Ret w (.bool true)) := by
  by_cases h0 : n < 0
  · clear h
    go_enter Tryd.func6, Tryd.ntmps6
    go_wp2_with (go_at_call 15; (with_reducible refine (live_any _ (hF.alloc _)).mono ?_); rintro _ _ ⟨rfl, x9, rfl⟩)
    go_ret
    exact Ret.mk rfl x9.boxed
  · by_cases h1 : 30 < n
    · clear h
      go_enter Tryd.func6, Tryd.ntmps6
      go_wp2_with (go_at_call 15; (with_reducible refine (live_any _ (hF.alloc _)).mono ?_); rintro _ _ ⟨rfl, x9, rfl⟩)
      go_ret
      exact Ret.mk rfl x9.boxed
    · cases lv
      · clear h
        go_enter Tryd.func6, Tryd.ntmps6
        go_wp2_with (go_at_call 15; (with_reducible refine (live_any _ (hF.alloc _)).mono ?_); rintro _ _ ⟨rfl, x9, rfl⟩)
        go_ret
        exact Ret.mk rfl x9.boxed
      · cases lk
        · by_cases hp : p = 0
          · by_cases hq : q = 0
            · exact absurd ⟨by omega, by omega, rfl, rfl, hp, hq⟩ h
            · clear h
              go_enter Tryd.func6, Tryd.ntmps6
              go_wp2_with (go_at_call 15; (with_reducible refine (live_any _ (hF.alloc _)).mono ?_); rintro _ _ ⟨rfl, x9, rfl⟩)
              go_ret
              exact Ret.mk rfl x9.boxed
          · clear h
            go_enter Tryd.func6, Tryd.ntmps6
            go_wp2_with (go_at_call 15; (with_reducible refine (live_any _ (hF.alloc _)).mono ?_); rintro _ _ ⟨rfl, x9, rfl⟩)
            go_ret
            exact Ret.mk rfl x9.boxed
        · clear h
          go_enter Tryd.func6, Tryd.ntmps6
          go_wp2_with (go_at_call 15; (with_reducible refine (live_any _ (hF.alloc _)).mono ?_); rintro _ _ ⟨rfl, x9, rfl⟩)
          go_ret
          exact Ret.mk rfl x9.boxed

set_option maxHeartbeats 1000000 in
theorem gens_bad (o g n : Int) (w : World) (hF : HasFields w) (h0 : 0 ≤ n) (h1 : n ≤ 30) (hm : En.may ⟨o, g, 0, 0, false, true⟩ = false) : Calls Tryd.prog 6 #[.agg #[.int .i64 o, .int .i64 g, .int .i64 0, .int .i64 0, .bool false, .bool true], .int .i64 n] w (Ret w (.bool true)) := by
  have c1 := fun W => Pack_at o g 0 0 false true (packV_bad hm) (packE_bad hm) W
  clear hm
  go_enter Tryd.func6, Tryd.ntmps6
  go_wp2_with (first
    | (go_at_call 10; refine (own_any o g 0 0 false true _).mono ?_; rintro _ _ ⟨rfl, x1, rfl⟩)
    | (go_at_call 9; (with_reducible refine (later_of _ (c1 _ (x1.fields (hF.alloc _)))).mono ?_); rintro _ _ ⟨rfl, x2, rfl⟩)
    | (go_at_call 15; (with_reducible refine (later_of _ (live_any _ (x2.fields (hF.alloc _)))).mono ?_); rintro _ _ ⟨rfl, x3, rfl⟩))
  go_ret
  exact Ret.mk rfl x3.boxed

set_option maxHeartbeats 1000000 in
theorem gens_run (o g n : Int) (w : World) (hF : HasFields w) (h0 : 0 ≤ n) (h1 : n ≤ 30) (hm : lmay o g) : Calls Tryd.prog 6 #[.agg #[.int .i64 o, .int .i64 g, .int .i64 0, .int .i64 0, .bool false, .bool true], .int .i64 n] w (Ret w (.bool true)) := by
  go_enter Tryd.func6, Tryd.ntmps6
  go_wp2_with (first
    | (go_at_call 10; refine (own_any o g 0 0 false true _).mono ?_; rintro _ _ ⟨rfl, x1, rfl⟩)
    | (go_at_call 9; (with_reducible refine (later_of _ (pack_at hm _ (x1.fields (hF.alloc _)))).mono ?_); rintro _ _ ⟨rfl, x2, rfl⟩))
  have hF2 := x2.fields (hF.alloc _)
  have hb2 := x2.boxed
  go_loopw [5, 7, 8] (fun a c i wr => ∃ k O G : Int, 0 ≤ k ∧ k ≤ n ∧ i = .int .i64 k ∧ c = .int .i64 G ∧ a = .int .i64 (lw O G) ∧ lmay O G ∧ HasFields wr ∧ Below w.heap.size w wr) (fun _ _ i _ => (n - intOf i).toNat)
  case atStart => exact ⟨0, o, g, by omega, by omega, rfl, rfl, rfl, hm, hF2, hb2⟩
  case round =>
    obtain ⟨k, O, G, k0, k1, rfl, rfl, rfl, hmay, hFr, hbr⟩ := hrel
    have hmay' := hmay
    obtain ⟨m1, m2, m3, m4⟩ := hmay'
    clear hF2 hb2 hm
    by_cases hlt : k < n
    · by_cases hg : G < 1000
      · have hnew : lmay 0 (G + 1) := ⟨by decide, by decide, by omega, by omega⟩
        go_wp2_with (first
          | (go_at_call 19; (with_reducible refine (next_more_at hmay hg _ hFr).mono ?_); rintro _ _ ⟨rfl, y1, rfl⟩)
          | (go_at_call 12; (with_reducible refine (later_of _ (unpack_at (g := G + 1) (by omega) (by omega) _ (y1.fields hFr))).mono ?_); rintro _ _ ⟨rfl, y2, rfl⟩)
          | (go_at_call 9; (with_reducible refine (pack_at hnew _ ((y2.fields hFr).alloc _)).mono ?_); rintro _ _ ⟨rfl, y3, rfl⟩))
        go_roundw
        case rel => exact ⟨k + 1, 0, G + 1, by omega, by omega, rfl, rfl, rfl, hnew, y3.fields ((y2.fields hFr).alloc _), hbr.trans ((y2.on y3.boxed).below.mono hbr.size)⟩
        case measure => simp [intOf]; omega
      · obtain rfl : G = 1000 := by omega
        clear m1 m2 m3 m4 hg
        go_wp2_with (first
          | (go_at_call 19; (with_reducible refine (next_last_at hmay (by decide) _ hFr).mono ?_); rintro _ _ ⟨rfl, y1, rfl⟩)
          | (go_at_call 12; (with_reducible refine (later_of _ (unpack_at (g := 1000) (by decide) (by decide) _ (y1.fields hFr))).mono ?_); rintro _ _ ⟨rfl, y2, rfl⟩)
          | (go_at_call 15; (with_reducible refine (live_any _ ((y2.fields hFr).alloc _)).mono ?_); rintro _ _ ⟨rfl, y3, rfl⟩))
        go_ret
        exact Ret.mk rfl (hbr.trans ((y2.on y3.boxed).below.mono hbr.size))
    · go_wp2_with (first
        | (go_at_call 15; (with_reducible refine (live_any _ hFr).mono ?_); rintro _ _ ⟨rfl, y3, rfl⟩))
      go_ret
      exact Ret.mk rfl (hbr.trans (y3.below.mono hbr.size))

theorem EntryGens_walk (o g p q : Int) (lk lv : Bool) (n : Int) (w : World) (hF : HasFields w) : Calls Tryd.prog 6 #[.agg #[.int .i64 o, .int .i64 g, .int .i64 p, .int .i64 q, .bool lk, .bool lv], .int .i64 n] w (Ret w (.bool true)) := by
  by_cases h : 0 ≤ n ∧ n ≤ 30 ∧ lv = true ∧ lk = false ∧ p = 0 ∧ q = 0
  · obtain ⟨h0, h1, rfl, rfl, rfl, rfl⟩ := h
    cases hm : En.may ⟨o, g, 0, 0, false, true⟩
    · exact gens_bad o g n w hF h0 h1 hm
    · obtain ⟨m1, m2, m3, m4, _⟩ := may_of hm
      exact gens_run o g n w hF h0 h1 ⟨m3, m4, m1, m2⟩
  · exact gens_skip o g p q lk lv n w hF h
end Go.Proofs.YtohclplpcnkhbaaDoor
