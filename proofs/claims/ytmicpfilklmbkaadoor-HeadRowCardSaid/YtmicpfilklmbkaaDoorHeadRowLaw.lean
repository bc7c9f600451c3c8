/-
  The statement HeadRow of layer 4, walked: slots that are pushed one behind the other are popped the other way round.
  Conditions: the slice's cells are known where it has any.
-/
import Derived.Test.YtmicpfilklmbkaaDoorHeadLaws
import Derived.LoopN
import Derived.OwnWalk
namespace Go.Proofs.YtmicpfilklmbkaaDoor
open Go.RowKit
attribute [local go_sem] Later.cell Later.frozen Later.lt Later.le
set_option linter.unusedVariables false

theorem infoInt : (Tryd.prog.info? 3).map (fun i => (i.zero, i.size, i.bytes)) = some (some (.int .i64 0), 1, 8) := by kernel_rfl

/-- The top behind k pushes. -/
def topAt (zs : List Int) (k : Nat) : Int := if k = 0 then 0 else zs.getD (k - 1) 0 + 1
/-- The word of a top, with that tag. -/
def wdOf (t : Int) (g : Nat) : Int := t + (g : Int) * 1048576
def lk (zs : List Int) (k : Nat) : List Int := (List.range k).map (topAt zs)
def GoodTo (zs : List Int) (k : Nat) : Prop := ∀ j, j < k → 0 ≤ zs.getD j 0 ∧ zs.getD j 0 ≤ 63

theorem topAt_bd {zs : List Int} {k n : Nat} (h : GoodTo zs n) (hk : k ≤ n) : 0 ≤ topAt zs k ∧ topAt zs k ≤ 64 := by
  unfold topAt
  split
  · omega
  · have := h (k - 1) (by omega)
    omega
theorem lk_succ (zs : List Int) (k : Nat) : lk zs (k + 1) = lk zs k ++ [topAt zs k] := by
  unfold lk
  rw [List.range_succ, List.map_append]
  rfl
theorem lk_len (zs : List Int) (k : Nat) : (lk zs k).length = k := by simp [lk]
theorem lk_get (zs : List Int) {k j : Nat} (h : j < k) : (lk zs k)[j]? = some (topAt zs j) := by
  unfold lk
  rw [List.getElem?_map, List.getElem?_range h]
  rfl

theorem wd_parts {t : Int} {g : Nat} (ht : 0 ≤ t ∧ t ≤ 64) (hg : g ≤ 200) : heB (wdOf t g) = true ∧ wdOf t g % 1048576 = t ∧ wdOf t g / 1048576 = g ∧ wdOf t g ≤ 9223372036854775807 := by
  have e1 : wdOf t g % 1048576 = t := by unfold wdOf; omega
  have e2 : wdOf t g / 1048576 = g := by unfold wdOf; omega
  refine ⟨heB_true ⟨by unfold wdOf; omega, by omega, by omega⟩, e1, e2, by unfold wdOf; omega⟩
theorem nx_nat {g : Nat} (hg : g ≤ 200) : nx (g : Int) = ((g + 1 : Nat) : Int) := by unfold nx; omega

theorem push_good {t s : Int} {g : Nat} (ht : 0 ≤ t ∧ t ≤ 64) (hg : g ≤ 200) (hs : 0 ≤ s ∧ s ≤ 63) (w : World) (hF : HasHead w) :
    Calls Tryd.prog 20 #[.int .i64 (wdOf t g), .int .i64 s] w (Ret w (.tuple #[.int .i64 (wdOf (s + 1) (g + 1)), .int .i64 t, .int .i64 0])) := by
  obtain ⟨h1, h2, h3, h4⟩ := wd_parts ht hg
  have k := pushE_ok h1 (slotP_true hs)
  refine HdPush_at h4 ?_ ?_ k w hF
  · rw [pushV_ok k, h3, nx_nat hg]; rfl
  · rw [pushL_ok k, h2]
theorem push_wrong {t s : Int} {g : Nat} (ht : 0 ≤ t ∧ t ≤ 64) (hg : g ≤ 200) (hs : ¬ (0 ≤ s ∧ s ≤ 63)) (w : World) (hF : HasHead w) :
    Calls Tryd.prog 20 #[.int .i64 (wdOf t g), .int .i64 s] w (Ret w (.tuple #[.int .i64 0, .int .i64 0, .int .i64 1])) := by
  obtain ⟨h1, h2, h3, h4⟩ := wd_parts ht hg
  have k := pushE_arg h1 (slotP_false hs)
  exact HdPush_at h4 (pushV_bad (by rw [k]; decide)) (pushL_bad (by rw [k]; decide)) k w hF
theorem pop_good {s l : Int} {g : Nat} (hs : 0 ≤ s ∧ s ≤ 63) (hg : g ≤ 200) (hl : 0 ≤ l ∧ l ≤ 64) (w : World) (hF : HasHead w) :
    Calls Tryd.prog 18 #[.int .i64 (wdOf (s + 1) g), .int .i64 l] w (Ret w (.tuple #[.int .i64 (wdOf l (g + 1)), .int .i64 s, .int .i64 0])) := by
  obtain ⟨h1, h2, h3, h4⟩ := wd_parts (t := s + 1) (by omega) hg
  have k : popE (wdOf (s + 1) g) l = 0 := popE_ok h1 (topP_true hl) (by rw [h2]; omega)
  refine HdPop_at h4 ?_ ?_ k w hF
  · rw [popV_ok k, h3, nx_nat hg]; rfl
  · rw [popS_ok k, h2]; omega
theorem pop_none {g : Nat} (hg : g ≤ 200) (w : World) (hF : HasHead w) : Calls Tryd.prog 18 #[.int .i64 (wdOf 0 g), .int .i64 0] w (Ret w (.tuple #[.int .i64 0, .int .i64 0, .int .i64 11])) := by
  obtain ⟨h1, h2, h3, h4⟩ := wd_parts (t := 0) (by omega) hg
  have k : popE (wdOf 0 g) 0 = 11 := popE_none h1 (topP_true (by omega)) h2
  exact HdPop_at h4 (popV_bad (by rw [k]; decide)) (popS_bad (by rw [k]; decide)) k w hF

theorem owns_later {w : World} {base : Nat} {e : TypeId} {size : Nat} {v : Value} {n : Nat} {xs : List Value} (x : Later w) (h : w.ownsRow base e size v n xs) : x.at'.ownsRow base e size v n xs :=
  h.kept (row := none) ⟨x.below.os, x.below.tape, x.below.output, x.below.size, fun k hk _ => x.below.block k hk⟩ (by cases v.ownBlock <;> simp)

set_option maxHeartbeats 1000000 in
theorem HeadRow_long (a : Option Addr) (len cap : Nat) (w : World) (hF : HasHead w) (hlen : 64 < len) (hmax : len ≤ 9223372036854775807) : Calls Tryd.prog 7 #[.slice a len cap] w (Ret w (.bool true)) := by
  go_enter Tryd.func7, Tryd.ntmps7
  go_wp2_with (go_at_call 17; (with_reducible refine (hlive_any _ hF).mono ?_); rintro _ _ ⟨rfl, xl, rfl⟩)
  go_ret
  exact Ret.mk rfl xl.below

set_option maxHeartbeats 1000000 in
theorem HeadRow_empty (a : Option Addr) (cap : Nat) (w : World) (hF : HasHead w) : Calls Tryd.prog 7 #[.slice a 0 cap] w (Ret w (.bool true)) := by
  have c0 := fun W => pop_none (g := 0) (by decide) W
  have e0 : wdOf 0 0 = 0 := rfl
  rw [e0] at c0
  clear e0
  go_enter Tryd.func7, Tryd.ntmps7
  go_wp2
  refine wp_loop_rounds 1 ?_
  rw [rounds_succ]
  go_wp2
  refine wp_loop_rounds 1 ?_
  rw [rounds_succ]
  go_wp2_with (first
    | (go_at_call 18; (with_reducible refine (c0 _ hF).mono ?_); rintro _ _ ⟨rfl, x1, rfl⟩)
    | (go_at_call 17; (with_reducible refine (later_of _ (hlive_any _ (x1.heads hF))).mono ?_); rintro _ _ ⟨rfl, xl, rfl⟩))
  go_ret
  exact Ret.mk rfl xl.below

set_option maxHeartbeats 1000000 in
theorem HeadRow_some (b off len cap : Nat) (zs : List Int) (w : World) (hF : HasHead w) (h0 : 0 < len) (hlen : len ≤ 64) (hb : b < w.heap.size)
    (hc : ∀ j, j < len → w.cell? ⟨b, off + j, none⟩ = some (.int .i64 (zs.getD j 0))) : Calls Tryd.prog 7 #[.slice (some ⟨b, off, none⟩) len cap] w (Ret w (.bool true)) := by
  obtain ⟨i0, hi, hz0, hz1, hz2⟩ := info_parts infoInt
  have HC := Lib.hid hc
  clear hc
  go_enter Tryd.func7, Tryd.ntmps7
  go_wp2
  go_loopw [3, 4, 5] (fun a v i wr => ∃ k : Nat, k ≤ len ∧ i = .int .i64 k ∧ a = .int .i64 (wdOf (topAt zs k) k) ∧ wr.ownsRow w.heap.size 3 1 v k ((lk zs k).map (Value.int .i64)) ∧ Below w.heap.size w wr ∧ GoodTo zs k) (fun _ _ i _ => len - (intOf i).toNat)
  case atStart => exact ⟨0, Nat.zero_le _, rfl, rfl, World.ownsRow_nil _ _ _ _, Below.refl _ _, fun j hj => absurd hj (Nat.not_lt_zero _)⟩
  case round =>
    obtain ⟨k, hk, rfl, rfl, hown, hbr, hgood⟩ := hrel
    have ht := topAt_bd hgood (Nat.le_refl k)
    by_cases hlt : k < len
    · have hcell : wr.cell? ⟨b, off + k, none⟩ = some (.int .i64 (zs.getD k 0)) := (hbr.cell (p := ⟨b, off + k, none⟩) hb).trans (HC.out k hlt)
      have hgd : ∀ s, zs.getD k 0 = s → (0 ≤ s ∧ s ≤ 63) → GoodTo zs (k + 1) := fun s hs h j hj => by
        by_cases e : j = k
        · subst e; rw [hs]; exact h
        · exact hgood j (by omega)
      have htop : ∀ s, zs.getD k 0 = s → topAt zs (k + 1) = s + 1 := fun s hs => by unfold topAt; simp only [Nat.add_sub_cancel, hs]; rfl
      generalize hs : zs.getD k 0 = s at hcell
      have HS := Lib.hid hs
      clear hs
      by_cases hsl : 0 ≤ s ∧ s ≤ 63
      · have hgood' := hgd s HS.out hsl
        have htop' := Lib.hid (htop s HS.out)
        clear hgd htop
        obtain ⟨s0, s1⟩ := hsl
        go_wp2_with (first
          | (go_at_call 20; (with_reducible refine (push_good ht (by omega) ⟨s0, s1⟩ _ (hF.below hbr)).mono ?_); rintro _ _ ⟨rfl, x1, rfl⟩)
          | (at_builtin; refine wpList_append_own _ rfl _ _ 33 rfl w.heap.size 3 i0 (.int .i64 0) 1 8 Tryd.underlying33 hi hz0 hz1 hz2 rfl (by decide) _ _ _ rfl ((owns_later x1 hown).alloc _) ⟨x1.at'.heap.size, 0, none⟩ 1 1 [.int .i64 (topAt zs k)] rfl rfl (cell_one_new _ _ _) (fun u hu => by simp at hu; subst hu; rfl) (by unfold maxLen; omega) (by omega) (by have := hbr.size; have := x1.below.size; simp; omega) ?_; intro v' w1 hown' hgrow _))
        have hgrow' : (x1.at'.alloc _).grownBy w1 u4.ownBlock := hgrow
        have hbn : Below w.heap.size w w1 := ((hbr.trans (x1.below.mono hbr.size)).alloc (by have := hbr.size; have := x1.below.size; omega) _).grown hgrow' (by have := hbr.size; have := x1.below.size; simp; omega) (fun q hq => ((owns_later x1 hown).lt q hq).1)
        have hon : w1.ownsRow w.heap.size 3 1 v' (k + 1) ((lk zs (k + 1)).map (Value.int .i64)) := by rw [lk_succ, List.map_append]; exact hown'
        clear hgrow hgrow' hown'
        go_roundw
        case rel => exact ⟨k + 1, by omega, by simp, by rw [htop'.out], hon, hbn, hgood'⟩
        case measure => simp [intOf]; omega
      · clear hgd htop
        by_cases hneg : s < 0
        · go_wp2_with (first
            | (go_at_call 20; (with_reducible refine (push_wrong ht (by omega) (by omega) _ (hF.below hbr)).mono ?_); rintro _ _ ⟨rfl, x1, rfl⟩; have hc1 := (x1.cell b (off + k) none (Nat.lt_of_lt_of_le hb hbr.size)).trans hcell)
            | (go_at_call 17; (with_reducible refine (later_of _ (hlive_any _ (x1.heads (hF.below hbr)))).mono ?_); rintro _ _ ⟨rfl, xl, rfl⟩))
          go_ret
          exact Ret.mk rfl (hbr.trans (xl.below.mono hbr.size))
        · have hbig : 63 < s := by omega
          clear hsl
          go_wp2_with (first
            | (go_at_call 20; (with_reducible refine (push_wrong ht (by omega) (by omega) _ (hF.below hbr)).mono ?_); rintro _ _ ⟨rfl, x1, rfl⟩; have hc1 := (x1.cell b (off + k) none (Nat.lt_of_lt_of_le hb hbr.size)).trans hcell)
            | (go_at_call 17; (with_reducible refine (later_of _ (hlive_any _ (x1.heads (hF.below hbr)))).mono ?_); rintro _ _ ⟨rfl, xl, rfl⟩))
          go_ret
          exact Ret.mk rfl (hbr.trans (xl.below.mono hbr.size))
    · obtain rfl : k = len := by omega
      have hown0 := hown
      rcases hown0.2 with ⟨_, hz⟩ | ⟨g, cap', cur, hv, hg, hheap, _, _, _, _⟩
      · exact absurd hz (by omega)
      · have hgl : g < wr.heap.size := by
          by_cases hh : g < wr.heap.size
          · exact hh
          · rw [Array.getElem?_eq_none (by omega)] at hheap
            cases hheap
        have hlk : ∀ j, j < k → wr.cell? ⟨g, j, none⟩ = some (.int .i64 (topAt zs j)) := fun j hj => by
          have := hown.cells (g := g) (by rw [hv]; rfl) j (.int .i64 (topAt zs j)) (by rw [List.getElem?_map, lk_get zs hj]; rfl)
          by_cases hj0 : j = 0
          · subst hj0; simpa [Addr.add] using this
          · simpa [Addr.add, hj0] using this
        have HL := Lib.hid hlk
        clear hlk hown hown0 hheap
        subst hv
        obtain ⟨wo, rfl⟩ : ∃ wo : World, wo = wr := ⟨_, rfl⟩
        go_wp2
        go_loopw [3, 9] (fun a i wx => ∃ j : Nat, j ≤ k ∧ i = .int .i64 ((j : Int) - 1) ∧ a = .int .i64 (wdOf (topAt zs j) (k + (k - j))) ∧ Below wo.heap.size wo wx) (fun _ i _ => (intOf i + 1).toNat)
        case atStart => exact ⟨k, Nat.le_refl _, rfl, by simp, Below.refl _ _⟩
        case round =>
          obtain ⟨j, hj, rfl, rfl, hbx⟩ := hrel
          by_cases hj0 : j = 0
          · subst hj0
            have e0 : topAt zs 0 = 0 := rfl
            rw [e0, show ((0 : Nat) : Int) - 1 = -1 from rfl]
            clear e0
            go_wp2_with (first
              | (go_at_call 18; (with_reducible refine (pop_none (by omega) _ ((hF.below hbr).below hbx)).mono ?_); rintro _ _ ⟨rfl, x1, rfl⟩)
              | (go_at_call 17; (with_reducible refine (later_of _ (hlive_any _ (x1.heads ((hF.below hbr).below hbx)))).mono ?_); rintro _ _ ⟨rfl, xl, rfl⟩))
            go_ret
            exact Ret.mk rfl (hbr.trans ((hbx.trans (xl.below.mono hbx.size)).mono hbr.size))
          · obtain ⟨n, rfl⟩ : ∃ n, j = n + 1 := ⟨j - 1, by omega⟩
            have hs := hgood n (by omega)
            have hc1 : wr.cell? ⟨b, off + n, none⟩ = some (.int .i64 (zs.getD n 0)) := (hbx.cell (p := ⟨b, off + n, none⟩) (Nat.lt_of_lt_of_le hb hbr.size)).trans ((hbr.cell (p := ⟨b, off + n, none⟩) hb).trans (HC.out n (by omega)))
            have hc2 : wr.cell? ⟨g, n, none⟩ = some (.int .i64 (topAt zs n)) := (hbx.cell (p := ⟨g, n, none⟩) hgl).trans (HL.out n (by omega))
            have htp := topAt_bd hgood (show n ≤ k by omega)
            have e1 : topAt zs (n + 1) = zs.getD n 0 + 1 := by unfold topAt; simp
            have e2 : k + (k - (n + 1)) + 1 = k + (k - n) := by omega
            rw [e1, show ((n + 1 : Nat) : Int) - 1 = (n : Int) by omega]
            generalize zs.getD n 0 = s at hs hc1
            generalize htt : topAt zs n = t at hc2 htp
            have HT := Lib.hid htt
            clear htt
            have cp := fun W => pop_good (s := s) (l := t) (g := k + (k - (n + 1))) hs (by omega) htp W
            rw [e2] at cp
            clear e1 e2
            go_wp2_with (first
              | (go_at_call 18; (with_reducible refine (cp _ ((hF.below hbr).below hbx)).mono ?_); rintro _ _ ⟨rfl, x1, rfl⟩; have hc3 := (x1.cell b (off + n) none (Nat.lt_of_lt_of_le (Nat.lt_of_lt_of_le hb hbr.size) hbx.size)).trans hc1)
              | (go_at_call 17; (with_reducible refine (later_of _ (hlive_any _ (x1.heads ((hF.below hbr).below hbx)))).mono ?_); rintro _ _ ⟨rfl, xl, rfl⟩))
            go_roundw
            case rel => exact ⟨n, by omega, rfl, by rw [HT.out], hbx.trans (x1.below.mono hbx.size)⟩
            case measure => simp [intOf]
end Go.Proofs.YtmicpfilklmbkaaDoor
