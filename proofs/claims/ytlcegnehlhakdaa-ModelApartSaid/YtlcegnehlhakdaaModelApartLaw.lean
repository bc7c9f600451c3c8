/-
  The statement ModelApart of layer 7, walked: true, whatever the calls are.
  Conditions: that the calls lie as they are read.
-/
import Derived.Test.YtlcegnehlhakdaaMdRound
namespace Go.Proofs.Ytlcegnehlhakdaa
open Go.RowKit Go.Maps Go
attribute [local go_sem] Later.cell Later.frozen Later.lt Later.le
set_option linter.unusedVariables false
set_option linter.unusedSimpArgs false
set_option maxRecDepth 8000

/-- What a round reads of its call. -/
def ApS (b a : Nat) (d h o n c r : Int) (own : Bool) (W : World) : Prop :=
  W.cell? ⟨b, a, none⟩ = some (.int .i64 d) ∧ W.cell? ⟨b, a + 1, none⟩ = some (.int .i64 h) ∧ W.cell? ⟨b, a + 2, none⟩ = some (.int .i64 o) ∧ W.cell? ⟨b, a + 3, none⟩ = some (.int .i64 n) ∧ W.cell? ⟨b, a + 4, none⟩ = some (.int .i64 c) ∧ W.cell? ⟨b, a + 5, none⟩ = some (.int .i64 r) ∧ W.cell? ⟨b, a + 6, none⟩ = some (.bool own)
/-- The second loop's relation: the copy that is tried goes on; the other two, and the document's own, stay. -/
def ApR (w : World) (n g gb ga k : Nat) (S : St) (v : Value) (wr : World) : Prop := ∃ (i : Nat) (Sb : St) (bo bt boa bta : Option Nat), v = .int .i64 i ∧ i ≤ n ∧ MapAt wr g bo bt S ∧ MapAt wr ga boa bta S ∧ RefAt wr k S ∧ PM w wr gb Sb (foot g bo bt ++ (foot ga boa bta ++ [k])) ∧ Good Sb ∧ Sb.L.length ≤ i + 20 ∧ Sb.T.length ≤ i + 20
theorem RefAt.notmap {W : World} {k g : Nat} {S S' : St} {bo bt : Option Nat} (h : RefAt W k S) (hM : MapAt W g bo bt S') : k ∉ foot g bo bt := by
  obtain ⟨l, e, p, c, p', c', hb, _⟩ := h
  intro hm
  unfold foot at hm
  rcases List.mem_cons.1 hm with rfl | hm
  · rw [hM.blk] at hb; simp at hb
  · rcases List.mem_append.1 hm with hm | hm
    · rcases hM.objs with ⟨rfl, _⟩ | ⟨c, rfl, es, clock, hc, _⟩
      · simp [mbl] at hm
      · simp [mbl] at hm; subst hm; rw [hc] at hb; cases hb
    · rcases hM.told with ⟨rfl, _⟩ | ⟨c, rfl, es, clock, hc, _⟩
      · simp [mbl] at hm
      · simp [mbl] at hm; subst hm; rw [hc] at hb; cases hb
theorem RefAt.lt {W : World} {k : Nat} {S : St} (h : RefAt W k S) : k < W.heap.size := by
  obtain ⟨l, e, p, c, p', c', hb, _⟩ := h
  exact (Array.getElem?_eq_some_iff.1 hb).1

set_option maxHeartbeats 16000000 in
theorem ModelApart_any {p p2 : Option Addr} {cap cap2 : Nat} {l l2 : List Ca} {w : World} (hE : CaP w p l) (hE2 : CaP w p2 l2) :
    Calls Try.prog 7 #[.slice p l.length cap, .slice p2 l2.length cap2] w (Ret w (.bool true)) := by
  have hlv := fun W => live_any W
  have hsm := fun W => small_any p l.length cap 20 W
  have hsm2 := fun W => small_any p2 l2.length cap2 20 W
  have hw0 : Below w.heap.size w w := Below.refl _ _
  by_cases hl : l.length ≤ 20
  · have hl1 : decide ((l.length : Int) ≤ 20) = true := decide_eq_true (by omega)
    rw [hl1] at hsm
    clear hl1
    by_cases hl2 : l2.length ≤ 20
    · have hl1 : decide ((l2.length : Int) ≤ 20) = true := decide_eq_true (by omega)
      rw [hl1] at hsm2
      clear hl1
      go_enter Try.func7, Try.ntmps7
      go_wp2_with (first
        | (go_at_call 8; (with_reducible refine (hsm _).mono ?_); rintro _ _ ⟨rfl, rfl⟩)
        | (go_at_call 8; (with_reducible refine (hsm2 _).mono ?_); rintro _ _ ⟨rfl, rfl⟩)
        | (go_at_call 10; (with_reducible refine (New_any _).mono ?_); rintro _ _ ⟨rfl, rfl⟩))
      go_loopw [7] (fun v wr => Rd7 (w) l.length w.heap.size (w.heap.size + 1) v wr) (fun v _ => l.length - (intOf v).toNat)
      case atStart => have := Rd7.begin w l.length _ rfl _ rfl; simpa using this
      case round =>
        obtain ⟨i, S, rfl, hi, hP, hR, hG, hL, hT⟩ := hrel
        have hbw := hw0.trans (hP.size.mono hw0.size)
        by_cases hil : i < l.length
        · have i1 : (i : Int) < l.length := by omega
          have i0 : (0 : Int) ≤ i := by omega
          obtain ⟨b, off0, rfl, hb, hc⟩ := hE (by intro e; rw [e] at hil; simp at hil)
          obtain ⟨d1, h1, o1, n1, c1, r1, own1, hw1, hcs⟩ := ca_cells hbw hb hc hil
          obtain ⟨x0, x1, x2, x3, x4, x5, x6⟩ := hcs wr hbw
          have ht := tried_any hR hG (by omega) d1 h1 o1 n1 c1 r1 own1
          have HWR := Lib.hid (trR_wf (S := S) (d := d1) (h := h1) (off := o1) (n := n1) (own := own1) hw1.2.2.2.2.2)
          generalize trC S d1 h1 o1 n1 c1 own1 = C at ht
          generalize trR S d1 h1 o1 n1 r1 own1 = R at ht HWR
          have HW1 := Lib.hid hw1
          have HCS := Lib.hid hcs
          have HC := Lib.hid hc
          clear hw1 hcs hc
          go_wp2_with (first
            | (go_at_call 15; (with_reducible refine ht.mono ?_); rintro _ _ ⟨rfl, y, rfl⟩))
          have hP1 := (hP.later y).guard (.cells #[.int .i64 C, .int .i64 R] 35)
          have hR1 := (hR.later y).later ⟨_, (Below.refl _ _).alloc (Nat.le_refl _) (.cells #[.int .i64 C, .int .i64 R] 35)⟩
          have hq := heap_alloc_new y.at' (.cells #[.int .i64 C, .int .i64 R] 35)
          simp only at hP1 hR1 hq
          generalize y.at'.alloc (.cells #[.int .i64 C, .int .i64 R] 35) = W1 at hP1 hR1 hq ⊢
          generalize y.at'.heap.size = qb at hP1 hq ⊢
          clear ht y x0 x1 x2 x3 x4 x5 x6 hP hR
          refine region_tail 7 (by kernel_rfl) (by kernel_rfl) ?_
          have hP2 := hP1.drew
          have hR2 := hR1.drew
          have hq2 : W1.drew.heap[qb]? = some (.cells #[.int .i64 C, .int .i64 R] 35 (0, 0)) := hq
          generalize W1.drew = W2 at hP2 hR2 hq2 ⊢
          clear hP1 hR1 hq
          have hb2 := hw0.trans (hP2.size.mono hw0.size)
          obtain ⟨x0, x1, x2, x3, x4, x5, x6⟩ := HCS.out W2 hb2
          have q0 : W2.cell? ⟨qb, 0, none⟩ = some (.int .i64 C) := by simp [World.cell?, hq2]
          have q1 : W2.cell? ⟨qb, 1, none⟩ = some (.int .i64 R) := by simp [World.cell?, hq2]
          have T := hP2.tryN hG ⟨by omega, by omega⟩ d1 h1 o1 n1 C R HW1.out.2.1 HWR.out
          simp only [List.take_succ_cons, List.take_zero, List.drop_succ_cons, List.drop_zero]
          repeat still_step
          refine wpStill_nil ?_
          go_wp2_with (first
            | (go_at_call 16; (with_reducible refine T.mono ?_); rintro _ W3 ⟨rfl, hP3, hS3, hN3⟩))
          have hR3 := hR2.nt hN3
          have hq3 := (hS3 qb (by simp)).trans hq2
          clear x0 x1 x2 x3 x4 x5 x6 q0 q1 T hP2 hR2 hq2 hb2 hS3 hN3
          refine region_tail 7 (by kernel_rfl) (by kernel_rfl) ?_
          have hP4 := hP3.drew
          have hR4 := hR3.drew
          have hq4 : W3.drew.heap[qb]? = some (.cells #[.int .i64 C, .int .i64 R] 35 (0, 0)) := hq3
          generalize W3.drew = W4 at hP4 hR4 hq4 ⊢
          clear hP3 hR3 hq3
          have hb4 := hw0.trans (hP4.size.mono hw0.size)
          obtain ⟨x0, x1, x2, x3, x4, x5, x6⟩ := HCS.out W4 hb4
          have q0 : W4.cell? ⟨qb, 0, none⟩ = some (.int .i64 C) := by simp [World.cell?, hq4]
          have q1 : W4.cell? ⟨qb, 1, none⟩ = some (.int .i64 R) := by simp [World.cell?, hq4]
          have T := refTry_any hR4 hG ⟨by omega, by omega⟩ d1 h1 o1 n1 C R
          unfold opV resV at T
          simp only [List.take_succ_cons, List.take_zero, List.drop_succ_cons, List.drop_zero]
          repeat still_step
          refine wpStill_nil ?_
          go_wp2_with (first
            | (go_at_call 17; (with_reducible refine T.mono ?_); rintro _ W5 ⟨rfl, hR5, hN5⟩))
          have hP5 := ((hP4.ref (by simp) (by simp) hN5).1).sub (B' := [(w.heap.size + 1)]) (by simp)
          have hl5 := tryS_len S d1 h1 o1 n1 C R
          go_roundw
          case rel => exact ⟨i + 1, _, by go_num, by omega, hP5, hR5, hG.tryS _ _ _ _ _ _, by omega, by omega⟩
          case measure => simp [intOf]; omega
        · have i1 : ¬ (i : Int) < l.length := by omega
          obtain ⟨bo1, bt1, hM0, hB0, hF0, hD0⟩ := hP
          have cA := Copy_any hM0
          have cB := fun (W : World) (hM : MapAt W w.heap.size bo1 bt1 S) => Copy_any hM
          go_wp2_with (first
            | (go_at_call 11; (with_reducible refine cA.mono ?_); rintro _ W1 ⟨ga, boa1, bta1, rfl, hMa1, hB1, hF1⟩; have hMm1 := hM0.below hB1)
            | (go_at_call 11; (with_reducible refine (cB _ hMm1).mono ?_); rintro _ W2 ⟨gb, bob, btb, rfl, hMb2, hB2, hF2⟩))
          have hMm2 := hMm1.below hB2
          have hMa2 := hMa1.below hB2
          have hRk2 : RefAt W2 (w.heap.size + 1) S := (hR.later ⟨W1, hB1⟩).later ⟨W2, hB2⟩
          have hPb : PM w W2 gb S (foot w.heap.size bo1 bt1 ++ (foot ga boa1 bta1 ++ [w.heap.size + 1])) := by
            have hz1 := hB1.size
            have hz2 := hB2.size
            have hz0 := hB0.size
            refine ⟨bob, btb, hMb2, (hB0.trans (hB1.mono hz0)).trans (hB2.mono (Nat.le_trans hz0 hz1)), fun x hx => by have := hF2 x hx; omega, fun x hx => ?_⟩
            have hx1 : x < W1.heap.size := by
              rcases List.mem_append.1 hx with hx | hx
              · exact hMm1.foot_lt x hx
              · rcases List.mem_append.1 hx with hx | hx
                · exact hMa1.foot_lt x hx
                · have := hR.lt
                  simp at hx
                  omega
            exact ⟨fun h => by have := hF2 x h; omega, by omega⟩
          clear hM0 hB0 hF0 hD0 cA cB hR hMm1 hMa1 hB1 hB2 hF1 hF2 hMb2
          go_loopw [11] (fun v wr => ApR w l2.length w.heap.size gb ga (w.heap.size + 1) S v wr) (fun v _ => l2.length - (intOf v).toNat)
          case atStart => exact ⟨0, S, bo1, bt1, boa1, bta1, rfl, Nat.zero_le _, hMm2, hMa2, hRk2, hPb, hG, by omega, by omega⟩
          case round =>
            clear hMm2 hMa2 hRk2 hPb
            obtain ⟨i, Sb, bo, bt, boa, bta, rfl, hi2, hMm, hMa, hRk, hPb, hGb, hLb, hTb⟩ := hrel
            have hbw := hw0.trans (hPb.size.mono hw0.size)
            by_cases hil2 : i < l2.length
            · have i1 : (i : Int) < l2.length := by omega
              have i0 : (0 : Int) ≤ i := by omega
              have i9 : i < l2.length := hil2
              obtain ⟨b, off0, rfl, hb, hc⟩ := hE2 (by intro e; rw [e] at hil2; simp at hil2)
              obtain ⟨d1, h1, o1, n1, c1, r1, own1, hw1, hcs⟩ := ca_cells hbw hb hc hil2
              have hS0 : ApS b (off0 + i * 7) d1 h1 o1 n1 c1 r1 own1 wr.drew := hcs wr.drew (hbw.trans ((Below.refl _ _).drew.mono hbw.size))
              have HWR := Lib.hid (trR_wf (S := S) (d := d1) (h := h1) (off := o1) (n := n1) (own := own1) hw1.2.2.2.2.2)
              have ht := tried_any hRk.drew hG (by omega) d1 h1 o1 n1 c1 r1 own1
              generalize trC S d1 h1 o1 n1 c1 own1 = C at ht
              generalize trR S d1 h1 o1 n1 r1 own1 = R at ht HWR
              have HW1 := Lib.hid hw1
              have HCS := Lib.hid hcs
              clear hw1 hcs hc
              go_wp2_with fail
              refine wp_region_T (n := 12) (S := ApS b (off0 + i * 7) d1 h1 o1 n1 c1 r1 own1) (by kernel_rfl) ⟨by kernel_rfl, by kernel_rfl, by kernel_rfl, rfl⟩ ?_
              intro hL9 inv
              refine wpAnyT_take 0 (v := .pointer (some ⟨gb, 0, none⟩)) hL9 inv rfl (by decide) (by kernel_rfl) (by kernel_rfl) (fun _ _ _ h => h) (.inl ⟨by kernel_rfl, fun V hS => ?_⟩) hS0 ?_
              · obtain ⟨g0, g1, g2, g3, g4, g5, g6⟩ := hS
                go_simp
              clear inv
              intro inv
              refine wpAnyT_take 1 (v := .slice (some ⟨b, off0, none⟩) l2.length cap2) hL9 inv rfl (by decide) (by kernel_rfl) (by kernel_rfl) (fun _ _ _ h => h) (.inl ⟨by kernel_rfl, fun V hS => ?_⟩) hS0 ?_
              · obtain ⟨g0, g1, g2, g3, g4, g5, g6⟩ := hS
                go_simp
              clear inv
              intro inv
              refine wpAnyT_take 2 (v := .int .i64 i) hL9 inv rfl (by decide) (by kernel_rfl) (by kernel_rfl) (fun _ _ _ h => h) (.inl ⟨by kernel_rfl, fun V hS => ?_⟩) hS0 ?_
              · obtain ⟨g0, g1, g2, g3, g4, g5, g6⟩ := hS
                go_simp
              clear inv
              intro inv
              refine wpAnyT_take 3 (v := .pointer (some ⟨b, off0 + i * 7, none⟩)) hL9 inv rfl (by decide) (by kernel_rfl) (by kernel_rfl) (fun _ _ _ h => h) (.inl ⟨by kernel_rfl, fun V hS => ?_⟩) hS0 ?_
              · obtain ⟨g0, g1, g2, g3, g4, g5, g6⟩ := hS
                go_simp
              clear inv
              intro inv
              refine wpAnyT_take 4 (v := .pointer (some ⟨b, off0 + i * 7, none⟩)) hL9 inv rfl (by decide) (by kernel_rfl) (by kernel_rfl) (fun _ _ _ h => h) (.inl ⟨by kernel_rfl, fun V hS => ?_⟩) hS0 ?_
              · obtain ⟨g0, g1, g2, g3, g4, g5, g6⟩ := hS
                go_simp
              clear inv
              intro inv
              refine wpAnyT_take 5 (v := .agg #[.int .i64 d1, .int .i64 h1, .int .i64 o1, .int .i64 n1]) hL9 inv rfl (by decide) (by kernel_rfl) (by kernel_rfl) (fun _ _ _ h => h) (.inl ⟨by kernel_rfl, fun V hS => ?_⟩) hS0 ?_
              · obtain ⟨g0, g1, g2, g3, g4, g5, g6⟩ := hS
                go_simp
              clear inv
              intro inv
              refine wpAnyT_take 6 (v := .pointer (some ⟨w.heap.size + 1, 0, none⟩)) hL9 inv rfl (by decide) (by kernel_rfl) (by kernel_rfl) (fun _ _ _ h => h) (.inl ⟨by kernel_rfl, fun V hS => ?_⟩) hS0 ?_
              · obtain ⟨g0, g1, g2, g3, g4, g5, g6⟩ := hS
                go_simp
              clear inv
              intro inv
              refine wpAnyT_take 7 (v := .slice (some ⟨b, off0, none⟩) l2.length cap2) hL9 inv rfl (by decide) (by kernel_rfl) (by kernel_rfl) (fun _ _ _ h => h) (.inl ⟨by kernel_rfl, fun V hS => ?_⟩) hS0 ?_
              · obtain ⟨g0, g1, g2, g3, g4, g5, g6⟩ := hS
                go_simp
              clear inv
              intro inv
              refine wpAnyT_take 8 (v := .int .i64 i) hL9 inv rfl (by decide) (by kernel_rfl) (by kernel_rfl) (fun _ _ _ h => h) (.inl ⟨by kernel_rfl, fun V hS => ?_⟩) hS0 ?_
              · obtain ⟨g0, g1, g2, g3, g4, g5, g6⟩ := hS
                go_simp
              clear inv
              intro inv
              refine wpAnyT_take 9 (v := .pointer (some ⟨b, off0 + i * 7, none⟩)) hL9 inv rfl (by decide) (by kernel_rfl) (by kernel_rfl) (fun _ _ _ h => h) (.inl ⟨by kernel_rfl, fun V hS => ?_⟩) hS0 ?_
              · obtain ⟨g0, g1, g2, g3, g4, g5, g6⟩ := hS
                go_simp
              clear inv
              intro inv
              refine wpAnyT_take 10 (v := .agg #[.int .i64 d1, .int .i64 h1, .int .i64 o1, .int .i64 n1, .int .i64 c1, .int .i64 r1, .bool own1]) hL9 inv rfl (by decide) (by kernel_rfl) (by kernel_rfl) (fun _ _ _ h => h) (.inl ⟨by kernel_rfl, fun V hS => ?_⟩) hS0 ?_
              · obtain ⟨g0, g1, g2, g3, g4, g5, g6⟩ := hS
                go_simp
              clear inv
              intro inv
              refine wpAnyT_one 11 rfl (by kernel_rfl) ?_
              go_wp2_with (first
                | (go_at_call 15; (with_reducible refine ht.mono ?_); rintro _ _ ⟨rfl, y, rfl⟩))
              have hP2 := hPb.drew.later y
              have hb2 := hw0.trans (hP2.size.mono hw0.size)
              have hS2 : ApS b (off0 + i * 7) d1 h1 o1 n1 c1 r1 own1 y.at' := HCS.out y.at' hb2
              first | refine ⟨.inr hS2, ?_⟩ | refine ⟨hS2, ?_⟩
              have T := hP2.tryN hGb ⟨by omega, by omega⟩ d1 h1 o1 n1 C R HW1.out.2.1 HWR.out
              refine wpAnyT_one 12 rfl (by kernel_rfl) ?_
              go_wp2_with (first
                | (go_at_call 16; (with_reducible refine T.mono ?_); rintro _ W3 ⟨rfl, hP3, hS3, hN3⟩))
              refine ⟨.inl trivial, wpAnyT_done (by kernel_rfl) ?_⟩
              have hMm3 := ((hMm.later ⟨wr.drew, (Below.refl _ _).drew⟩).later y).stay (fun x hx => hS3 x (List.mem_append_left _ hx))
              have hMa3 := ((hMa.later ⟨wr.drew, (Below.refl _ _).drew⟩).later y).stay (fun x hx => hS3 x (List.mem_append_right _ (List.mem_append_left _ hx)))
              have hRk3 := (hRk.drew.later y).nt hN3
              have hl5 := tryS_len Sb d1 h1 o1 n1 C R
              clear hS0 hS2 hL9 inv
              go_wp2
              go_roundw
              case rel => exact ⟨i + 1, _, bo, bt, boa, bta, by go_num, by omega, hMm3, hMa3, hRk3, hP3, hGb.tryS _ _ _ _ _ _, by omega, by omega⟩
              case measure => simp [intOf]; omega
            · have i1 : ¬ (i : Int) < l2.length := by omega
              have s1 := Same_any hMa hMm hG hG
              have s2 := fun (x : Later wr) => Same_any (hMm.later x) (hMa.later x) hG hG
              rw [same_self] at s1
              simp only [same_self] at s2
              go_wp2_with (first
                | (go_at_call 25; (with_reducible refine s1.mono ?_); rintro _ _ ⟨rfl, x1, rfl⟩)
                | (go_at_call 25; (with_reducible refine (later_of _ (s2 _)).mono ?_); rintro _ _ ⟨rfl, x2, rfl⟩)
                | (go_at_call 9; (with_reducible refine (hlv _).mono ?_); rintro _ _ ⟨rfl, x3, rfl⟩))
              go_ret
              exact Ret.mk rfl (x3.cat (x2.cat hbw hbw.size) (Nat.le_trans hbw.size x2.below.size))
    · have hl1 : decide ((l2.length : Int) ≤ 20) = false := decide_eq_false (by omega)
      rw [hl1] at hsm2
      clear hl1
      go_enter Try.func7, Try.ntmps7
      go_wp2_with (first
        | (go_at_call 8; (with_reducible refine (hsm _).mono ?_); rintro _ _ ⟨rfl, rfl⟩)
        | (go_at_call 8; (with_reducible refine (hsm2 _).mono ?_); rintro _ _ ⟨rfl, rfl⟩)
        | (go_at_call 9; (with_reducible refine (hlv _).mono ?_); rintro _ _ ⟨rfl, x, rfl⟩))
      go_ret
      exact Ret.mk rfl x.below
  · have hl1 : decide ((l.length : Int) ≤ 20) = false := decide_eq_false (by omega)
    rw [hl1] at hsm
    clear hl1
    go_enter Try.func7, Try.ntmps7
    go_wp2_with (first
      | (go_at_call 8; (with_reducible refine (hsm _).mono ?_); rintro _ _ ⟨rfl, rfl⟩)
      | (go_at_call 8; (with_reducible refine (hsm2 _).mono ?_); rintro _ _ ⟨rfl, rfl⟩)
      | (go_at_call 9; (with_reducible refine (hlv _).mono ?_); rintro _ _ ⟨rfl, x, rfl⟩))
    go_ret
    exact Ret.mk rfl x.below
end Go.Proofs.Ytlcegnehlhakdaa
