/-
  LayoutAgain, walked: it answers true at every config, place and number.
  Conditions: that live answers true; that the package's two fields of heads read as they are laid.
-/
import Derived.Test.YtjcndjfiogbdiaaDoorLayRefStart
import Derived.Test.YtjcndjfiogbdiaaDoorLayStartsMath
import Derived.Test.YtjcndjfiogbdiaaDoorPlainCopy
namespace Go.Proofs.YtjcndjfiogbdiaaDoor
open Go.RowKit
attribute [local go_sem] Later.cell Later.frozen Later.lt Later.le Turned.cell_lo Turned.cell_hi Turned.frozen_lo Turned.frozen_hi Turned.lt Turned.le
set_option linter.unusedVariables false

theorem Touch.wide {lo hi lo' hi' : Nat} {w w' : World} (h : Touch lo hi w w') (h1 : lo' ≤ lo) (h2 : hi ≤ hi') : Touch lo' hi' w w' := ⟨h.os, h.tape, h.output, h.size, fun k hk hs => h.block k hk (by omega)⟩

theorem setI_far {l : List Int} {p v i : Int} (h : i ≠ p) : atI (setI l p v) i = atI l i := by
  cases k : inI l p
  · rw [setI_no k]
  · rw [atI_set _ _ _ _ k, if_neg h]

/-- What is known behind New. -/
theorem again_facts {w : World} {c0 c1 c2 : Value} {T : TypeId} {lo : Nat} (x0 : Later (w.alloc (.cells #[c0, c1, c2] T))) (hA : (w.alloc (.cells #[c0, c1, c2] T)).heap.size ≤ lo) :
    Below w.heap.size w x0.at' ∧ w.heap.size < x0.at'.heap.size ∧ w.heap.size < lo ∧ x0.at'.cell? ⟨w.heap.size, 0, none⟩ = some c0 ∧ x0.at'.cell? ⟨w.heap.size, 1, none⟩ = some c1 ∧ x0.at'.cell? ⟨w.heap.size, 2, none⟩ = some c2 := by
  rw [World.size_alloc] at hA
  have hc : ∀ k, x0.at'.cell? ⟨w.heap.size, k, none⟩ = (#[c0, c1, c2])[k]? := fun k => by
    rw [x0.cell _ _ _ (by simp), World.cell?_alloc_new]
  exact ⟨x0.boxed, x0.lt _ (by simp), by omega, hc 0, hc 1, hc 2⟩

/-- What is known behind Copy. -/
theorem again_facts2 {w W0 : World} {c0 c1 c2 l0 l1 : Value} {T : TypeId} {A B : PAt} {ws bs : List Int} {n : Int} (HB : Below w.heap.size w W0) (y1 : w.heap.size < W0.heap.size) (y2 : w.heap.size < A.lo) (f0 : W0.cell? ⟨w.heap.size, 0, none⟩ = some c0) (f1 : W0.cell? ⟨w.heap.size, 1, none⟩ = some c1) (f2 : W0.cell? ⟨w.heap.size, 2, none⟩ = some c2)
    (x1 : Turned A.lo A.hi W0) (hM1 : Mem x1.at' A ws bs n) (x2 : Later x1.at') (hB : (x2.at'.alloc (.cells #[l0, l1] T)).heap.size ≤ B.lo) (x3 : Later (x2.at'.alloc (.cells #[l0, l1] T))) :
    Below w.heap.size w x3.at' ∧ w.heap.size < x3.at'.heap.size ∧ x2.at'.heap.size < x3.at'.heap.size ∧ x3.at'.cell? ⟨w.heap.size, 0, none⟩ = some c0 ∧ x3.at'.cell? ⟨w.heap.size, 1, none⟩ = some c1 ∧ x3.at'.cell? ⟨w.heap.size, 2, none⟩ = some c2 ∧
      x3.at'.cell? ⟨x2.at'.heap.size, 0, none⟩ = some l0 ∧ x3.at'.cell? ⟨x2.at'.heap.size, 1, none⟩ = some l1 ∧ A.hi ≤ B.lo ∧ Mem x3.at' A ws bs n := by
  rw [World.size_alloc] at hB
  have z1 := x1.lt _ y1
  have z2 := x2.lt _ z1
  have hb2 : Below w.heap.size w x2.at' := (x1.turn.below HB (by omega) HB.size).trans (x2.below.mono (x1.turn.below HB (by omega) HB.size).size)
  have k : ∀ j u, W0.cell? ⟨w.heap.size, j, none⟩ = some u → x3.at'.cell? ⟨w.heap.size, j, none⟩ = some u := fun j u hu => by
    rw [x3.cell _ _ _ (by simp; omega), World.cell?_alloc_past _ _ _ z2, x2.cell _ _ _ z1, x1.cell_lo _ _ _ y1 y2]
    exact hu
  have hh := (hM1.later x2).hs
  refine ⟨(hb2.alloc (by omega) _).trans (x3.below.mono (by simp; omega)), x3.lt _ (by simp; omega), x3.lt _ (by simp), k _ _ f0, k _ _ f1, k _ _ f2, ?_, ?_, by omega, ((hM1.later x2).alloc _).later x3⟩
  · rw [x3.cell _ _ _ (by simp), World.cell?_alloc_new]; rfl
  · rw [x3.cell _ _ _ (by simp), World.cell?_alloc_new]; rfl

/-- The loop's relation: two of plain cells, each with its words. -/
def LgRel (A B : PAt) (w : World) (wa ba wb bb : List Int) (u : Value) (wr : World) : Prop :=
  ∃ k : Nat, k ≤ 400 ∧ u = .int .i64 k ∧ ∃ x : Turned A.lo B.hi w, wr = x.at' ∧ ∃ n m, Mem x.at' A wa ba n ∧ Mem x.at' B wb bb m

set_option maxHeartbeats 2000000 in
theorem again_no (a s t p v : Int) (w : World) (hlive : ∀ W, HasHead W → Calls Tryd.prog 22 #[] W (Ret W (.bool true))) (hF : HasHead w) (hmay : mayC a s t = false) :
    Calls Tryd.prog 8 #[.agg #[.int .i64 a, .int .i64 s, .int .i64 t], .int .i64 p, .int .i64 v] w (Ret w (.bool true)) := by
  have c1 : ∀ W, Calls Tryd.prog 23 #[.int .i64 400, .int .i64 4096] W (Made W (List.replicate 400 0) (List.replicate 4096 0) 0) := fun W => New_ok 400 4096 (by decide) (by decide) (by decide) W
  generalize List.replicate 400 (0 : Int) = ws0 at c1
  generalize List.replicate 4096 (0 : Int) = bs0 at c1
  have cSt := fun W (m : Value) => Start_mayNot a s t m hmay W
  have cMay := fun W => rMay_no hmay W
  clear hmay
  go_enter Tryd.func8, Tryd.ntmps8
  go_wp2_with (first
    | (go_at_call 23; (with_reducible refine (c1 _).mono ?_); rintro _ _ ⟨A, rfl, hA, x0, rfl, hM⟩; obtain ⟨hb, y1, y2, f0, f1, f2⟩ := again_facts x0 hA; have HB := Lib.hid hb; clear hb hA)
    | (go_at_call 26; (with_reducible refine (cSt _ _).mono ?_); rintro _ _ ⟨rfl, x1, rfl⟩)
    | (go_at_call 10; (with_reducible refine (later_of _ (cMay _)).mono ?_); rintro _ _ ⟨rfl, x1, rfl⟩)
    | (go_at_call 22; (with_reducible refine (later_of _ (hlive _ ((hF.below HB.out).below x1.below))).mono ?_); rintro _ _ ⟨rfl, x1, rfl⟩))
  go_ret
  exact Ret.mk rfl (x1.cat HB.out HB.out.size)

set_option maxHeartbeats 2000000 in
theorem again_yes (a s t p v : Int) (w : World) (hlive : ∀ W, HasHead W → Calls Tryd.prog 22 #[] W (Ret W (.bool true))) (hF : HasHead w) (hmay : mayC a s t = true) :
    Calls Tryd.prog 8 #[.agg #[.int .i64 a, .int .i64 s, .int .i64 t], .int .i64 p, .int .i64 v] w (Ret w (.bool true)) := by
  have c1 : ∀ W, Calls Tryd.prog 23 #[.int .i64 400, .int .i64 4096] W (Made W (List.replicate 400 0) (List.replicate 4096 0) 0) := fun W => New_ok 400 4096 (by decide) (by decide) (by decide) W
  have e1 : Hid ((List.replicate 400 (0 : Int)).length = 400) := List.length_replicate
  have e2 : Hid ((List.replicate 4096 (0 : Int)).length = 4096) := List.length_replicate
  generalize List.replicate 400 (0 : Int) = ws0 at c1 e1
  generalize List.replicate 4096 (0 : Int) = bs0 at c1 e2
  obtain ⟨-, m1, m2, m3, m4, m5, m6⟩ := mayC_iff.1 hmay
  have hN : wordsN t s = 4 + t + s * 3 := rfl
  have cSt := fun (A : PAt) (ws : List Int) (n : Int) W (hF : HasHead W) (g0 : 0 < A.lo) (g1 : 1 < A.lo) (h : Mem W A ws bs0 n) (hl : ws.length = 400) => Start_ok a s t A ws bs0 n W hF g0 g1 h hmay (by rw [hl, hN]; omega) (by rw [e2.out]; omega)
  have cOf := fun W => Of_ok a s t hmay W
  have cW := fun W => LWords_ok (t := t) (s := s) m5 m6 (by omega) m4 W
  have HN := Lib.hid hN
  clear hN
  have d0 : (0 : Int) = 0 := rfl
  go_enter Tryd.func8, Tryd.ntmps8
  go_wp2_with (first
    | (go_at_call 23; (with_reducible refine (c1 _).mono ?_); rintro _ _ ⟨A, rfl, hA, x0, rfl, hM⟩; obtain ⟨hb, y1, y2, f0, f1, f2⟩ := again_facts x0 hA; have HB := Lib.hid hb; clear hb hA)
    | (go_at_call 26; (with_reducible refine (cSt A ws0 0 _ (hF.below HB.out) (Nat.lt_trans hF.lt0 y2) (Nat.lt_trans hF.lt1 y2) hM e1.out).mono ?_); rintro _ _ ⟨rfl, x1, rfl, ws1, n1, hM1, hlen1, hat1⟩)
    | (go_at_call 9; (with_reducible refine (cOf _).mono ?_); rintro _ _ ⟨rfl, x2, rfl⟩))
  obtain ⟨B1, B2⟩ : True ∧ True := ⟨trivial, trivial⟩
  refine (Copy_any ((hM1.later x2).alloc _)).mono ?_
  rintro _ _ ⟨B, rfl, hB, x3, rfl, hMB⟩
  obtain ⟨hbv, v1, v2, r0, r1, r2, q0, q1, hAB, hMA⟩ := again_facts2 HB.out y1 y2 f0 f1 f2 x1 hM1 x2 hB x3
  have HBV := Lib.hid hbv
  have hFV : HasHead x3.at' := hF.below hbv
  have g0 : 0 < A.lo := Nat.lt_trans hF.lt0 y2
  have g1 : 1 < A.lo := Nat.lt_trans hF.lt1 y2
  have HL1 : Hid (ws1.length = 400) := hlen1.trans e1.out
  have HA1 := Lib.hid hat1
  clear hlen1 hat1 hbv hB hM1 hM f0 f1 f2
  generalize x3.at' = V at *
  generalize x2.at'.heap.size = b2 at *
  clear x3 x2 x1 B1 B2
  go_wp2_with fail
  by_cases hp : p < wordsN t s
  · refine (tmem_of (Turned.none _ _ V) hMA (cW _)).mono ?_
    rintro _ _ ⟨rfl, z, rfl, hMA⟩
    go_wp2_with (first
      | (go_at_call 24; (with_reducible refine (pret_of z (Store_any p v hMA)).mono ?_); rintro _ _ ⟨rfl, z, rfl, hMA⟩)
      | (go_at_call 26; (with_reducible refine (wret_of z (cSt A _ _ _ (hFV.turned z g0 g1) g0 g1 hMA (by rw [setI_length]; exact HL1.out))).mono ?_); rintro _ _ ⟨rfl, z, rfl, ws3, n3, hMA, hlen3, hat3⟩))
    have hval : Hid (∀ i : Nat, i < 400 → atI ws3 i = atI ws1 i) := fun i hi => by
      rw [hat3, HA1.out]
      by_cases hiN : (i : Int) < wordsN t s
      · rw [st_in m5 m3 i hiN, st_in m5 m3 i hiN]
      · rw [st_out m5 m3 i (by omega), st_out m5 m3 i (by omega), setI_far (by omega), HA1.out, st_out m5 m3 i (by omega)]
    have hMB' := hMB.touch z.turn (Or.inr hAB)
    have hz : Turned A.lo B.hi V := ⟨z.at', z.turn.wide (Nat.le_refl _) (Nat.le_trans hAB (Nat.le_of_lt (Nat.lt_of_le_of_lt hMB.lp hMB.up)))⟩
    have hzt : Touch A.lo B.hi V z.at' := z.turn.wide (Nat.le_refl _) (Nat.le_trans hAB (Nat.le_of_lt (Nat.lt_of_le_of_lt hMB.lp hMB.up)))
    clear hMB cSt cOf cW hat3 hlen3 r0 r1 r2 q0 q1
    go_loopw [12] (fun u wr => LgRel A B V ws3 bs0 ws1 bs0 u wr) (fun u _ => (400 - intOf u).toNat)
    case atStart => exact ⟨0, by omega, rfl, ⟨_, hzt⟩, rfl, _, _, hMA, hMB'⟩
    case round =>
      obtain ⟨i, hi, rfl, x, rfl, na, nb, hA4, hB4⟩ := hrel
      clear hMA hMB' hzt hz
      by_cases hi4 : i < 400
      · have k1 := Load_any i hA4
        have k2 := fun n W (h : Mem W B ws1 bs0 n) => Load_any i h
        rw [hval.out i hi4] at k1
        have hi5 : (i : Int) < 400 := by omega
        generalize atI ws1 i = u at k1 k2
        have e3 : (u != u) = false := by simp
        clear hval
        go_wp2_with (first
          | (go_at_call 27; (with_reducible refine k1.mono ?_); rintro _ _ ⟨rfl, z1, rfl, hA5⟩)
          | (go_at_call 27; (with_reducible refine (k2 _ _ (hB4.touch z1.turn (Or.inr hAB))).mono ?_); rintro _ _ ⟨rfl, z2, rfl, hB5⟩))
        go_roundw
        case rel =>
          refine ⟨i + 1, by omega, by go_num, ⟨z2.at', (x.turn.trans (z1.turn.wide (Nat.le_refl _) ?_)).trans (z2.turn.wide ?_ (Nat.le_refl _))⟩, rfl, _, _, hA5.touch z2.turn (Or.inl hAB), hB5⟩
          · exact Nat.le_trans hAB (Nat.le_of_lt (Nat.lt_of_le_of_lt hB4.lp hB4.up))
          · exact Nat.le_trans (Nat.le_of_lt (Nat.lt_of_le_of_lt hA4.lp hA4.up)) hAB
        case measure => simp [intOf]; omega
      · have hi5 : ¬ (i : Int) < 400 := by omega
        have hg0 : 0 < A.lo := g0
        clear hval hi
        go_wp2_with (go_at_call 22; (with_reducible refine (turned_of x (hlive _ (hFV.touch x.turn g0 g1))).mono ?_); rintro _ _ ⟨rfl, x, rfl⟩)
        go_ret
        exact Ret.mk rfl (x.turn.below HBV.out (by omega) HBV.out.size)
  · refine (tmem_of (Turned.none _ _ V) hMA (cW _)).mono ?_
    rintro _ _ ⟨rfl, z, rfl, hMA⟩
    go_wp2_with (first
      | (go_at_call 26; (with_reducible refine (wret_of z (cSt A _ _ _ (hFV.turned z g0 g1) g0 g1 hMA HL1.out)).mono ?_); rintro _ _ ⟨rfl, z, rfl, ws3, n3, hMA, hlen3, hat3⟩))
    have hval : Hid (∀ i : Nat, i < 400 → atI ws3 i = atI ws1 i) := fun i hi => by
      rw [hat3, HA1.out]
      by_cases hiN : (i : Int) < wordsN t s
      · rw [st_in m5 m3 i hiN, st_in m5 m3 i hiN]
      · rw [st_out m5 m3 i (by omega), st_out m5 m3 i (by omega), HA1.out, st_out m5 m3 i (by omega)]
    have hMB' := hMB.touch z.turn (Or.inr hAB)
    have hz : Turned A.lo B.hi V := ⟨z.at', z.turn.wide (Nat.le_refl _) (Nat.le_trans hAB (Nat.le_of_lt (Nat.lt_of_le_of_lt hMB.lp hMB.up)))⟩
    have hzt : Touch A.lo B.hi V z.at' := z.turn.wide (Nat.le_refl _) (Nat.le_trans hAB (Nat.le_of_lt (Nat.lt_of_le_of_lt hMB.lp hMB.up)))
    clear hMB cSt cOf cW hat3 hlen3 r0 r1 r2 q0 q1
    go_loopw [12] (fun u wr => LgRel A B V ws3 bs0 ws1 bs0 u wr) (fun u _ => (400 - intOf u).toNat)
    case atStart => exact ⟨0, by omega, rfl, ⟨_, hzt⟩, rfl, _, _, hMA, hMB'⟩
    case round =>
      obtain ⟨i, hi, rfl, x, rfl, na, nb, hA4, hB4⟩ := hrel
      clear hMA hMB' hzt hz
      by_cases hi4 : i < 400
      · have k1 := Load_any i hA4
        have k2 := fun n W (h : Mem W B ws1 bs0 n) => Load_any i h
        rw [hval.out i hi4] at k1
        have hi5 : (i : Int) < 400 := by omega
        generalize atI ws1 i = u at k1 k2
        have e3 : (u != u) = false := by simp
        clear hval
        go_wp2_with (first
          | (go_at_call 27; (with_reducible refine k1.mono ?_); rintro _ _ ⟨rfl, z1, rfl, hA5⟩)
          | (go_at_call 27; (with_reducible refine (k2 _ _ (hB4.touch z1.turn (Or.inr hAB))).mono ?_); rintro _ _ ⟨rfl, z2, rfl, hB5⟩))
        go_roundw
        case rel =>
          refine ⟨i + 1, by omega, by go_num, ⟨z2.at', (x.turn.trans (z1.turn.wide (Nat.le_refl _) ?_)).trans (z2.turn.wide ?_ (Nat.le_refl _))⟩, rfl, _, _, hA5.touch z2.turn (Or.inl hAB), hB5⟩
          · exact Nat.le_trans hAB (Nat.le_of_lt (Nat.lt_of_le_of_lt hB4.lp hB4.up))
          · exact Nat.le_trans (Nat.le_of_lt (Nat.lt_of_le_of_lt hA4.lp hA4.up)) hAB
        case measure => simp [intOf]; omega
      · have hi5 : ¬ (i : Int) < 400 := by omega
        have hg0 : 0 < A.lo := g0
        clear hval hi
        go_wp2_with (go_at_call 22; (with_reducible refine (turned_of x (hlive _ (hFV.touch x.turn g0 g1))).mono ?_); rintro _ _ ⟨rfl, x, rfl⟩)
        go_ret
        exact Ret.mk rfl (x.turn.below HBV.out (by omega) HBV.out.size)

theorem LayoutAgain_walk {a s t p v : Int} {w : World} (hlive : ∀ W, HasHead W → Calls Tryd.prog 22 #[] W (Ret W (.bool true))) (hF : HasHead w) :
    Calls Tryd.prog 8 #[.agg #[.int .i64 a, .int .i64 s, .int .i64 t], .int .i64 p, .int .i64 v] w (Ret w (.bool true)) := by
  cases h : mayC a s t
  · exact again_no a s t p v w hlive hF h
  · exact again_yes a s t p v w hlive hF h
end Go.Proofs.YtjcndjfiogbdiaaDoor
