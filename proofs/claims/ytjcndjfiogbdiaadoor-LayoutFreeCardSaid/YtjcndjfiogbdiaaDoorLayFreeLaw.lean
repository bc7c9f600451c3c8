/-
  LayoutFree, walked: it answers true at every config.
  Conditions: that live answers true; that the package's two fields of heads read as they are laid.
-/
import Derived.Test.YtjcndjfiogbdiaaDoorLayStartsMath
import Derived.Test.YtjcndjfiogbdiaaDoorOwned
import Derived.Test.YtjcndjfiogbdiaaDoorTwo
namespace Go.Proofs.YtjcndjfiogbdiaaDoor
open Go.RowKit
attribute [local go_sem] Later.cell Later.frozen Later.lt Later.le Turned.cell_lo Turned.cell_hi Turned.frozen_lo Turned.frozen_hi Turned.lt Turned.le
set_option linter.unusedVariables false

/-- The first k numbers. -/
def upto (k : Nat) : List Int := (List.range k).map Int.ofNat
theorem upto_len (k : Nat) : (upto k).length = k := by simp [upto]
theorem upto_succ (k : Nat) : upto (k + 1) = upto k ++ [(k : Int)] := by simp [upto, List.range_succ]
theorem Ints.more {w : World} {base k : Nat} {v : Value} {l : List Int} {x : Int} (h : w.ownsRow base 3 1 v (k + 1) (l.map (Value.int .i64) ++ [Value.int .i64 x])) (hl : l.length = k) : Ints w base v (l ++ [x]) := by
  unfold Ints
  rw [List.length_append, List.map_append, hl]
  exact h

/-- Behind an append of one number, beside plain cells. -/
theorem grown_turn {A : PAt} {V w4 : World} {ws bs l : List Int} {n p : Int} {v v' : Value} {o : Obj} (X : Turned A.lo A.hi V) (hM : Mem X.at' A ws bs n) (hown : Ints X.at' V.heap.size v l) (hA : A.hi ≤ V.heap.size) (hg : (X.at'.alloc o).grownBy w4 v.ownBlock)
    (hO : w4.ownsRow V.heap.size 3 1 v' (l.length + 1) (l.map (Value.int .i64) ++ [Value.int .i64 p])) : ∃ y : Turned A.lo A.hi V, w4 = y.at' ∧ Mem y.at' A ws bs n ∧ Ints y.at' V.heap.size v' (l ++ [p]) := by
  have hr : ∀ k, v.ownBlock = some k → V.heap.size ≤ k := fun k hk => (World.ownsRow.lt hown k hk).1
  exact ⟨⟨w4, (X.turn.alloc o).grown hg hr⟩, rfl, (hM.alloc o).grown hg (fun k hk => Nat.le_trans hA (hr k hk)), Ints.more hO rfl⟩
/-- The same where there are none. -/
theorem grown_late {V w4 : World} {l : List Int} {p : Int} {v v' : Value} {o : Obj} (X : Later V) (hown : Ints X.at' V.heap.size v l) (hg : (X.at'.alloc o).grownBy w4 v.ownBlock)
    (hO : w4.ownsRow V.heap.size 3 1 v' (l.length + 1) (l.map (Value.int .i64) ++ [Value.int .i64 p])) : ∃ y : Later V, w4 = y.at' ∧ Ints y.at' V.heap.size v' (l ++ [p]) := by
  have hr : ∀ k, v.ownBlock = some k → V.heap.size ≤ k := fun k hk => (World.ownsRow.lt hown k hk).1
  exact ⟨⟨w4, (X.below.alloc X.below.size o).grown hg (by have := X.below.size; simp; omega) hr⟩, rfl, Ints.more hO rfl⟩

/-- The top behind k slots: the next one, or none. -/
def frTop (s : Int) (k : Nat) : Int := if (k : Int) < s then k + 1 else 0
theorem stV_link {t s : Int} {f : Int → Int} (h0 : 1 ≤ t) (k : Nat) (hk : (k : Int) < s) : stV t s f (4 + t + k * 3 + 2) = frTop s (k + 1) := by
  unfold stV lkV faV frTop
  rw [if_neg (by omega), if_pos (by omega)]
  have e : (4 + t + (k : Int) * 3 + 2 - 6 - t) / 3 = k := by omega
  rw [e]
  by_cases c : (k : Int) + 1 < s
  · rw [if_pos c, if_pos (by omega)]; omega
  · rw [if_neg c, if_neg (by omega)]

/-- The first loop's relation: so many slots have been come to. -/
def FrRel (A : PAt) (w : World) (s : Int) (ws bs : List Int) (u v i : Value) (wr : World) : Prop :=
  ∃ k : Nat, (k : Int) ≤ s ∧ u = .int .i64 (frTop s k) ∧ i = .int .i64 k ∧ ∃ x : Turned A.lo A.hi w, wr = x.at' ∧ ∃ n, Mem x.at' A ws bs n ∧ Ints x.at' w.heap.size v (upto k)
/-- The second one's. -/
def FwRel (w : World) (s : Int) (v i : Value) (wr : World) : Prop :=
  ∃ k : Nat, (k : Int) ≤ s ∧ i = .int .i64 k ∧ ∃ x : Later w, wr = x.at' ∧ Ints x.at' w.heap.size v (upto k)

set_option maxHeartbeats 2000000 in
theorem free_no (a s t : Int) (w : World) (hlive : ∀ W, HasHead W → Calls Tryd.prog 22 #[] W (Ret W (.bool true))) (hF : HasHead w) (hmay : mayC a s t = false) :
    Calls Tryd.prog 6 #[.agg #[.int .i64 a, .int .i64 s, .int .i64 t]] w (Ret w (.bool true)) := by
  have c1 : ∀ W, Calls Tryd.prog 23 #[.int .i64 400, .int .i64 4096] W (Made W (List.replicate 400 0) (List.replicate 4096 0) 0) := fun W => New_ok 400 4096 (by decide) (by decide) (by decide) W
  generalize List.replicate 400 (0 : Int) = ws0 at c1
  generalize List.replicate 4096 (0 : Int) = bs0 at c1
  have cOf := fun W => Of_bad a s t hmay W
  clear hmay
  go_enter Tryd.func6, Tryd.ntmps6
  go_wp2_with (first
    | (go_at_call 9; (with_reducible refine (cOf _).mono ?_); rintro _ _ ⟨rfl, x1, rfl⟩; have hb := x1.boxed.alloc (x1.le w.heap.size (by simp)) (.cells #[.int .i64 0, .int .i64 0] 25); have HB := Lib.hid hb; have hF1 := hF.below hb; clear hb)
    | (go_at_call 23; (with_reducible refine (c1 _).mono ?_); rintro _ _ ⟨A, rfl, hA, x0, rfl, hM⟩; clear hA hM)
    | (go_at_call 22; (with_reducible refine (later_of _ (hlive _ (x0.heads hF1))).mono ?_); rintro _ _ ⟨rfl, x0, rfl⟩))
  go_ret
  exact Ret.mk rfl (x0.cat HB.out HB.out.size)

set_option maxHeartbeats 4000000 in
theorem free_yes (a s t : Int) (w : World) (hlive : ∀ W, HasHead W → Calls Tryd.prog 22 #[] W (Ret W (.bool true))) (hF : HasHead w) (hmay : mayC a s t = true) :
    Calls Tryd.prog 6 #[.agg #[.int .i64 a, .int .i64 s, .int .i64 t]] w (Ret w (.bool true)) := by
  have c1 : ∀ W, Calls Tryd.prog 23 #[.int .i64 400, .int .i64 4096] W (Made W (List.replicate 400 0) (List.replicate 4096 0) 0) := fun W => New_ok 400 4096 (by decide) (by decide) (by decide) W
  have e1 : Hid ((List.replicate 400 (0 : Int)).length = 400) := List.length_replicate
  have e2 : Hid ((List.replicate 4096 (0 : Int)).length = 4096) := List.length_replicate
  generalize List.replicate 400 (0 : Int) = ws0 at c1 e1
  generalize List.replicate 4096 (0 : Int) = bs0 at c1 e2
  obtain ⟨i0, hi, hz0, hz1, hz2⟩ := info_parts info_num
  obtain ⟨-, m1, m2, m3, m4, m5, m6⟩ := mayC_iff.1 hmay
  have hN : wordsN t s = 4 + t + s * 3 := rfl
  have cSt := fun (A : PAt) (ws : List Int) (n : Int) W (hF : HasHead W) (g0 : 0 < A.lo) (g1 : 1 < A.lo) (h : Mem W A ws bs0 n) (hl : ws.length = 400) => Start_ok a s t A ws bs0 n W hF g0 g1 h hmay (by rw [hl, hN]; omega) (by rw [e2.out]; omega)
  have cOf := fun W => Of_ok a s t hmay W
  have cSk := fun W => LStack_ok (t := t) (s := s) m5 W
  have cLk := fun (k : Int) W => LLink_any (t := t) (s := s) (by omega) m6 (by omega) m4 k W
  clear hN hmay
  go_enter Tryd.func6, Tryd.ntmps6
  go_wp2_with (go_at_call 9; (with_reducible refine (cOf _).mono ?_); rintro _ _ ⟨rfl, x1, rfl⟩)
  have hS := Two.begin (l0 := .int .i64 t) (l1 := .int .i64 s) (T2 := 25) x1
  generalize x1.at'.alloc (.cells #[.int .i64 t, .int .i64 s] 25) = W1 at hS ⊢
  generalize x1.at'.heap.size = b2 at hS ⊢
  clear x1 cOf
  refine (c1 _).mono ?_
  rintro _ _ ⟨A, rfl, hA, x0, rfl, hM⟩
  have hlo1 : w.heap.size < A.lo := Nat.lt_of_lt_of_le hS.2.2.2.2.2.s1 hA
  have hlo2 : b2 < A.lo := Nat.lt_of_lt_of_le hS.2.2.2.2.2.s2 hA
  obtain ⟨p0, p1, p2, q0, q1, hT⟩ := Two.later hS x0
  have hF0 : HasHead x0.at' := hF.below hT.bel
  have y1 := hT.s1
  have y2 := hT.s2
  have g0 : 0 < A.lo := Nat.lt_trans hF.lt0 hlo1
  have g1 : 1 < A.lo := Nat.lt_trans hF.lt1 hlo1
  have HT := Lib.hid hT
  clear hS hA c1 hT
  generalize x0.at' = V0 at *
  clear x0 W1
  go_wp2_with (go_at_call 26; (with_reducible refine (cSt A ws0 0 _ hF0 g0 g1 hM e1.out).mono ?_); rintro _ _ ⟨rfl, z, rfl, ws1, n1, hM1, hlen1, hat1⟩)
  have hL0 : ∀ (n : Int) (W : World), Mem W A ws1 bs0 n → Calls Tryd.prog 27 #[.pointer (some ⟨A.p, 0, none⟩), .int .i64 1] W (PRet A W (.int .i64 1) ws1 bs0 (up n)) := fun n W h => by
    have := Load_any 1 h
    rw [hat1] at this
    exact this
  have hLk : Hid (∀ (k : Nat), (k : Int) < s → ∀ (n : Int) (W : World), Mem W A ws1 bs0 n → Calls Tryd.prog 27 #[.pointer (some ⟨A.p, 0, none⟩), .int .i64 (4 + t + k * 3 + 2)] W (PRet A W (.int .i64 (frTop s (k + 1))) ws1 bs0 (up n))) := fun k hk n W h => by
    have := Load_any (4 + t + k * 3 + 2) h
    rw [hat1, stV_link m5 k hk] at this
    exact this
  clear hat1 hlen1 hM cSt
  refine (tmem_of z hM1 (cSk _)).mono ?_
  rintro _ _ ⟨rfl, z, rfl, hM1⟩
  go_wp2_with (go_at_call 27; (with_reducible refine (pret_of z (hL0 _ _ hM1)).mono ?_); rintro _ _ ⟨rfl, z, rfl, hM1⟩)
  have r0 := (z.cell_lo _ _ _ y1 hlo1).trans p0
  have r1 := (z.cell_lo _ _ _ y1 hlo1).trans p1
  have r2 := (z.cell_lo _ _ _ y1 hlo1).trans p2
  have u0 := (z.cell_lo _ _ _ y2 hlo2).trans q0
  have u1 := (z.cell_lo _ _ _ y2 hlo2).trans q1
  have v1 := z.lt _ y1
  have v2 := z.lt _ y2
  have hF1 : HasHead z.at' := hF0.turned z g0 g1
  have hb1 : Below w.heap.size w z.at' := z.turn.below HT.out.bel (by omega) HT.out.bel.size
  have HB := Lib.hid hb1
  have hAs := hM1.hs
  clear p0 p1 p2 q0 q1 y1 y2 hF0 HT hL0 cSk hb1
  generalize z.at' = V1 at *

  go_loopw [6, 7, 8] (fun u v i wr => FrRel A V1 s ws1 bs0 u v i wr) (fun _ _ i _ => (s - intOf i).toNat)
  case atStart => exact ⟨0, by omega, by unfold frTop; rw [if_pos (by omega)]; rfl, rfl, Turned.none _ _ _, rfl, _, hM1, Ints.nil _ _⟩
  case round =>
    obtain ⟨k, hk, rfl, rfl, x, rfl, n2, hM2, hown⟩ := hrel
    clear hM1
    by_cases hks : (k : Int) < s
    · have et : frTop s k = k + 1 := if_pos hks
      rw [et]
      have hlk := cLk k
      rw [partN_in (by omega)] at hlk
      have hld := hLk.out k hks
      have hsz := x.turn.size
      generalize hpl : 4 + t + (k : Int) * 3 + 2 = pl at hlk hld
      clear hpl et cLk r0 r2
      go_wp2_with (first
        | (at_builtin; refine wpList_append_own _ rfl _ _ 33 rfl V1.heap.size 3 i0 (.int .i64 0) 1 8 Tryd.underlying33 hi hz0 hz1 hz2 rfl (by decide) _ _ _ rfl (hown.alloc _) ⟨x.at'.heap.size, 0, none⟩ 1 1 [.int .i64 k] rfl rfl (cell_one_new _ _ _) (fun u hu => by simp at hu; subst hu; rfl) (by rw [upto_len]; unfold maxLen; omega) (by rw [upto_len]; omega) (by simp; omega) ?_; intro v' w4 hown' hgrow _; obtain ⟨y, rfl, hM3, hO3⟩ := grown_turn x hM2 hown hAs hgrow hown'; clear hgrow hown')
        | (go_at_call 20; (with_reducible refine (hlk _).mono ?_); rintro _ _ ⟨rfl, y2, rfl⟩)
        | (go_at_call 27; (with_reducible refine (hld _ _ (hM3.later y2)).mono ?_); rintro _ _ ⟨rfl, z5, rfl, hM5⟩))
      go_roundw
      case rel => exact ⟨k + 1, by omega, rfl, by go_num, (y.late y2).on z5.turn, rfl, _, hM5, by rw [upto_succ]; exact (hO3.later y2).touch z5.turn hAs⟩
      case measure => simp [intOf]; omega
    · have ek : (k : Int) = s := by omega
      have et : frTop s k = 0 := if_neg hks
      rw [et]
      have EK := Lib.hid ek
      have ET := Lib.hid et
      have hge : (k : Int) ≤ s := hk
      have hlo3 : w.heap.size < V1.heap.size := v1
      have hbx : Below w.heap.size w x.at' := x.turn.below HB.out (by omega) HB.out.size
      have HBX := Lib.hid hbx
      have hFx : HasHead x.at' := hF1.turned x g0 g1
      have w1 := (x.cell_lo _ _ _ v1 hlo1).trans r1
      have z1 := x.lt _ v1
      have HO := Lib.hid hown
      have hsz := x.turn.size
      clear ek et hLk cLk r0 r2 u0 u1 hM2 hbx hown
      go_wp2_with fail
      generalize x.at' = V2 at *
      go_loopw [9, 10] (fun v i wr => FwRel V2 s v i wr) (fun _ i _ => (s - intOf i).toNat)
      case atStart => exact ⟨0, by omega, rfl, ⟨V2, Below.refl _ _⟩, rfl, Ints.nil _ _⟩
      case round =>
        obtain ⟨j, hj, rfl, y, rfl, hown2⟩ := hrel
        by_cases hjs : (j : Int) < s
        · have hyz := y.below.size
          go_wp2_with (at_builtin; refine wpList_append_own _ rfl _ _ 33 rfl V2.heap.size 3 i0 (.int .i64 0) 1 8 Tryd.underlying33 hi hz0 hz1 hz2 rfl (by decide) _ _ _ rfl (hown2.alloc _) ⟨y.at'.heap.size, 0, none⟩ 1 1 [.int .i64 j] rfl rfl (cell_one_new _ _ _) (fun u hu => by simp at hu; subst hu; rfl) (by rw [upto_len]; unfold maxLen; omega) (by rw [upto_len]; omega) (by simp; omega) ?_; intro v' w4 hown' hgrow _; obtain ⟨y2, rfl, hO3⟩ := grown_late y hown2 hgrow hown'; clear hgrow hown')
          go_roundw
          case rel => exact ⟨j + 1, by omega, by go_num, y2, rfl, by rw [upto_succ]; exact hO3⟩
          case measure => simp [intOf]; omega
        · have ej : j = k := by have := EK.out; omega
          subst ej
          have hne : upto j ≠ [] := fun h => by
            have h2 := congrArg List.length h
            rw [upto_len, List.length_nil] at h2
            have := EK.out
            omega
          obtain ⟨ga, ca, rfl, _, hla, hca⟩ := (HO.out.later y).open' hne
          obtain ⟨gb, cb, rfl, _, hlb, hcb⟩ := hown2.open' hne
          have hsame := Same_rows (fun i => (upto j).getD i 0) (upto j).length ga ca gb cb y.at' (by rw [upto_len]; have := EK.out; omega) hla hlb hca hcb
          have hnj : ¬ (j : Int) < s := hjs
          clear hca hcb hj hown2
          go_wp2_with (first
            | (go_at_call 30; (with_reducible refine (later_of y hsame).mono ?_); rintro _ _ ⟨rfl, y3, rfl⟩)
            | (go_at_call 22; (with_reducible refine (later_of y3 (hlive _ (y3.heads hFx))).mono ?_); rintro _ _ ⟨rfl, y3, rfl⟩))
          go_ret
          exact Ret.mk rfl (y3.cat HBX.out HBX.out.size)
theorem LayoutFree_walk {a s t : Int} {w : World} (hlive : ∀ W, HasHead W → Calls Tryd.prog 22 #[] W (Ret W (.bool true))) (hF : HasHead w) :
    Calls Tryd.prog 6 #[.agg #[.int .i64 a, .int .i64 s, .int .i64 t]] w (Ret w (.bool true)) := by
  cases h : mayC a s t
  · exact free_no a s t w hlive hF h
  · exact free_yes a s t w hlive hF h
end Go.Proofs.YtjcndjfiogbdiaaDoor
