/-
  The steps of a machine that pins, or unpins, an object: its end, the entry.
  Conditions: none but that the machine and plain cells lie there, and the table of fields reads as it is laid.
-/
import Derived.Test.YtnojemmpgaibkaaDoorPnMath
import Derived.Test.YtnojemmpgaibkaaDoorRdBase
import Derived.Test.YtnojemmpgaibkaaDoorHandleWalks4
import Derived.Test.YtnojemmpgaibkaaDoorEntryTurns
import Derived.Deep.RegionHeld3
import Derived.Deep.CutRange
import Derived.BigQuiet
namespace Go.Proofs.YtnojemmpgaibkaaDoor
open Go.RowKit
attribute [local go_sem] Later.cell Later.frozen Later.lt Later.le Turned.cell_lo Turned.cell_hi Turned.frozen_lo Turned.frozen_hi Turned.lt Turned.le
set_option linter.unusedVariables false
set_option linter.unusedSimpArgs false

/-- Three cells of a machine: its layout, its slot. -/
theorem p3T {w : World} {k : Nat} {u0 u1 u3 : Value} (h : w.cell? ⟨k, 0, none⟩ = some u0 ∧ w.cell? ⟨k, 1, none⟩ = some u1 ∧ w.cell? ⟨k, 3, none⟩ = some u3) (hlt : k < w.heap.size) {lo hi : Nat} (hk : k < lo ∨ hi ≤ k) (z : Turned lo hi w) :
    z.at'.cell? ⟨k, 0, none⟩ = some u0 ∧ z.at'.cell? ⟨k, 1, none⟩ = some u1 ∧ z.at'.cell? ⟨k, 3, none⟩ = some u3 :=
  ⟨(z.turn.cell _ _ _ hlt hk).trans h.1, (z.turn.cell _ _ _ hlt hk).trans h.2.1, (z.turn.cell _ _ _ hlt hk).trans h.2.2⟩
theorem p3L {w : World} {k : Nat} {u0 u1 u3 : Value} (h : w.cell? ⟨k, 0, none⟩ = some u0 ∧ w.cell? ⟨k, 1, none⟩ = some u1 ∧ w.cell? ⟨k, 3, none⟩ = some u3) (hlt : k < w.heap.size) (y : Later w) :
    y.at'.cell? ⟨k, 0, none⟩ = some u0 ∧ y.at'.cell? ⟨k, 1, none⟩ = some u1 ∧ y.at'.cell? ⟨k, 3, none⟩ = some u3 :=
  ⟨(y.cell _ _ _ hlt).trans h.1, (y.cell _ _ _ hlt).trans h.2.1, (y.cell _ _ _ hlt).trans h.2.2⟩
theorem p3S {w : World} {k : Nat} {u0 u1 u3 v : Value} (h : w.cell? ⟨k, 0, none⟩ = some u0 ∧ w.cell? ⟨k, 1, none⟩ = some u1 ∧ w.cell? ⟨k, 3, none⟩ = some u3) :
    (w.setCell ⟨k, 8, none⟩ v).cell? ⟨k, 0, none⟩ = some u0 ∧ (w.setCell ⟨k, 8, none⟩ v).cell? ⟨k, 1, none⟩ = some u1 ∧ (w.setCell ⟨k, 8, none⟩ v).cell? ⟨k, 3, none⟩ = some u3 :=
  ⟨by rw [World.cell?_setCell_other _ _ _ _ (by simp)]; exact h.1, by rw [World.cell?_setCell_other _ _ _ _ (by simp)]; exact h.2.1, by rw [World.cell?_setCell_other _ _ _ _ (by simp)]; exact h.2.2⟩
section
variable {A : PAt} {ws bs : List Int} {n : Int} {w W : World} {k : Nat} {t s : Int} {M : Pm}
theorem pend_any (hP : Fs w k (pmL t s M)) (c : Int) : Calls Tryd.prog 95 #[.pointer (some ⟨k, 0, none⟩), .int .i64 c] w fun e w' => e = .returned (.tuple #[]) ∧ (w.setCell ⟨k, 10, none⟩ (.int .i64 c)).setCell ⟨k, 7, none⟩ (.int .i64 0) = w' := by
  have c7 : w.cell? ⟨k, 7, none⟩ = some (.int .i64 M.step) := hP.at' 7 rfl
  have c10 : w.cell? ⟨k, 10, none⟩ = some (.int .i64 M.code) := hP.at' 10 rfl
  have f7 := hP.fz 7
  have f10 := hP.fz 10
  clear hP
  go_enter Tryd.func95, Tryd.ntmps95
  go_wp2
  first | go_end0 | refine bodyPost_ret (results_none rfl _ _ _) rfl ?_
  exact ⟨rfl, rfl⟩
theorem pEnd (hV : Moved (spanS A k) w W) (hM : ∃ n, Mem W A ws bs n) (hP : Fs W k (pmL t s M)) (hk : A.hi ≤ k) (c : Int) :
    SRet A k w (.tuple #[]) (pmL t s (pmEnd c M)) ws bs (.returned (.tuple #[])) ((W.setCell ⟨k, 10, none⟩ (.int .i64 c)).setCell ⟨k, 7, none⟩ (.int .i64 0)) := by
  obtain ⟨m, hm⟩ := hM
  exact ⟨rfl, (hV.setCell _ _ spanS_self).setCell _ _ spanS_self, ⟨m, (hm.setOther _ _ (Or.inr hk)).setOther _ _ (Or.inr hk)⟩, (hP.set 10 (by simp [pmL]) _).set 7 (by simp [pmL]) _⟩
/-- The function that it holds, called. -/
theorem turn_any (un : Bool) (x : Int) (w : World) (hF : HasFields w) : Calls Tryd.prog (if un then 54 else 53) #[.int .i64 x] w (Ret w (.tuple #[.int .i64 (turnV un x), .int .i64 (turnC un x)])) := by
  cases un
  · exact Pin_any x w hF
  · exact Unpin_any x w hF
/-- Is a word none of the handle's own? -/
def pstaleB (er : Int) (lv : Bool) (g gen : Int) : Bool := !((er == 0) && (lv && (g == gen)))
set_option maxHeartbeats 8000000 in
theorem ple_any (x : Int) (hxe : atI ws (partN t s M.slot 0) = x) (hS : ESeat w A k t s) (hM : Mem w A ws bs n) (hP : Fs w k (pmL t s M)) :
    Calls Tryd.prog 76 #[.pointer (some ⟨k, 0, none⟩), ifc A] w (SRet A k w (.tuple #[]) (pmL t s (pm1 x M)) ws bs) := by
  have c2 : w.cell? ⟨k, 2, none⟩ = some (.bool M.kn) := hP.at' 2 rfl
  cases hkn : M.kn
  · rw [hkn] at c2
    have hk := hS.hk
    have E := Lib.hid (show pm1 x M = pmEnd 4 M from by unfold pm1; rw [hkn]; rfl)
    have he := pend_any hP 4
    have hfin := pEnd (Moved.refl (spanS A k) w) ⟨n, hM⟩ hP hk
    clear hP hM hS hkn hxe
    unfold ifc
    go_enter Tryd.func76, Tryd.ntmps76
    go_wp2_with (go_at_call 95; (with_reducible refine he.mono ?_); rintro _ _ ⟨rfl, rfl⟩)
    first | go_end0 | refine bodyPost_ret (results_none rfl _ _ _) rfl ?_
    rw [E.out]
    exact hfin 4
  · rw [hkn] at c2
    have hen := fun W => LEntry_any (t := t) (s := s) (by have := hS.t0; omega) hS.t4 (by have := hS.s0; omega) hS.s64 M.slot W
    have hld := fun (W : World) (h : Mem W A ws bs n) => Load_any (partN t s M.slot 0) h
    rw [hxe] at hld
    clear hxe
    generalize partN t s M.slot 0 = pl at hen hld
    have hk := hS.hk
    have c3 : w.cell? ⟨k, 0, none⟩ = some (.int .i64 t) ∧ w.cell? ⟨k, 1, none⟩ = some (.int .i64 s) ∧ w.cell? ⟨k, 3, none⟩ = some (.int .i64 M.slot) := ⟨hP.at' 0 rfl, hP.at' 1 rfl, hP.at' 3 rfl⟩
    have d3 : w.drew.cell? ⟨k, 0, none⟩ = some (.int .i64 t) ∧ w.drew.cell? ⟨k, 1, none⟩ = some (.int .i64 s) ∧ w.drew.cell? ⟨k, 3, none⟩ = some (.int .i64 M.slot) := c3
    have hld' : k < w.drew.heap.size := hP.lt
    have hns := nil_Load
    have hms := met_Load
    have hun := fun W => Unpack_any x W
    have hEf := fun W hV => hS.hE.moved (w' := W) hV (spanS_not (Or.inl hS.e0) hS.ek)
    have HE := Lib.hid (show pm1 x M = if ownB x M.gen then (if !M.un && (upV x).lk then { M with word := x } else if turnC M.un x = 0 then { M with word := x, nx := turnV M.un x, step := 2 } else pmEnd (turnC M.un x) { M with word := x }) else pmEnd 4 { M with word := x } from by unfold pm1; rw [hkn, if_pos rfl])
    have hob : ownB x M.gen = ((upE x == 0) && ((upV x).lv && ((upV x).g == M.gen))) := rfl
    rw [hob] at HE
    clear hS hob hkn
    generalize upE x = er at hun HE
    generalize upV x = e at hun HE
    obtain ⟨o, g, p, q, lk, lv⟩ := e
    unfold En.val at hun
    simp only at hun
    unfold ifc
    go_enter Tryd.func76, Tryd.ntmps76
    go_wp2_with fail
    go_region_held3 (fun w' => w'.cell? ⟨k, 0, none⟩ = some (.int .i64 t) ∧ w'.cell? ⟨k, 1, none⟩ = some (.int .i64 s) ∧ w'.cell? ⟨k, 3, none⟩ = some (.int .i64 M.slot)) (first
      | with_reducible exact c3
      | with_reducible exact d3
      | with_reducible exact p3L d3 hld' _
      | with_reducible exact p3T (p3L d3 hld' _) (Later.lt _ _ hld') (Or.inr hk) _
      | exact p3S (p3T (p3L d3 hld' _) (Later.lt _ _ hld') (Or.inr hk) _)) (first
      | (go_at_call 90; (with_reducible refine (hen _).mono ?_); rintro _ _ ⟨rfl, y, rfl⟩; have hPy := hP.drew.later y)
      | (go_at_call 22; (with_reducible refine (hld _ (hM.drew.later y)).mono ?_); rintro _ _ ⟨rfl, z, rfl, hM2⟩; have hPz := hPy.touch z.turn (Or.inr hk); have c8z := hPz.at' 8 rfl; have f8z := hPz.fz 8))
    all_goals
      have hM1 := hM2.setOther ⟨k, 8, none⟩ (.int .i64 x) (Or.inr hk)
      have hP1 : Fs (z.at'.setCell ⟨k, 8, none⟩ (.int .i64 x)) k (pmL t s { M with word := x }) := hPz.set 8 (by simp [pmL]) (.int .i64 x)
      have hV1 : Moved (spanS A k) w (z.at'.setCell ⟨k, 8, none⟩ (.int .i64 x)) := ((((Moved.refl _ _).drew).later y).touch z.turn spanS_in).setCell _ _ spanS_self
      rename_i hHeld
      clear hHeld c8z f8z
      generalize z.at'.setCell ⟨k, 8, none⟩ (.int .i64 x) = W at hM1 hP1 hV1 ⊢
      have b8 : W.cell? ⟨k, 8, none⟩ = some (.int .i64 x) := hP1.at' 8 rfl
      have hlt := hP1.lt
      have hEW := hEf _ hV1
      clear hns hms hld hen c3 d3 hld' hM hPy hPz hM2 hP hEf c2
      go_wp2_with (go_at_call 91; (with_reducible refine (hun _ hEW).mono ?_); rintro _ _ ⟨rfl, u, rfl⟩)
      have hP2 := (hP1.later u).alloc (.cells #[.int .i64 o, .int .i64 g, .int .i64 p, .int .i64 q, .bool lk, .bool lv] 118)
      have hM3 := (hM1.later u).alloc (.cells #[.int .i64 o, .int .i64 g, .int .i64 p, .int .i64 q, .bool lk, .bool lv] 118)
      have hV2 := (hV1.later u).alloc (.cells #[.int .i64 o, .int .i64 g, .int .i64 p, .int .i64 q, .bool lk, .bool lv] 118)
      have hF2 : Fs (u.at'.alloc (.cells #[.int .i64 o, .int .i64 g, .int .i64 p, .int .i64 q, .bool lk, .bool lv] 118)) u.at'.heap.size [.int .i64 o, .int .i64 g, .int .i64 p, .int .i64 q, .bool lk, .bool lv] := Fs.new' _ _ rfl rfl
      have hne : u.at'.heap.size ≠ k := by have := (hP1.later u).lt; omega
      have hE2 : HasFields (u.at'.alloc (.cells #[.int .i64 o, .int .i64 g, .int .i64 p, .int .i64 q, .bool lk, .bool lv] 118)) := (hEW.below u.below hEW.lt).alloc _
      clear b8 hlt hM1 hP1 hV1 hun hEW
      generalize u.at'.alloc (.cells #[.int .i64 o, .int .i64 g, .int .i64 p, .int .i64 q, .bool lk, .bool lv] 118) = U at hP2 hM3 hV2 hF2 hE2 ⊢
      generalize u.at'.heap.size = eb at hF2 hne ⊢
      go_cut [54] from 39 to 54 (fun v wx => v = .bool (pstaleB er lv g M.gen) ∧ ∃ x9 : Later U, wx = x9.at')
      case first =>
        have q1 := hF2.at' 1 rfl
        have q5 := hF2.at' 5 rfl
        have m4 : U.cell? ⟨k, 4, none⟩ = some (.int .i64 M.gen) := hP2.at' 4 rfl
        have l0 := hF2.lt
        have l1 := hP2.lt
        clear hP2 hM3 hV2 hF2 HE hE2
        by_cases he : er = 0
        · have he1 : decide (er = 0) = true := decide_eq_true he
          have he2 : (er == 0) = true := by simpa using he
          have he3 : (er != 0) = false := by simp [he]
          cases lv
          · have E9 := Lib.hid (show pstaleB er false g M.gen = true from by unfold pstaleB; rw [he2]; rfl)
            clear he
            refine wp_region_later (by kernel_rfl) (by kernel_rfl) ?_
            repeat (go_big_quiet_step (fail))
            refine wpQuiet_nil ?_
            rintro _ ⟨x9, rfl⟩
            go_wp2_with fail
            go_meet
            exact ⟨by rw [E9.out], x9, rfl⟩
          · by_cases hg : g = M.gen
            · have hg1 : decide (g = M.gen) = true := decide_eq_true hg
              have hg2 : (g == M.gen) = true := by simpa using hg
              have hg3 : (g != M.gen) = false := by simp [hg]
              have E9 := Lib.hid (show pstaleB er true g M.gen = false from by unfold pstaleB; rw [he2, hg2]; rfl)
              clear he hg
              refine wp_region_later (by kernel_rfl) (by kernel_rfl) ?_
              repeat (go_big_quiet_step (fail))
              refine wpQuiet_nil ?_
              rintro _ ⟨x9, rfl⟩
              go_wp2_with fail
              go_meet
              exact ⟨by rw [E9.out], x9, rfl⟩
            · have hg1 : decide (g = M.gen) = false := decide_eq_false hg
              have hg2 : (g == M.gen) = false := by simpa using hg
              have hg3 : (g != M.gen) = true := by simp [hg]
              have E9 := Lib.hid (show pstaleB er true g M.gen = true from by unfold pstaleB; rw [he2, hg2]; rfl)
              clear he hg
              refine wp_region_later (by kernel_rfl) (by kernel_rfl) ?_
              repeat (go_big_quiet_step (fail))
              refine wpQuiet_nil ?_
              rintro _ ⟨x9, rfl⟩
              go_wp2_with fail
              go_meet
              exact ⟨by rw [E9.out], x9, rfl⟩
        · have he1 : decide (er = 0) = false := decide_eq_false he
          have he2 : (er == 0) = false := by simpa using he
          have he3 : (er != 0) = true := by simp [he]
          have E9 := Lib.hid (show pstaleB er lv g M.gen = true from by unfold pstaleB; rw [he2]; rfl)
          clear he
          refine wp_region_later (by kernel_rfl) (by kernel_rfl) ?_
          repeat (go_big_quiet_step (fail))
          refine wpQuiet_nil ?_
          rintro _ ⟨x9, rfl⟩
          go_wp2_with fail
          go_meet
          exact ⟨by rw [E9.out], x9, rfl⟩
      case rest =>
        obtain ⟨rfl, x9, rfl⟩ := hcut
        have hP3 := hP2.later x9
        have hV3 := hV2.later x9
        have hM4 : ∃ n, Mem x9.at' A ws bs n := ⟨_, hM3.later x9⟩
        have hF3 := hF2.later x9
        have hE3 := hE2.below x9.below hE2.lt
        generalize x9.at' = W3 at hP3 hV3 hM4 hF3 hE3 ⊢
        clear hP2 hF2 hV2 hM3 hE2
        have HB : ((er == 0) && (lv && (g == M.gen))) = !pstaleB er lv g M.gen := by unfold pstaleB; rw [Bool.not_not]
        rw [HB] at HE
        clear HB
        cases hst : pstaleB er lv g M.gen
        · rw [hst] at HE
          clear hst
          have q4 := hF3.at' 4 rfl
          have hlt := hP3.lt
          have d6 : W3.cell? ⟨k, 6, none⟩ = some (.bool (!M.un)) := hP3.at' 6 rfl
          by_cases hw : (!M.un && lk) = true
          · have HE2 := Lib.hid (show pm1 x M = { M with word := x } from by rw [HE.out]; simp [hw])
            have hu : M.un = false ∧ lk = true := by
              revert hw
              cases M.un <;> cases lk <;> simp
            obtain ⟨hu0, rfl⟩ := hu
            rw [hu0] at d6
            clear HE hw
            go_wp2_with fail
            first | go_end0 | refine bodyPost_ret (results_none rfl _ _ _) rfl ?_
            rw [HE2.out]
            exact ⟨rfl, hV3, hM4, hP3⟩
          · have HE2 : pm1 x M = if turnC M.un x = 0 then { M with word := x, nx := turnV M.un x, step := 2 } else pmEnd (turnC M.un x) { M with word := x } := by rw [HE.out]; simp [hw]
            have hwb : (!M.un && lk) = false := by simpa using hw
            have htn := fun W hE => turn_any M.un x W hE
            generalize turnC M.un x = tc at htn HE2
            generalize turnV M.un x = tv at htn HE2
            have HE3 := Lib.hid HE2
            clear HE HE2 hw
            go_upto_region 6 with fail
            go_cut [64] from 57 to 64 (fun v wx => v = .bool false ∧ wx = W3)
            case first =>
              clear hP3 hV3 hM4 hF3 hE3 HE3 htn
              revert d6 hwb
              cases M.un
              · intro d6 hwb
                have hl : lk = false := by simpa using hwb
                subst hl
                clear hwb
                go_wp2_with fail
                go_meet
                exact ⟨rfl, rfl⟩
              · intro d6 hwb
                clear hwb
                go_wp2_with fail
                go_meet
                exact ⟨rfl, rfl⟩
            case rest =>
              obtain ⟨rfl, rfl⟩ := hcut
              cases hun : M.un
              · have d5 : wc.cell? ⟨k, 5, none⟩ = some (.func (.func 53) #[] #[]) := by have h5 : wc.cell? ⟨k, 5, none⟩ = some (turnF M.un) := hP3.at' 5 rfl; rw [hun] at h5; exact h5
                have d8 : wc.cell? ⟨k, 8, none⟩ = some (.int .i64 x) := hP3.at' 8 rfl
                have htn : ∀ W, HasFields W → Calls Tryd.prog 53 #[.int .i64 x] W (Ret W (.tuple #[.int .i64 tv, .int .i64 tc])) := fun W hE => by have := htn W hE; rw [hun] at this; exact this
                clear q4 d6 hwb
                go_wp2_with fail
                have htn2 := fun (y : Later wc) => later_of y (htn y.at' (hE3.below y.below hE3.lt))
                have HT := Lib.hid htn2
                clear htn2
                refine wp_region_later (by kernel_rfl) (by kernel_rfl) ?_
                repeat (go_big_quiet_step ((go_at_call 53; exact HT.out _)))
                refine wpQuiet_nil ?_
                rintro _ ⟨x8, rfl⟩
                have hP4 := hP3.later x8
                have hV4 := hV3.later x8
                have hM5 := hM4.imp fun _ m => m.later x8
                clear d5 d8 htn hlt hP3 hV3 hM4 hF3 hE3
                generalize x8.at' = W4 at hP4 hV4 hM5 ⊢
                have hlt := hP4.lt
                have b7 := hP4.at' 7 rfl
                have b9 := hP4.at' 9 rfl
                have f7 := hP4.fz 7
                have f9 := hP4.fz 9
                by_cases h0 : tc = 0
                · have HE4 := Lib.hid (show pm1 x M = { M with word := x, nx := tv, step := 2 } from by rw [HE3.out, if_pos h0])
                  subst h0
                  clear HE3
                  go_wp2_with fail
                  first | go_end0 | refine bodyPost_ret (results_none rfl _ _ _) rfl ?_
                  rw [HE4.out]
                  exact ⟨rfl, (hV4.setCell _ _ spanS_self).setCell _ _ spanS_self, hM5.imp fun _ m => (m.setOther _ _ (Or.inr hk)).setOther _ _ (Or.inr hk), (hP4.set 9 (by simp [pmL]) _).set 7 (by simp [pmL]) _⟩
                · have HE4 := Lib.hid (show pm1 x M = pmEnd tc { M with word := x } from by rw [HE3.out, if_neg h0])
                  have h01 : decide (tc = 0) = false := decide_eq_false h0
                  have h02 : (tc == 0) = false := by simpa using h0
                  have h03 : (tc != 0) = true := by simp [h0]
                  have he := pend_any hP4 tc
                  clear HE3 b7 b9 f7 f9
                  go_wp2_with (go_at_call 95; (with_reducible refine he.mono ?_); rintro _ _ ⟨rfl, rfl⟩)
                  first | go_end0 | refine bodyPost_ret (results_none rfl _ _ _) rfl ?_
                  rw [HE4.out]
                  exact pEnd hV4 hM5 hP4 hk tc
              · have d5 : wc.cell? ⟨k, 5, none⟩ = some (.func (.func 54) #[] #[]) := by have h5 : wc.cell? ⟨k, 5, none⟩ = some (turnF M.un) := hP3.at' 5 rfl; rw [hun] at h5; exact h5
                have d8 : wc.cell? ⟨k, 8, none⟩ = some (.int .i64 x) := hP3.at' 8 rfl
                have htn : ∀ W, HasFields W → Calls Tryd.prog 54 #[.int .i64 x] W (Ret W (.tuple #[.int .i64 tv, .int .i64 tc])) := fun W hE => by have := htn W hE; rw [hun] at this; exact this
                clear q4 d6 hwb
                go_wp2_with fail
                have htn2 := fun (y : Later wc) => later_of y (htn y.at' (hE3.below y.below hE3.lt))
                have HT := Lib.hid htn2
                clear htn2
                refine wp_region_later (by kernel_rfl) (by kernel_rfl) ?_
                repeat (go_big_quiet_step ((go_at_call 54; exact HT.out _)))
                refine wpQuiet_nil ?_
                rintro _ ⟨x8, rfl⟩
                have hP4 := hP3.later x8
                have hV4 := hV3.later x8
                have hM5 := hM4.imp fun _ m => m.later x8
                clear d5 d8 htn hlt hP3 hV3 hM4 hF3 hE3
                generalize x8.at' = W4 at hP4 hV4 hM5 ⊢
                have hlt := hP4.lt
                have b7 := hP4.at' 7 rfl
                have b9 := hP4.at' 9 rfl
                have f7 := hP4.fz 7
                have f9 := hP4.fz 9
                by_cases h0 : tc = 0
                · have HE4 := Lib.hid (show pm1 x M = { M with word := x, nx := tv, step := 2 } from by rw [HE3.out, if_pos h0])
                  subst h0
                  clear HE3
                  go_wp2_with fail
                  first | go_end0 | refine bodyPost_ret (results_none rfl _ _ _) rfl ?_
                  rw [HE4.out]
                  exact ⟨rfl, (hV4.setCell _ _ spanS_self).setCell _ _ spanS_self, hM5.imp fun _ m => (m.setOther _ _ (Or.inr hk)).setOther _ _ (Or.inr hk), (hP4.set 9 (by simp [pmL]) _).set 7 (by simp [pmL]) _⟩
                · have HE4 := Lib.hid (show pm1 x M = pmEnd tc { M with word := x } from by rw [HE3.out, if_neg h0])
                  have h01 : decide (tc = 0) = false := decide_eq_false h0
                  have h02 : (tc == 0) = false := by simpa using h0
                  have h03 : (tc != 0) = true := by simp [h0]
                  have he := pend_any hP4 tc
                  clear HE3 b7 b9 f7 f9
                  go_wp2_with (go_at_call 95; (with_reducible refine he.mono ?_); rintro _ _ ⟨rfl, rfl⟩)
                  first | go_end0 | refine bodyPost_ret (results_none rfl _ _ _) rfl ?_
                  rw [HE4.out]
                  exact pEnd hV4 hM5 hP4 hk tc
        · rw [hst] at HE
          have HE2 := Lib.hid (show pm1 x M = pmEnd 4 { M with word := x } from by rw [HE.out]; rfl)
          have he := pend_any hP3 4
          clear HE hst
          go_wp2_with (go_at_call 95; (with_reducible refine he.mono ?_); rintro _ _ ⟨rfl, rfl⟩)
          first | go_end0 | refine bodyPost_ret (results_none rfl _ _ _) rfl ?_
          rw [HE2.out]
          exact pEnd hV3 hM4 hP3 hk 4
end
end Go.Proofs.YtnojemmpgaibkaaDoor
