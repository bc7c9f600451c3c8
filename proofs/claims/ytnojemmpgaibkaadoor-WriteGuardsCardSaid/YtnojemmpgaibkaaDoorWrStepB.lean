/-
  The steps of a machine that writes a byte: the entry.
  Conditions: none but that the machine and plain cells lie there.
-/
import Derived.Test.YtnojemmpgaibkaaDoorWrStepA
import Derived.Test.YtnojemmpgaibkaaDoorEntryTurns
import Derived.Test.YtnojemmpgaibkaaDoorRdBase
import Derived.Test.YtnojemmpgaibkaaDoorHandleWalks4
import Derived.Deep.RegionHeld3
import Derived.Deep.CutRange
import Derived.BigQuiet
namespace Go.Proofs.YtnojemmpgaibkaaDoor
open Go.RowKit
attribute [local go_sem] Later.cell Later.frozen Later.lt Later.le Turned.cell_lo Turned.cell_hi Turned.frozen_lo Turned.frozen_hi Turned.lt Turned.le
set_option linter.unusedVariables false
set_option linter.unusedSimpArgs false

section
variable {A : PAt} {ws bs : List Int} {n : Int} {w W : World} {k : Nat} {t s : Int} {M : Wm}
/-- Is a word none of the handle's own? -/
def wstaleB (er : Int) (lv : Bool) (g gen : Int) : Bool := !((er == 0) && (lv && (g == gen)))
set_option maxHeartbeats 8000000 in
theorem wle_any (x : Int) (hxe : atI ws (partN t s M.slot 0) = x) (hS : ESeat w A k t s) (hM : Mem w A ws bs n) (hP : Fs w k (wmL t s M)) :
    Calls Tryd.prog 67 #[.pointer (some ⟨k, 0, none⟩), ifc A] w (SRet A k w (.tuple #[]) (wmL t s (wm1 x M)) ws bs) := by
  have c2 : w.cell? ⟨k, 2, none⟩ = some (.bool M.kn) := hP.at' 2 rfl
  cases hkn : M.kn
  · rw [hkn] at c2
    have hk := hS.hk
    have E := Lib.hid (show wm1 x M = wmEnd 4 M from by unfold wm1; rw [hkn]; rfl)
    have he := wstale_any hP
    have hfin := wEnd (Moved.refl (spanS A k) w) ⟨n, hM⟩ hP hk
    clear hP hM hS hkn hxe
    unfold ifc
    go_enter Tryd.func67, Tryd.ntmps67
    go_wp2_with (go_at_call 89; (with_reducible refine he.mono ?_); rintro _ _ ⟨rfl, rfl⟩)
    first | go_end0 | refine bodyPost_ret (results_none rfl _ _ _) rfl ?_
    rw [E.out]
    exact hfin
  · rw [hkn] at c2
    have hen := fun W => LEntry_any (t := t) (s := s) (by have := hS.t0; omega) hS.t4 (by have := hS.s0; omega) hS.s64 M.slot W
    have hld := fun (W : World) (h : Mem W A ws bs n) => Load_any (partN t s M.slot 0) h
    rw [hxe] at hld
    clear hxe
    generalize partN t s M.slot 0 = pl at hen hld
    have hk := hS.hk
    have c3 : w.cell? ⟨k, 0, none⟩ = some (.int .i64 t) ∧ w.cell? ⟨k, 1, none⟩ = some (.int .i64 s) ∧ w.cell? ⟨k, 3, none⟩ = some (.int .i64 M.slot) := ⟨hP.at' 0 rfl, hP.at' 1 rfl, hP.at' 3 rfl⟩
    have d3 : w.drew.cell? ⟨k, 0, none⟩ = some (.int .i64 t) ∧ w.drew.cell? ⟨k, 1, none⟩ = some (.int .i64 s) ∧ w.drew.cell? ⟨k, 3, none⟩ = some (.int .i64 M.slot) := c3
    have hld' : k < w.drew.heap.size := hP.lt
    have hns := nil_Load
    have hms := met_Load
    have hun := fun W => Unpack_any x W
    have hEf := fun W hV => hS.hE.moved (w' := W) hV (spanS_not (Or.inl hS.e0) hS.ek)
    have HE := Lib.hid (show wm1 x M = if ownB x M.gen then (if waitW x then { M with word := x } else { M with word := x, base := (upV x).o, step := 2 }) else wmEnd 4 { M with word := x } from by unfold wm1; rw [hkn, if_pos rfl])
    have hob : ownB x M.gen = ((upE x == 0) && ((upV x).lv && ((upV x).g == M.gen))) := rfl
    rw [hob] at HE
    have how : waitW x = ((upV x).lk || ((upV x).q == 15)) := rfl
    rw [how] at HE
    clear hS hob hkn how
    generalize upE x = er at hun HE
    generalize upV x = e at hun HE
    obtain ⟨o, g, p, q, lk, lv⟩ := e
    unfold En.val at hun
    simp only at hun
    unfold ifc
    go_enter Tryd.func67, Tryd.ntmps67
    go_wp2_with fail
    go_region_held3 (fun w' => w'.cell? ⟨k, 0, none⟩ = some (.int .i64 t) ∧ w'.cell? ⟨k, 1, none⟩ = some (.int .i64 s) ∧ w'.cell? ⟨k, 3, none⟩ = some (.int .i64 M.slot)) (first
      | with_reducible exact c3
      | with_reducible exact d3
      | with_reducible exact c3L d3 hld' _
      | with_reducible exact c3T (c3L d3 hld' _) (Later.lt _ _ hld') (Or.inr hk) _
      | exact c3S (c3T (c3L d3 hld' _) (Later.lt _ _ hld') (Or.inr hk) _)) (first
      | (go_at_call 90; (with_reducible refine (hen _).mono ?_); rintro _ _ ⟨rfl, y, rfl⟩; have hPy := hP.drew.later y)
      | (go_at_call 22; (with_reducible refine (hld _ (hM.drew.later y)).mono ?_); rintro _ _ ⟨rfl, z, rfl, hM2⟩; have hPz := hPy.touch z.turn (Or.inr hk); have c8z := hPz.at' 8 rfl; have f8z := hPz.fz 8))
    all_goals
      have hM1 := hM2.setOther ⟨k, 8, none⟩ (.int .i64 x) (Or.inr hk)
      have hP1 : Fs (z.at'.setCell ⟨k, 8, none⟩ (.int .i64 x)) k (wmL t s { M with word := x }) := hPz.set 8 (by simp [wmL]) (.int .i64 x)
      have hV1 : Moved (spanS A k) w (z.at'.setCell ⟨k, 8, none⟩ (.int .i64 x)) := ((((Moved.refl _ _).drew).later y).touch z.turn spanS_in).setCell _ _ spanS_self
      rename_i hHeld
      clear hHeld c8z f8z
      generalize z.at'.setCell ⟨k, 8, none⟩ (.int .i64 x) = W at hM1 hP1 hV1 ⊢
      have b8 : W.cell? ⟨k, 8, none⟩ = some (.int .i64 x) := hP1.at' 8 rfl
      have hlt := hP1.lt
      have hEW := hEf _ hV1
      clear hns hms hld hen c3 d3 hld' hM hPy hPz hM2 hP hEf c2
      go_wp2_with (go_at_call 91; (with_reducible refine (hun _ hEW).mono ?_); rintro _ _ ⟨rfl, u, rfl⟩)
      have hP2 := (hP1.later u).alloc (.cells #[.int .i64 o, .int .i64 g, .int .i64 p, .int .i64 q, .bool lk, .bool lv] 118)
      have hM3 := (hM1.later u).alloc (.cells #[.int .i64 o, .int .i64 g, .int .i64 p, .int .i64 q, .bool lk, .bool lv] 118)
      have hV2 := (hV1.later u).alloc (.cells #[.int .i64 o, .int .i64 g, .int .i64 p, .int .i64 q, .bool lk, .bool lv] 118)
      have hF2 : Fs (u.at'.alloc (.cells #[.int .i64 o, .int .i64 g, .int .i64 p, .int .i64 q, .bool lk, .bool lv] 118)) u.at'.heap.size [.int .i64 o, .int .i64 g, .int .i64 p, .int .i64 q, .bool lk, .bool lv] := Fs.new' _ _ rfl rfl
      have hne : u.at'.heap.size ≠ k := by have := (hP1.later u).lt; omega
      have hE2 : HasFields (u.at'.alloc (.cells #[.int .i64 o, .int .i64 g, .int .i64 p, .int .i64 q, .bool lk, .bool lv] 118)) := (hEW.below u.below hEW.lt).alloc _
      clear b8 hlt hM1 hP1 hV1 hun hEW
      generalize u.at'.alloc (.cells #[.int .i64 o, .int .i64 g, .int .i64 p, .int .i64 q, .bool lk, .bool lv] 118) = U at hP2 hM3 hV2 hF2 hE2 ⊢
      generalize u.at'.heap.size = eb at hF2 hne ⊢
      go_cut [53] from 38 to 53 (fun v wx => v = .bool (wstaleB er lv g M.gen) ∧ ∃ x9 : Later U, wx = x9.at')
      case first =>
        have q1 := hF2.at' 1 rfl
        have q5 := hF2.at' 5 rfl
        have m4 : U.cell? ⟨k, 4, none⟩ = some (.int .i64 M.gen) := hP2.at' 4 rfl
        have l0 := hF2.lt
        have l1 := hP2.lt
        clear hP2 hM3 hV2 hF2 HE hE2
        by_cases he : er = 0
        · have he1 : decide (er = 0) = true := decide_eq_true he
          have he2 : (er == 0) = true := by simpa using he
          have he3 : (er != 0) = false := by simp [he]
          cases lv
          · have E9 := Lib.hid (show wstaleB er false g M.gen = true from by unfold wstaleB; rw [he2]; rfl)
            clear he
            refine wp_region_later (by kernel_rfl) (by kernel_rfl) ?_
            repeat (go_big_quiet_step (fail))
            refine wpQuiet_nil ?_
            rintro _ ⟨x9, rfl⟩
            go_wp2_with fail
            go_meet
            exact ⟨by rw [E9.out], x9, rfl⟩
          · by_cases hg : g = M.gen
            · have hg1 : decide (g = M.gen) = true := decide_eq_true hg
              have hg2 : (g == M.gen) = true := by simpa using hg
              have hg3 : (g != M.gen) = false := by simp [hg]
              have E9 := Lib.hid (show wstaleB er true g M.gen = false from by unfold wstaleB; rw [he2, hg2]; rfl)
              clear he hg
              refine wp_region_later (by kernel_rfl) (by kernel_rfl) ?_
              repeat (go_big_quiet_step (fail))
              refine wpQuiet_nil ?_
              rintro _ ⟨x9, rfl⟩
              go_wp2_with fail
              go_meet
              exact ⟨by rw [E9.out], x9, rfl⟩
            · have hg1 : decide (g = M.gen) = false := decide_eq_false hg
              have hg2 : (g == M.gen) = false := by simpa using hg
              have hg3 : (g != M.gen) = true := by simp [hg]
              have E9 := Lib.hid (show wstaleB er true g M.gen = true from by unfold wstaleB; rw [he2, hg2]; rfl)
              clear he hg
              refine wp_region_later (by kernel_rfl) (by kernel_rfl) ?_
              repeat (go_big_quiet_step (fail))
              refine wpQuiet_nil ?_
              rintro _ ⟨x9, rfl⟩
              go_wp2_with fail
              go_meet
              exact ⟨by rw [E9.out], x9, rfl⟩
        · have he1 : decide (er = 0) = false := decide_eq_false he
          have he2 : (er == 0) = false := by simpa using he
          have he3 : (er != 0) = true := by simp [he]
          have E9 := Lib.hid (show wstaleB er lv g M.gen = true from by unfold wstaleB; rw [he2]; rfl)
          clear he
          refine wp_region_later (by kernel_rfl) (by kernel_rfl) ?_
          repeat (go_big_quiet_step (fail))
          refine wpQuiet_nil ?_
          rintro _ ⟨x9, rfl⟩
          go_wp2_with fail
          go_meet
          exact ⟨by rw [E9.out], x9, rfl⟩
      case rest =>
        obtain ⟨rfl, x9, rfl⟩ := hcut
        have hP3 := hP2.later x9
        have hV3 := hV2.later x9
        have hM4 : ∃ n, Mem x9.at' A ws bs n := ⟨_, hM3.later x9⟩
        have hF3 := hF2.later x9
        have hE3 := hE2.below x9.below hE2.lt
        generalize x9.at' = W3 at hP3 hV3 hM4 hF3 hE3 ⊢
        clear hP2 hF2 hV2 hM3 hE2
        have HB : ((er == 0) && (lv && (g == M.gen))) = !wstaleB er lv g M.gen := by unfold wstaleB; rw [Bool.not_not]
        rw [HB] at HE
        clear HB
        cases hst : wstaleB er lv g M.gen
        · rw [hst] at HE
          clear hst
          have q0 := hF3.at' 0 rfl
          have q3 := hF3.at' 3 rfl
          have q4 := hF3.at' 4 rfl
          have d7 := hP3.at' 7 rfl
          have d9 := hP3.at' 9 rfl
          have f7 := hP3.fz 7
          have f9 := hP3.fz 9
          have hlt := hP3.lt
          cases lk
          · by_cases hq : q = 15
            · have hq1 : decide (q = 15) = true := decide_eq_true hq
              have hq2 : (q == 15) = true := by simpa using hq
              have HE2 := Lib.hid (show wm1 x M = { M with word := x } from by rw [HE.out]; simp [hq])
              clear HE hq
              go_wp2_with fail
              first | go_end0 | refine bodyPost_ret (results_none rfl _ _ _) rfl ?_
              rw [HE2.out]
              exact ⟨rfl, hV3, hM4, hP3⟩
            · have hq1 : decide (q = 15) = false := decide_eq_false hq
              have hq2 : (q == 15) = false := by simpa using hq
              have HE2 := Lib.hid (show wm1 x M = { M with word := x, base := o, step := 2 } from by rw [HE.out]; simp [hq])
              clear HE hq
              go_wp2_with fail
              first | go_end0 | refine bodyPost_ret (results_none rfl _ _ _) rfl ?_
              rw [HE2.out]
              exact ⟨rfl, (hV3.setCell _ _ spanS_self).setCell _ _ spanS_self, hM4.imp fun _ m => (m.setOther _ _ (Or.inr hk)).setOther _ _ (Or.inr hk), (hP3.set 9 (by simp [wmL]) _).set 7 (by simp [wmL]) _⟩
          · have HE2 := Lib.hid (show wm1 x M = { M with word := x } from by rw [HE.out]; simp)
            clear HE
            go_wp2_with fail
            first | go_end0 | refine bodyPost_ret (results_none rfl _ _ _) rfl ?_
            rw [HE2.out]
            exact ⟨rfl, hV3, hM4, hP3⟩
        · rw [hst] at HE
          have HE2 := Lib.hid (show wm1 x M = wmEnd 4 { M with word := x } from by rw [HE.out]; rfl)
          have he := wstale_any hP3
          clear HE hst
          go_wp2_with (go_at_call 89; (with_reducible refine he.mono ?_); rintro _ _ ⟨rfl, rfl⟩)
          first | go_end0 | refine bodyPost_ret (results_none rfl _ _ _) rfl ?_
          rw [HE2.out]
          exact wEnd hV3 hM4 hP3 hk
end
end Go.Proofs.YtnojemmpgaibkaaDoor
