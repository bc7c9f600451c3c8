/-
  The steps of a machine that reads a byte, on plain cells: the entry again; a step of it.
  Conditions: none but that the machine and plain cells lie there, and the table of fields reads as it is laid.
-/
import Derived.Test.YtnahjnbhmlomcaaDoorRdStepB
namespace Go.Proofs.YtnahjnbhmlomcaaDoor
open Go.RowKit
attribute [local go_sem] Later.cell Later.frozen Later.lt Later.le Turned.cell_lo Turned.cell_hi Turned.frozen_lo Turned.frozen_hi Turned.lt Turned.le
set_option linter.unusedVariables false
set_option linter.unusedSimpArgs false

section
variable {A : PAt} {ws bs : List Int} {n : Int} {w W : World} {k : Nat} {t s : Int} {M : Rm}
/-- Is it another one, or elsewhere, or locked? -/
def awayB (ob : Bool) (o base : Int) (lk : Bool) : Bool := !ob || (!(o == base) || lk)
set_option maxHeartbeats 8000000 in
theorem rla_any (x : Int) (hxe : atI ws (partN t s M.slot 0) = x) (hS : ESeat w A k t s) (hM : Mem w A ws bs n) (hP : Fs w k (rmL t s M)) :
    Calls Tryd.prog 37 #[.pointer (some ⟨k, 0, none⟩), ifc A] w (SRet A k w (.tuple #[]) (rmL t s (rm4 x M)) ws bs) := by
  have hl := rload_any x hxe hS hM hP
  have hk := hS.hk
  have HE := Lib.hid (show rm4 x M = if ownB x M.gen then (if (upV x).o = M.base then (if (upV x).lk then { M with step := 1 } else if M.out then rmEnd 5 0 M else rmEnd 0 M.b M) else { M with step := 1 }) else { M with step := 1 } from rfl)
  generalize ownB x M.gen = ob at hl HE
  generalize upV x = e at hl HE
  obtain ⟨o, g, p, q, lk, lv⟩ := e
  unfold En.val at hl
  simp only at hl
  unfold ifc at *
  clear hS hM hP
  have hstep1 : ∀ (W : World), Moved (spanS A k) w W → (∃ n, Mem W A ws bs n) → Fs W k (rmL t s M) → SRet A k w (.tuple #[]) (rmL t s { M with step := 1 }) ws bs (.returned (.tuple #[])) (W.setCell ⟨k, 6, none⟩ (.int .i64 1)) := fun W hV hM hP =>
    ⟨rfl, hV.setCell _ _ spanS_self, hM.imp fun _ m => m.setOther _ _ (Or.inr hk), hP.set 6 (by simp [rmL]) _⟩
  have HS1 := Lib.hid hstep1
  clear hstep1
  go_enter Tryd.func37, Tryd.ntmps37
  go_wp2_with (first
    | (go_at_call 45; (with_reducible refine hl.mono ?_); rintro _ w1 ⟨rfl, hV, hM1, hP1⟩; have hP2 := hP1.alloc (.cells #[.int .i64 o, .int .i64 g, .int .i64 p, .int .i64 q, .bool lk, .bool lv] 79); have hF2 : Fs (w1.alloc (.cells #[.int .i64 o, .int .i64 g, .int .i64 p, .int .i64 q, .bool lk, .bool lv] 79)) w1.heap.size [.int .i64 o, .int .i64 g, .int .i64 p, .int .i64 q, .bool lk, .bool lv] := Fs.new' _ _ rfl rfl))
  have hV2 := hV.alloc (.cells #[.int .i64 o, .int .i64 g, .int .i64 p, .int .i64 q, .bool lk, .bool lv] 79)
  have hM2 := hM1.imp fun _ m => m.alloc (.cells #[.int .i64 o, .int .i64 g, .int .i64 p, .int .i64 q, .bool lk, .bool lv] 79)
  generalize w1.alloc (.cells #[.int .i64 o, .int .i64 g, .int .i64 p, .int .i64 q, .bool lk, .bool lv] 79) = W at hP2 hF2 hV2 hM2 ⊢
  generalize w1.heap.size = eb at hF2 ⊢
  clear hl hV hM1 hP1
  go_cut [26] from 12 to 26 (fun v26 wx => v26 = .bool (awayB ob o M.base lk) ∧ ∃ x9 : Later W, wx = x9.at')
  case first =>
    have q0 := hF2.at' 0 rfl
    have q4 := hF2.at' 4 rfl
    have m7 : W.cell? ⟨k, 7, none⟩ = some (.int .i64 M.base) := hP2.at' 7 rfl
    have l0 := hF2.lt
    have l1 := hP2.lt
    clear hP2 hF2 hV2 hM2 HE HS1
    cases ob
    · have E9 := Lib.hid (show awayB false o M.base lk = true from rfl)
      refine wp_region_later (by kernel_rfl) (by kernel_rfl) ?_
      repeat (go_big_quiet_step (fail))
      refine wpQuiet_nil ?_
      rintro _ ⟨x9, rfl⟩
      go_wp2_with fail
      go_meet
      exact ⟨by rw [E9.out], x9, rfl⟩
    · by_cases ho : o = M.base
      · have hb : (o == M.base) = true := by simpa using ho
        have hb2 : (o != M.base) = false := by simp [ho]
        have E9 := Lib.hid (show awayB true o M.base lk = lk from by unfold awayB; rw [hb]; rfl)
        clear ho
        refine wp_region_later (by kernel_rfl) (by kernel_rfl) ?_
        repeat (go_big_quiet_step (fail))
        refine wpQuiet_nil ?_
        rintro _ ⟨x9, rfl⟩
        go_wp2_with fail
        go_meet
        exact ⟨by rw [E9.out], x9, rfl⟩
      · have hb : (o == M.base) = false := by simpa using ho
        have hb2 : (o != M.base) = true := by simp [ho]
        have E9 := Lib.hid (show awayB true o M.base lk = true from by unfold awayB; rw [hb]; rfl)
        clear ho
        refine wp_region_later (by kernel_rfl) (by kernel_rfl) ?_
        repeat (go_big_quiet_step (fail))
        refine wpQuiet_nil ?_
        rintro _ ⟨x9, rfl⟩
        go_wp2_with fail
        go_meet
        exact ⟨by rw [E9.out], x9, rfl⟩
  case rest =>
    obtain ⟨rfl, x9, rfl⟩ := hcut
    have hP3 := hP2.later x9
    have hV3 := hV2.later x9
    have hM3 := hM2.imp fun _ m => m.later x9
    generalize x9.at' = W3 at hP3 hV3 hM3 ⊢
    clear hP2 hF2 hV2 hM2
    have b6 : W3.cell? ⟨k, 6, none⟩ = some (.int .i64 M.step) := hP3.at' 6 rfl
    have b8 : W3.cell? ⟨k, 8, none⟩ = some (.bool M.out) := hP3.at' 8 rfl
    have b9 : W3.cell? ⟨k, 9, none⟩ = some (.int .i64 M.b) := hP3.at' 9 rfl
    have f6 := hP3.fz 6
    cases hab : awayB ob o M.base lk
    · have hcond : ob = true ∧ o = M.base ∧ lk = false := by
        unfold awayB at hab
        revert hab
        cases ob <;> cases lk <;> simp
      obtain ⟨rfl, rfl, rfl⟩ := hcond
      have HE2 := Lib.hid (show rm4 x M = if M.out then rmEnd 5 0 M else rmEnd 0 M.b M from by rw [HE.out]; simp)
      clear HE hab
      cases hout : M.out
      · rw [hout] at b8
        have he := rend_any hP3 0 M.b
        clear f6
        go_wp2_with (go_at_call 44; (with_reducible refine he.mono ?_); rintro _ _ ⟨rfl, rfl⟩)
        first | go_end0 | refine bodyPost_ret (results_none rfl _ _ _) rfl ?_
        rw [HE2.out, hout]
        exact sEnd hV3 hM3 hP3 hk 0 M.b
      · rw [hout] at b8
        have he := rend_any hP3 5 0
        clear f6
        go_wp2_with (go_at_call 44; (with_reducible refine he.mono ?_); rintro _ _ ⟨rfl, rfl⟩)
        first | go_end0 | refine bodyPost_ret (results_none rfl _ _ _) rfl ?_
        rw [HE2.out, hout]
        exact sEnd hV3 hM3 hP3 hk 5 0
    · have HE2 := Lib.hid (show rm4 x M = { M with step := 1 } from by
        rw [HE.out]
        unfold awayB at hab
        cases ob
        · simp
        · by_cases ho : o = M.base
          · cases lk
            · simp [ho] at hab
            · simp [ho]
          · simp [ho])
      clear HE
      go_wp2_with fail
      first | go_end0 | refine bodyPost_ret (results_none rfl _ _ _) rfl ?_
      rw [HE2.out]
      exact HS1.out W3 hV3 hM3 hP3

theorem rmO_1 (h : M.step = 1) : rmO t s M ws bs = rm1 (atI ws (partN t s M.slot 0)) M := if_pos h
theorem rmO_2 (h : M.step = 2) : rmO t s M ws bs = rm2 (atI ws (partN t s M.slot 1)) M := by unfold rmO; rw [if_neg (by omega), if_pos h]
theorem rmO_3 (h : M.step = 3) : rmO t s M ws bs = rm3 (atI bs (wrap64 (M.base + M.off))) M := by unfold rmO; rw [if_neg (by omega), if_neg (by omega), if_pos h]
theorem rmO_4 (h : M.step = 4) : rmO t s M ws bs = rm4 (atI ws (partN t s M.slot 0)) M := by unfold rmO; rw [if_neg (by omega), if_neg (by omega), if_neg (by omega), if_pos h]
theorem rdo_any (h : 1 ≤ M.step ∧ M.step ≤ 4) (hS : ESeat w A k t s) (hM : Mem w A ws bs n) (hP : Fs w k (rmL t s M)) :
    Calls Tryd.prog 24 #[.pointer (some ⟨k, 0, none⟩), ifc A] w (SRet A k w (.tuple #[]) (rmL t s (rmO t s M ws bs)) ws bs) := by
  have c6 : w.cell? ⟨k, 6, none⟩ = some (.int .i64 M.step) := hP.at' 6 rfl
  have hcs : M.step = 1 ∨ M.step = 2 ∨ M.step = 3 ∨ M.step = 4 := by omega
  rcases hcs with h1 | h1 | h1 | h1
  · rw [rmO_1 h1]
    have hc := rle_any _ rfl hS hM hP
    rw [h1] at c6
    generalize rm1 (atI ws (partN t s M.slot 0)) M = M' at hc ⊢
    clear hP hM hS h1 h
    unfold ifc at *
    go_enter Tryd.func24, Tryd.ntmps24
    go_wp2_with (go_at_call 34; (with_reducible refine hc.mono ?_); rintro _ w1 ⟨rfl, hV, hM1, hP1⟩)
    first | go_end0 | refine bodyPost_ret (results_none rfl _ _ _) rfl ?_
    exact ⟨rfl, hV, hM1, hP1⟩
  · rw [rmO_2 h1]
    have hc := rls_any _ rfl hS hM hP
    rw [h1] at c6
    generalize rm2 (atI ws (partN t s M.slot 1)) M = M' at hc ⊢
    clear hP hM hS h1 h
    unfold ifc at *
    go_enter Tryd.func24, Tryd.ntmps24
    go_wp2_with (go_at_call 35; (with_reducible refine hc.mono ?_); rintro _ w1 ⟨rfl, hV, hM1, hP1⟩)
    first | go_end0 | refine bodyPost_ret (results_none rfl _ _ _) rfl ?_
    exact ⟨rfl, hV, hM1, hP1⟩
  · rw [rmO_3 h1]
    have hc := rlb_any _ rfl hS hM hP
    rw [h1] at c6
    generalize rm3 (atI bs (wrap64 (M.base + M.off))) M = M' at hc ⊢
    clear hP hM hS h1 h
    unfold ifc at *
    go_enter Tryd.func24, Tryd.ntmps24
    go_wp2_with (go_at_call 36; (with_reducible refine hc.mono ?_); rintro _ w1 ⟨rfl, hV, hM1, hP1⟩)
    first | go_end0 | refine bodyPost_ret (results_none rfl _ _ _) rfl ?_
    exact ⟨rfl, hV, hM1, hP1⟩
  · rw [rmO_4 h1]
    have hc := rla_any _ rfl hS hM hP
    rw [h1] at c6
    generalize rm4 (atI ws (partN t s M.slot 0)) M = M' at hc ⊢
    clear hP hM hS h1 h
    unfold ifc at *
    go_enter Tryd.func24, Tryd.ntmps24
    go_wp2_with (go_at_call 37; (with_reducible refine hc.mono ?_); rintro _ w1 ⟨rfl, hV, hM1, hP1⟩)
    first | go_end0 | refine bodyPost_ret (results_none rfl _ _ _) rfl ?_
    exact ⟨rfl, hV, hM1, hP1⟩

theorem rstep_nil (m : Value) (w : World) : Calls Tryd.prog 13 #[.pointer none, m] w (Ret w (.tuple #[.agg #[.int .i64 1, .int .i64 0], .bool true])) := by
  go_enter Tryd.func13, Tryd.ntmps13
  go_wp2
  refine bodyPost_ret (v := .tuple #[.agg #[.int .i64 1, .int .i64 0], .bool true]) (by simp [results, Tryd.results13, go_sem]) rfl ?_
  exact Ret.mk rfl ((Below.refl _ _).alloc (Nat.le_refl _) _)
theorem rstep_none (a : Addr) (w : World) : Calls Tryd.prog 13 #[.pointer (some a), .nilIface] w (Ret w (.tuple #[.agg #[.int .i64 1, .int .i64 0], .bool true])) := by
  go_enter Tryd.func13, Tryd.ntmps13
  go_wp2
  refine bodyPost_ret (v := .tuple #[.agg #[.int .i64 1, .int .i64 0], .bool true]) (by simp [results, Tryd.results13, go_sem]) rfl ?_
  exact Ret.mk rfl ((Below.refl _ _).alloc (Nat.le_refl _) _)
end
end Go.Proofs.YtnahjnbhmlomcaaDoor
