/-
  A machine that makes an object: what holds all along, New, many steps alone (two texts in one).
  Conditions: none but that the machine and plain cells lie there, and the tables read as they are laid.
-/
import Derived.Test.YtfomephgallpmaaDoorAlStepGJ
import Derived.Test.YtfomephgallpmaaDoorHeadMath
import Derived.Test.YtfomephgallpmaaDoorLayStart
import Derived.Test.YtfomephgallpmaaDoorHandleWalks4
namespace Go.Proofs.YtfomephgallpmaaDoor
open Go.RowKit
attribute [local go_sem] Later.cell Later.frozen Later.lt Later.le Turned.cell_lo Turned.cell_hi Turned.frozen_lo Turned.frozen_hi Turned.lt Turned.le
set_option linter.unusedVariables false
set_option linter.unusedSimpArgs false
theorem apopV_bd (x l : Int) : -9223372036854775808 ≤ popV x l ∧ popV x l ≤ 9223372036854775807 := by
  by_cases e : popE x l = 0
  · have hn := nx_bd (x / 1048576)
    have hl : topP l = true := by
      by_cases k : topP l = true
      · exact k
      · by_cases hb : heB x = true
        · rw [popE_arg hb (by simpa using k)] at e; exact absurd e (by decide)
        · rw [popE_form (by simpa using hb)] at e; exact absurd e (by decide)
    have := topP_of hl
    rw [popV_ok e]
    omega
  · rw [popV_bad e]; decide
theorem apushV_bd (x l : Int) : -9223372036854775808 ≤ pushV x l ∧ pushV x l ≤ 9223372036854775807 := by
  by_cases e : pushE x l = 0
  · have hn := nx_bd (x / 1048576)
    have hl : slotP l = true := by
      by_cases k : slotP l = true
      · exact k
      · by_cases hb : heB x = true
        · rw [pushE_arg hb (by simpa using k)] at e; exact absurd e (by decide)
        · rw [pushE_form (by simpa using hb)] at e; exact absurd e (by decide)
    have := slotP_of hl
    rw [pushV_ok e]
    omega
  · rw [pushV_bad e]; decide
theorem at1_set {ws : List Int} (i v : Int) (h : i ≠ 1) : atI (setI ws i v) 1 = atI ws 1 := by
  by_cases k : inI ws i = true
  · rw [atI_set _ _ _ _ k, if_neg (Ne.symm h)]
  · rw [setI_no (by simpa using k)]
theorem at1_cas {ws : List Int} (i o v : Int) (h : i ≠ 1) : atI (casW ws i o v) 1 = atI ws 1 := by
  unfold casW
  split
  · exact at1_set i v h
  · rfl
theorem at1_top {ws : List Int} (o v : Int) (h : atI ws 1 ≤ 9223372036854775807) (hv : v ≤ 9223372036854775807) : atI (casW ws 1 o v) 1 ≤ 9223372036854775807 := by
  unfold casW
  split
  · by_cases k : inI ws 1 = true
    · rw [atI_set _ _ _ _ k, if_pos rfl]; exact hv
    · rw [setI_no (by simpa using k)]; exact h
  · exact h
theorem part_ne {t s x j : Int} (ht : 1 ≤ t) (hj : 0 ≤ j) : partN t s x j ≠ 1 := by
  unfold partN
  split <;> omega
theorem popO_in {t s : Int} {m : Mc} {ws : List Int} (hx : atI ws 1 ≤ 9223372036854775807) (pw : m.word ≤ 9223372036854775807) (pn : m.next ≤ 9223372036854775807) :
    (popO t s m ws).m.word ≤ 9223372036854775807 ∧ (popO t s m ws).m.next ≤ 9223372036854775807 ∧ atI (popO t s m ws).ws 1 ≤ 9223372036854775807 := by
  unfold popO
  split
  · unfold pop1
    split
    · split
      · exact ⟨hx, pn, hx⟩
      · exact ⟨hx, pn, hx⟩
    · exact ⟨hx, pn, hx⟩
  · split
    · unfold pop2
      split
      · exact ⟨pw, (apopV_bd _ _).2, hx⟩
      · exact ⟨pw, pn, hx⟩
    · split
      · unfold pop3
        split
        · exact ⟨pw, pn, at1_top _ _ hx pn⟩
        · exact ⟨pw, pn, hx⟩
      · exact ⟨pw, pn, hx⟩
theorem pushO_in {t s : Int} {m : Mc} {ws : List Int} (ht : 1 ≤ t) (hx : atI ws 1 ≤ 9223372036854775807) (qn : m.next ≤ 9223372036854775807) :
    (pushO t s m ws).m.next ≤ 9223372036854775807 ∧ atI (pushO t s m ws).ws 1 ≤ 9223372036854775807 := by
  unfold pushO
  split
  · unfold push1
    split
    · split
      · exact ⟨(apushV_bd _ _).2, hx⟩
      · exact ⟨qn, hx⟩
    · exact ⟨qn, hx⟩
  · split
    · unfold push2
      exact ⟨qn, by rw [at1_set _ _ (part_ne ht (by decide))]; exact hx⟩
    · split
      · unfold push3
        split
        · exact ⟨qn, at1_top _ _ hx qn⟩
        · exact ⟨qn, hx⟩
      · exact ⟨qn, hx⟩
/-- What holds all along. -/
structure AlInv (t s : Int) (X : Am) (ws : List Int) : Prop where
  st : 0 ≤ X.step ∧ X.step ≤ 12
  p : X.step = 3 → X.pt = t ∧ X.ps = s
  q : X.step = 5 → X.qt = t ∧ X.qs = s
  hx : atI ws 1 ≤ 9223372036854775807
  pw : X.pop.word ≤ 9223372036854775807
  pn : X.pop.next ≤ 9223372036854775807
  qn : X.push.next ≤ 9223372036854775807
theorem AlInv.ok {t s : Int} {X : Am} {ws : List Int} (h : AlInv t s X ws) : AlOk t s X ws := ⟨h.st, h.p, fun _ => h.pw, h.q, h.hx⟩
section
variable {t s : Int} {X : Am} {ws bs : List Int}
theorem alO_inv (ht : 1 ≤ t) (h : AlInv t s X ws) : AlInv t s (alO t s X ws bs).X (alO t s X ws bs).ws := by
  obtain ⟨hst, hp, hq, hx, pw, pn, qn⟩ := h
  have hcs : X.step = 0 ∨ X.step = 1 ∨ X.step = 2 ∨ X.step = 3 ∨ X.step = 4 ∨ X.step = 5 ∨ X.step = 6 ∨ X.step = 7 ∨ X.step = 8 ∨ X.step = 9 ∨ X.step = 10 ∨ X.step = 11 ∨ X.step = 12 := by omega
  rcases hcs with h1 | h1 | h1 | h1 | h1 | h1 | h1 | h1 | h1 | h1 | h1 | h1 | h1
  · rw [alO_0 h1]
    exact ⟨hst, hp, hq, hx, pw, pn, qn⟩
  · rw [alO_1 h1]
    unfold al1
    split
    · exact ⟨by simp, fun a => by simp at a, fun a => by simp at a, hx, pw, pn, qn⟩
    · exact ⟨by simp, fun a => by simp at a, fun a => by simp at a, hx, pw, pn, qn⟩
  · rw [alO_2 h1]
    unfold al2o
    split
    · exact ⟨by simp, fun _ => ⟨rfl, rfl⟩, fun a => by simp at a, by rw [at1_cas _ _ _ (by decide)]; exact hx, by simp, by simp, qn⟩
    · exact ⟨by simp, fun a => by simp at a, fun a => by simp at a, by rw [at1_cas _ _ _ (by decide)]; exact hx, pw, pn, qn⟩
  · rw [alO_3 h1]
    have hi := popO_in (t := t) (s := s) hx pw pn
    generalize popO t s X.pop ws = o at hi ⊢
    unfold al3
    split
    · split
      · exact ⟨by simp, fun a => by simp at a, fun a => by simp at a, hi.2.2, hi.1, hi.2.1, qn⟩
      · exact ⟨by simp, fun a => by simp at a, fun a => by simp at a, hi.2.2, hi.1, hi.2.1, qn⟩
    · exact ⟨hst, fun _ => ⟨rfl, rfl⟩, hq, hi.2.2, hi.1, hi.2.1, qn⟩
  · rw [alO_4 h1]
    unfold al4
    split
    · exact ⟨by simp, fun a => by simp at a, fun _ => ⟨rfl, rfl⟩, hx, pw, pn, by simp⟩
    · exact ⟨by simp, fun a => by simp at a, fun a => by simp at a, hx, pw, pn, qn⟩
  · rw [alO_5 h1]
    have hi := pushO_in (s := s) ht hx qn
    generalize pushO t s X.push ws = o at hi ⊢
    unfold al5
    split
    · exact ⟨by simp, fun a => by simp at a, fun a => by simp at a, hi.2, pw, pn, hi.1⟩
    · exact ⟨hst, hp, fun _ => ⟨rfl, rfl⟩, hi.2, pw, pn, hi.1⟩
  · rw [alO_6 h1]
    unfold al6o
    split
    · exact ⟨by simp, fun a => by simp at a, fun a => by simp at a, by rw [at1_cas _ _ _ (by decide)]; exact hx, pw, pn, qn⟩
    · exact ⟨by simp, fun a => by simp at a, fun a => by simp at a, by rw [at1_cas _ _ _ (by decide)]; exact hx, pw, pn, qn⟩
  · rw [alO_7 h1]
    unfold al7
    split
    · exact ⟨by simp, fun a => by simp at a, fun a => by simp at a, hx, pw, pn, qn⟩
    · exact ⟨hst, hp, hq, hx, pw, pn, qn⟩
  · rw [alO_8 h1]
    exact ⟨by simp, fun a => by simp at a, fun a => by simp at a, by rw [at1_set _ _ (part_ne ht (by decide))]; exact hx, pw, pn, qn⟩
  · rw [alO_9 h1]
    unfold al9
    split
    · exact ⟨by simp, fun a => by simp at a, fun a => by simp at a, hx, pw, pn, qn⟩
    · exact ⟨by simp, fun a => by simp at a, fun a => by simp at a, hx, pw, pn, qn⟩
  · rw [alO_10 h1]
    unfold al10
    exact ⟨by simp, fun a => by simp at a, fun a => by simp at a, by
      show atI (if X.kept = 0 then _ else ws) 1 ≤ _
      split
      · rw [at1_set _ _ (part_ne ht (by decide))]; exact hx
      · exact hx, pw, pn, qn⟩
  · rw [alO_11 h1]
    exact ⟨by simp, fun a => by simp at a, fun a => by simp at a, hx, pw, pn, qn⟩
  · rw [alO_12 h1]
    unfold al12o
    split
    · exact ⟨by simp, fun a => by simp at a, fun a => by simp at a, by rw [at1_cas _ _ _ (by decide)]; exact hx, pw, pn, qn⟩
    · exact ⟨by simp, fun a => by simp at a, fun a => by simp at a, by rw [at1_cas _ _ _ (by decide)]; exact hx, pw, pn, qn⟩
end
end Go.Proofs.YtfomephgallpmaaDoor

namespace Go.Proofs.YtfomephgallpmaaDoor
open Go.RowKit
attribute [local go_sem] Later.cell Later.frozen Later.lt Later.le Turned.cell_lo Turned.cell_hi Turned.frozen_lo Turned.frozen_hi Turned.lt Turned.le
set_option linter.unusedVariables false
set_option linter.unusedSimpArgs false
/-- What New makes. -/
def amNew (a n : Int) : Am := ⟨a, n, 0, 1, 0, 0, 0, ⟨0, 0, 0, 0, 0⟩, 0, 0, ⟨0, 0, 0, 0, 0⟩, 0, 0, 0, 0, 0⟩
def amNil : Am := ⟨0, 0, 0, 0, 0, 0, 0, ⟨0, 0, 0, 0, 0⟩, 0, 0, ⟨0, 0, 0, 0, 0⟩, 0, 0, 0, 0, 0⟩
theorem anew_yes (a s t n : Int) (hm : mayC a s t = true) (w : World) : Calls Tryd.prog 12 #[.agg #[.int .i64 a, .int .i64 s, .int .i64 t], .int .i64 n] w
    fun e w' => ∃ k, e = .returned (.pointer (some ⟨k, 0, none⟩)) ∧ w.heap.size ≤ k ∧ Below w.heap.size w w' ∧ Fs w' k (alL t s (amNew a n)) := by
  have cO := fun W => Of_ok a s t hm W
  have hC0 : Fs (w.alloc (.cells #[.int .i64 a, .int .i64 s, .int .i64 t] 23)) w.heap.size [.int .i64 a, .int .i64 s, .int .i64 t] := Fs.new' _ _ rfl rfl
  clear hm
  go_enter Tryd.func12, Tryd.ntmps12
  go_wp2_with (go_at_call 25; (with_reducible refine (cO _).mono ?_); rintro _ _ ⟨rfl, x1, rfl⟩; have hC1 := hC0.later x1; have c0 := hC1.at' 0 rfl)
  go_ret
  have hb : Below w.heap.size w x1.at' := x1.cat ((Below.refl _ _).alloc (Nat.le_refl _) _) (by simp)
  have hb2 := hb.alloc hb.size (.cells #[.int .i64 t, .int .i64 s] 63)
  exact ⟨_, rfl, by have := hb.size; simp; omega, hb2.alloc hb2.size _, Fs.new' _ _ (by simp) (by simp [alL, amNew])⟩
theorem anew_no (a s t n : Int) (hm : mayC a s t = false) (w : World) : Calls Tryd.prog 12 #[.agg #[.int .i64 a, .int .i64 s, .int .i64 t], .int .i64 n] w
    fun e w' => ∃ k, e = .returned (.pointer (some ⟨k, 0, none⟩)) ∧ w.heap.size ≤ k ∧ Below w.heap.size w w' ∧ Fs w' k (alL 0 0 amNil) := by
  have cO := fun W => Of_bad a s t hm W
  clear hm
  go_enter Tryd.func12, Tryd.ntmps12
  go_wp2_with (go_at_call 25; (with_reducible refine (cO _).mono ?_); rintro _ _ ⟨rfl, x1, rfl⟩)
  go_ret
  have hb : Below w.heap.size w x1.at' := x1.cat ((Below.refl _ _).alloc (Nat.le_refl _) _) (by simp)
  have hb2 := hb.alloc hb.size (.cells #[.int .i64 0, .int .i64 0] 63)
  exact ⟨_, rfl, by have := hb.size; simp; omega, hb2.alloc hb2.size _, Fs.new' _ _ (by simp) (by simp [alL, amNil])⟩
/-- A machine of a config that may not be has ended. -/
theorem anil_step {w : World} {k : Nat} {X : Am} {t s : Int} (h0 : X.step = 0) (hP : Fs w k (alL t s X)) (i : Nat) (u : Addr) : Calls Tryd.prog 17 #[.pointer (some ⟨k, 0, none⟩), .iface i (.pointer (some u))] w (Ret w (.tuple #[.agg #[.int .i64 1, .int .i64 0], .bool true])) := by
  have c5 : w.cell? ⟨k, 5, none⟩ = some (.int .i64 0) := h0 ▸ hP.at' 5 rfl
  have hlt := hP.lt
  clear hP h0
  go_enter Tryd.func17, Tryd.ntmps17
  go_wp2
  refine bodyPost_ret (v := .tuple #[.agg #[.int .i64 1, .int .i64 0], .bool true]) (by simp [results, Tryd.results17, go_sem]) rfl ?_
  exact Ret.mk rfl ((Below.refl _ _).alloc (Nat.le_refl _) _)
/-- What many steps come to. -/
structure Ar where
  c : Int
  v : Int
  j : Nat
  X : Am
  ws : List Int
  bs : List Int
def alRun (t s : Int) : Nat → Nat → Am → List Int → List Int → Ar
  | 0, i, X, ws, bs => ⟨-1, 0, i, X, ws, bs⟩
  | f + 1, i, X, ws, bs => if (alT X (alO t s X ws bs).X).2.2 then ⟨(alT X (alO t s X ws bs).X).1, (alT X (alO t s X ws bs).X).2.1, i + 1, (alO t s X ws bs).X, (alO t s X ws bs).ws, (alO t s X ws bs).bs⟩ else alRun t s f (i + 1) (alO t s X ws bs).X (alO t s X ws bs).ws (alO t s X ws bs).bs
/-- The rounds' relation. -/
def aRunRel (A : PAt) (w : World) (k : Nat) (t s : Int) (N : Nat) (R : Ar) (v : Value) (wr : World) : Prop :=
  ∃ (i : Nat) (Mi : Am) (wsi : List Int) (bsi : List Int), v = .int .i64 (i + 1 : Nat) ∧ i ≤ N ∧ AlInv t s Mi wsi ∧ alRun t s (N - i) i Mi wsi bsi = R ∧ Moved (spanS A k) w wr ∧ (∃ n, Mem wr A wsi bsi n) ∧ Fs wr k (alL t s Mi)
section
variable {A : PAt} {ws bs : List Int} {n : Int} {w W : World} {k : Nat} {t s : Int} {X : Am}
/-- Many steps alone. -/
theorem arun_any (N : Nat) (hN : N ≤ 1000) (h : AlInv t s X ws) (hS : Seat w A k t s) (hE : ESeat w A k t s) (hM : Mem w A ws bs n) (hP : Fs w k (alL t s X)) :
    Calls Tryd.prog 11 #[.pointer (some ⟨A.p, 0, none⟩), .pointer (some ⟨k, 0, none⟩), .int .i64 N] w
      (SRet A k w (.tuple #[.agg #[.int .i64 (alRun t s N 0 X ws bs).c, .int .i64 (alRun t s N 0 X ws bs).v], .int .i64 (alRun t s N 0 X ws bs).j]) (alL t s (alRun t s N 0 X ws bs).X) (alRun t s N 0 X ws bs).ws (alRun t s N 0 X ws bs).bs) := by
  have hlt := hP.lt
  have hN0 : (0 : Int) ≤ N := by omega
  have HS := hM.hs
  have hk := hS.hk
  have hRa : Fs (w.alloc (.cells #[.int .i64 0, .int .i64 0] 32)) w.heap.size [.int .i64 0, .int .i64 0] := Fs.new' _ _ rfl rfl
  have hSa := hS.alloc (.cells #[.int .i64 0, .int .i64 0] 32)
  have hMa := hM.alloc (.cells #[.int .i64 0, .int .i64 0] 32)
  have hPa := hP.alloc (.cells #[.int .i64 0, .int .i64 0] 32)
  generalize hR : alRun t s N 0 X ws bs = R
  obtain ⟨rc, rv, ri, M2, ws2, bs2⟩ := R
  have HR := Lib.hid hR
  have t0 := hS.t0
  have hEa := hE.alloc (.cells #[.int .i64 0, .int .i64 0] 32)
  clear hR hS hE hM hP
  go_enter Tryd.func11, Tryd.ntmps11
  go_wp2
  go_loopw [8] (fun v wr => aRunRel A (w.alloc (.cells #[.int .i64 0, .int .i64 0] 32)) k t s N ⟨rc, rv, ri, M2, ws2, bs2⟩ v wr) (fun v _ => N + 1 - (intOf v).toNat)
  case atStart => exact ⟨0, X, ws, bs, rfl, Nat.zero_le _, h, by rw [Nat.sub_zero]; exact HR.out, Moved.refl _ _, ⟨n, hMa⟩, hPa⟩
  case round =>
    obtain ⟨i, Mi, wsi, bsi, rfl, hi, hst, hrun, hV, ⟨m, hMi⟩, hPi⟩ := hrel
    have hRi := hRa.moved hV (spanS_not (Or.inr HS) (by omega))
    by_cases hiN : i < N
    · have i1 : ((i + 1 : Nat) : Int) ≤ N := by omega
      have hs := astep_any hst.ok (hSa.moved hV) (hEa.moved hV) hMi hPi
      have hst' := alO_inv (bs := bsi) t0 hst
      have hrun' : (if (alT Mi (alO t s Mi wsi bsi).X).2.2 then (⟨(alT Mi (alO t s Mi wsi bsi).X).1, (alT Mi (alO t s Mi wsi bsi).X).2.1, i + 1, (alO t s Mi wsi bsi).X, (alO t s Mi wsi bsi).ws, (alO t s Mi wsi bsi).bs⟩ : Ar) else alRun t s (N - (i + 1)) (i + 1) (alO t s Mi wsi bsi).X (alO t s Mi wsi bsi).ws (alO t s Mi wsi bsi).bs) = ⟨rc, rv, ri, M2, ws2, bs2⟩ := by
        rw [← hrun, show N - i = (N - (i + 1)) + 1 from by omega]
        rfl
      generalize alT Mi (alO t s Mi wsi bsi).X = T at hs hrun'
      generalize alO t s Mi wsi bsi = O at hs hrun' hst'
      obtain ⟨M', ws', bs'⟩ := O
      obtain ⟨tc, tv, td⟩ := T
      simp only at hs hrun' hst'
      unfold ifc at *
      clear hrun hMi hPi HR
      cases td
      · have HR2 := Lib.hid hrun'
        clear hrun'
        go_wp2_with (first
          | (go_at_call 17; (with_reducible refine hs.mono ?_); rintro _ w1 ⟨rfl, hV1, hM1, hP1⟩))
        go_roundw
        case rel => exact ⟨i + 1, M', ws', bs', by go_num, by omega, hst', by have := HR2.out; simpa using this, (hV.trans hV1).alloc _, hM1.imp fun _ m => m.alloc _, hP1.alloc _⟩
        case measure => simp [intOf]; omega
      · simp only [if_true, Ar.mk.injEq] at hrun'
        obtain ⟨rfl, rfl, rfl, rfl, rfl, rfl⟩ := hrun'
        go_wp2_with (first
          | (go_at_call 17; (with_reducible refine hs.mono ?_); rintro _ w1 ⟨rfl, hV1, hM1, hP1⟩; have hR1 := (hRi.moved hV1 (spanS_not (Or.inr HS) (by omega))).alloc (.cells #[.int .i64 tc, .int .i64 tv] 32); have q0 := hR1.at' 0 rfl; have q1 := hR1.at' 1 rfl; have q2 := hR1.fz 0; have q3 := hR1.fz 1))
        clear q0 q1 q2 q3
        have hne : w.heap.size ≠ k := by omega
        have hR2 := (hR1.set 0 (by simp) (.int .i64 tc)).set 1 (by simp) (.int .i64 tv)
        have hP2 := ((hP1.alloc (.cells #[.int .i64 tc, .int .i64 tv] 32)).other ⟨w.heap.size, 0, none⟩ (.int .i64 tc) hne).other ⟨w.heap.size, 1, none⟩ (.int .i64 tv) hne
        have hM2 := hM1.imp fun _ m => ((m.alloc (.cells #[.int .i64 tc, .int .i64 tv] 32)).setOther ⟨w.heap.size, 0, none⟩ (.int .i64 tc) (Or.inr HS)).setOther ⟨w.heap.size, 1, none⟩ (.int .i64 tv) (Or.inr HS)
        have hV2 := ((((((Moved.refl (spanS A k) w).alloc (.cells #[.int .i64 0, .int .i64 0] 32)).trans hV).trans hV1).alloc (.cells #[.int .i64 tc, .int .i64 tv] 32)).setNew ⟨w.heap.size, 0, none⟩ (.int .i64 tc) (Nat.le_refl _)).setNew ⟨w.heap.size, 1, none⟩ (.int .i64 tv) (Nat.le_refl _)
        generalize ((w1.alloc (.cells #[.int .i64 tc, .int .i64 tv] 32)).setCell ⟨w.heap.size, 0, none⟩ (.int .i64 tc)).setCell ⟨w.heap.size, 1, none⟩ (.int .i64 tv) = W2 at hR2 hP2 hM2 hV2 ⊢
        have e0 : W2.cell? ⟨w.heap.size, 0, none⟩ = some (.int .i64 tc) := hR2.at' 0 rfl
        have e1 : W2.cell? ⟨w.heap.size, 1, none⟩ = some (.int .i64 tv) := hR2.at' 1 rfl
        refine bodyPost_ret (v := .tuple #[.agg #[.int .i64 tc, .int .i64 tv], .int .i64 (i + 1 : Nat)]) (by simp [results, Tryd.results11, go_sem, e0, e1]) rfl ?_
        exact ⟨rfl, hV2, hM2, hP2⟩
    · have ei : i = N := by omega
      subst ei
      have i1 : ¬ ((i + 1 : Nat) : Int) ≤ i := by omega
      rw [Nat.sub_self] at hrun
      unfold alRun at hrun
      simp only [Ar.mk.injEq] at hrun
      obtain ⟨rfl, rfl, rfl, rfl, rfl, rfl⟩ := hrun
      have q0 := hRi.at' 0 rfl
      have q1 := hRi.at' 1 rfl
      have q2 := hRi.fz 0
      have q3 := hRi.fz 1
      go_wp2_with fail
      clear q0 q1 q2 q3
      have hne : w.heap.size ≠ k := by omega
      have hR2 := (hRi.set 0 (by simp) (.int .i64 (-1))).set 1 (by simp) (.int .i64 0)
      have hP2 := (hPi.other ⟨w.heap.size, 0, none⟩ (.int .i64 (-1)) hne).other ⟨w.heap.size, 1, none⟩ (.int .i64 0) hne
      have hM2 := (hMi.setOther ⟨w.heap.size, 0, none⟩ (.int .i64 (-1)) (Or.inr HS)).setOther ⟨w.heap.size, 1, none⟩ (.int .i64 0) (Or.inr HS)
      have hV2 := ((((Moved.refl (spanS A k) w).alloc (.cells #[.int .i64 0, .int .i64 0] 32)).trans hV).setNew ⟨w.heap.size, 0, none⟩ (.int .i64 (-1)) (Nat.le_refl _)).setNew ⟨w.heap.size, 1, none⟩ (.int .i64 0) (Nat.le_refl _)
      generalize (wr.setCell ⟨w.heap.size, 0, none⟩ (.int .i64 (-1))).setCell ⟨w.heap.size, 1, none⟩ (.int .i64 0) = W2 at hR2 hP2 hM2 hV2 ⊢
      have e0 : W2.cell? ⟨w.heap.size, 0, none⟩ = some (.int .i64 (-1)) := hR2.at' 0 rfl
      have e1 : W2.cell? ⟨w.heap.size, 1, none⟩ = some (.int .i64 0) := hR2.at' 1 rfl
      refine bodyPost_ret (v := .tuple #[.agg #[.int .i64 (-1), .int .i64 0], .int .i64 i]) (by simp [results, Tryd.results11, go_sem, e0, e1]) rfl ?_
      exact ⟨rfl, hV2, ⟨_, hM2⟩, hP2⟩
end
end Go.Proofs.YtfomephgallpmaaDoor

