/-
  The walk of StackSteps.
  Conditions: none but that the tables read as they are laid; that live answers true; that the picks lie as they came.
-/
import Derived.Test.YtlidoicpfomfcaaDoorStSt
import Derived.Test.YtlidoicpfomfcaaDoorStStart
import Derived.Test.YtlidoicpfomfcaaDoorStRound
import Derived.Test.YtlidoicpfomfcaaDoorStArg
import Derived.Test.YtlidoicpfomfcaaDoorStSameRows
import Derived.Deep.DeepCutAuto
import Derived.Deep.CutRange
namespace Go.Proofs.YtlidoicpfomfcaaDoor
open Go.RowKit
attribute [local go_sem] Later.cell Later.frozen Later.lt Later.le
set_option linter.unusedVariables false

def spArg (a s t : Int) (p : Option Addr) (len cap : Nat) (at' s0 s1 : Int) : Value := .agg #[.int .i64 a, .int .i64 s, .int .i64 t, .slice p len cap, .int .i64 at', .int .i64 s0, .int .i64 s1]

/-- Behind the first lines: two variables boxed. -/
def Fst (w : World) (a s t : Int) (p : Option Addr) (len cap : Nat) (at' s0 s1 : Int) (x3 x4 x5 x6 : Value) (W : World) : Prop :=
  ∃ bc bp : Nat, x3 = .pointer (some ⟨bc, 0, none⟩) ∧ x4 = .slice p len cap ∧ x5 = .int .i64 at' ∧ x6 = .pointer (some ⟨bp, 0, none⟩) ∧ Below w.heap.size w W ∧ Fs W bc [.int .i64 a, .int .i64 s, .int .i64 t] ∧ Fs W bp [.int .i64 s0, .int .i64 s1] ∧ bc ≠ bp ∧ w.heap.size ≤ bc ∧ w.heap.size ≤ bp
theorem fst_1 (w : World) (a s t : Int) (p : Option Addr) (len cap : Nat) (at' s0 s1 : Int) (o : Obj) (T T' : TypeId) : Fst w a s t p len cap at' s0 s1 (.pointer (some ⟨w.heap.size + 1, 0, none⟩)) (.slice p len cap) (.int .i64 at') (.pointer (some ⟨w.heap.size + 1 + 1, 0, none⟩)) (((w.alloc o).alloc (.cells #[.int .i64 a, .int .i64 s, .int .i64 t] T)).alloc (.cells #[.int .i64 s0, .int .i64 s1] T')).drew :=
  ⟨_, _, rfl, rfl, rfl, rfl, ((((Below.refl _ _).alloc (Nat.le_refl _) _).alloc (by simp) _).alloc (by simp; omega) _).drew, ((Fs.new' _ _ (by simp) rfl).alloc _).drew, (Fs.new' _ _ (by simp) rfl).drew, by omega, by omega, by omega⟩
theorem fst_2 (w : World) (a s t : Int) (p : Option Addr) (len cap : Nat) (at' s0 s1 : Int) (o : Obj) (T T' : TypeId) : Fst w a s t p len cap at' s0 s1 (.pointer (some ⟨w.heap.size + 1 + 1, 0, none⟩)) (.slice p len cap) (.int .i64 at') (.pointer (some ⟨w.heap.size + 1, 0, none⟩)) (((w.alloc o).alloc (.cells #[.int .i64 s0, .int .i64 s1] T')).alloc (.cells #[.int .i64 a, .int .i64 s, .int .i64 t] T)).drew :=
  ⟨_, _, rfl, rfl, rfl, rfl, ((((Below.refl _ _).alloc (Nat.le_refl _) _).alloc (by simp) _).alloc (by simp; omega) _).drew, (Fs.new' _ _ (by simp) rfl).drew, ((Fs.new' _ _ (by simp) rfl).alloc _).drew, by omega, by omega, by omega⟩

theorem PairAt.below {w w' : World} {a s t : Int} {P : Pr} (h : PairAt w a s t P) (hb : Below w.heap.size w w') : PairAt w' a s t P := h.moved (S := fun _ => False) (Moved.of_below hb) fun _ _ _ k => k
def four (P0 P1 P2 P3 : Pr) : Nat → Pr
  | 0 => P0
  | 1 => P1
  | 2 => P2
  | _ => P3
theorem words_eq {l k : List Int} (hl : l.length = k.length) (h : ∀ y, atI l y = atI k y) : l = k := by
  refine List.ext_getElem hl fun i h1 h2 => ?_
  have e := h i
  rw [atI_nat, atI_nat, show l.getD i 0 = l[i] from by simp [h1], show k.getD i 0 = k[i] from by simp [h2]] at e
  exact e

set_option maxHeartbeats 16000000 in
set_option maxRecDepth 8000 in
theorem steps_any (a s t at' s0 s1 : Int) (p : Option Addr) (l : List Pk) (cap : Nat) (w : World) (hlive : ∀ W, HasHead W → Calls Tryd.prog 8 #[] W (Ret W (.bool true))) (hF : HasHead w) (hP : PksP w p l) (hs0 : -9223372036854775808 ≤ s1) (hs1 : s1 ≤ 9223372036854775807) :
    Calls Tryd.prog 3 #[spArg a s t p l.length cap at' s0 s1] w (Ret w (.bool true)) := by
  unfold spArg
  go_enter Tryd.func3, Tryd.ntmps3
  go_upto_region 1 with fail
  go_cut [3, 4, 5, 6] from 17 to 24 (fun x3 x4 x5 x6 wx => Fst w a s t p l.length cap at' s0 s1 x3 x4 x5 x6 wx)
  case first =>
    go_region
    all_goals (go_wp2_with fail; go_meet)
    all_goals first | exact fst_1 _ _ _ _ _ _ _ _ _ _ _ _ _ | exact fst_2 _ _ _ _ _ _ _ _ _ _ _ _ _
  case rest =>
    obtain ⟨bc, bp, rfl, rfl, rfl, rfl, hB0, hfc0, hfp0, hbb, hwc, hwp⟩ := hcut
    by_cases hlen : 100 < l.length
    · have hl1 : (100 : Int) < l.length := by omega
      go_wp2_with (first
        | (go_at_call 8; (with_reducible refine (hlive _ (hF.below hB0)).mono ?_); rintro _ _ ⟨rfl, x, rfl⟩))
      go_ret
      exact Ret.mk rfl (x.cat hB0 hB0.size)
    · have hl1 : ¬ (100 : Int) < l.length := by omega
      have c0 : wc.cell? ⟨bc, 0, none⟩ = some (.int .i64 a) := hfc0.at' 0 rfl
      have c1 : wc.cell? ⟨bc, 1, none⟩ = some (.int .i64 s) := hfc0.at' 1 rfl
      have c2 : wc.cell? ⟨bc, 2, none⟩ = some (.int .i64 t) := hfc0.at' 2 rfl
      have hF0 := hF.below hB0
      cases h : mayC a s t
      · have hst := start_no a s t h _ hF0
        have hmay := fun W => rMay_no h W
        have hlc := hfc0.lt
        go_wp2_with (first
          | (go_at_call 9; (with_reducible refine hst.mono ?_); rintro _ _ ⟨rfl, x1, rfl⟩; have hfc1 := (hfc0.later x1).alloc (.cells #[.int .i64 0, .int .i64 0] 31); have d0 : (x1.at'.alloc (.cells #[.int .i64 0, .int .i64 0] 31)).cell? ⟨bc, 0, none⟩ = some (.int .i64 a) := hfc1.at' 0 rfl; have d1 : (x1.at'.alloc (.cells #[.int .i64 0, .int .i64 0] 31)).cell? ⟨bc, 1, none⟩ = some (.int .i64 s) := hfc1.at' 1 rfl; have d2 : (x1.at'.alloc (.cells #[.int .i64 0, .int .i64 0] 31)).cell? ⟨bc, 2, none⟩ = some (.int .i64 t) := hfc1.at' 2 rfl; have hB1 : Below w.heap.size w (x1.at'.alloc (.cells #[.int .i64 0, .int .i64 0] 31)) := (x1.cat hB0 hB0.size).alloc (by have := x1.below.size; have := hB0.size; omega) _)
          | (go_at_call 10; (with_reducible refine (hmay _).mono ?_); rintro _ _ ⟨rfl, x2, rfl⟩; have hB2 := x2.cat hB1 hB1.size)
          | (go_at_call 8; (with_reducible refine (hlive _ (hF.below hB2)).mono ?_); rintro _ _ ⟨rfl, x3, rfl⟩))
        go_ret
        exact Ret.mk rfl (x3.cat hB2 hB2.size)
      · have hst := start_yes a s t h _ hF0
        have hrs := fun W => refStart_any a s t h W
        go_wp2_with (first
          | (go_at_call 9; (with_reducible refine hst.mono ?_); rintro _ W1 ⟨A, rfl, hlo, hB1, ws, bs, n, hM1, hwl, hat⟩; have hfc1 := (hfc0.below hB1 hfc0.lt).alloc (.cells #[.int .i64 t, .int .i64 s] 31); have hfp1 := (hfp0.below hB1 hfp0.lt).alloc (.cells #[.int .i64 t, .int .i64 s] 31); have hfl1 : Fs (W1.alloc (.cells #[.int .i64 t, .int .i64 s] 31)) W1.heap.size [.int .i64 t, .int .i64 s] := Fs.new' _ _ rfl rfl; have d0 : (W1.alloc (.cells #[.int .i64 t, .int .i64 s] 31)).cell? ⟨bc, 0, none⟩ = some (.int .i64 a) := hfc1.at' 0 rfl; have d1 : (W1.alloc (.cells #[.int .i64 t, .int .i64 s] 31)).cell? ⟨bc, 1, none⟩ = some (.int .i64 s) := hfc1.at' 1 rfl; have d2 : (W1.alloc (.cells #[.int .i64 t, .int .i64 s] 31)).cell? ⟨bc, 2, none⟩ = some (.int .i64 t) := hfc1.at' 2 rfl)
          | (go_at_call 11; (with_reducible refine (hrs _).mono ?_); rintro _ W2 ⟨p', q, bv, ws', n', rfl, hp', hq', hB2, hR2, hwl', hat'⟩))
        have hww : ws' = ws := words_eq (by omega) fun y => by rw [hat, hat']
        subst hww
        have hM2 := (hM1.alloc (.cells #[.int .i64 t, .int .i64 s] 31)).below hB2 (by have := hM1.hs; rw [World.size_alloc]; omega)
        have hfc2 := hfc1.below hB2 hfc1.lt
        have hfp2 := hfp1.below hB2 hfp1.lt
        have hfl2 := hfl1.below hB2 hfl1.lt
        have hz0 := hB0.size
        have hz1 := hB1.size
        have hz2 := hB2.size
        rw [World.size_alloc] at hz2 hp' hq'
        have hBW : Below w.heap.size w W2 := ((hB0.trans (hB1.mono hz0)).alloc (by omega) _).trans (hB2.mono (by rw [World.size_alloc]; omega))
        have hsA := hM1.hs
        have hlA : A.lo ≤ A.hi := by have := hM1.lp; have := hM1.up; omega
        have hbc := hfc0.lt
        have hbp := hfp0.lt
        clear c0 c1 c2 d0 d1 d2 hst hrs hfc0 hfp0 hfc1 hfp1 hfl1 hB0 hB1 hB2 hM1 hat'
        have hbg := fun W => begin_any a s t false 0 W
        have hlc := hfc2.lt
        have hll := hfl2.lt
        have kB : ∀ W' : World, Below W2.heap.size W2 W' → W'.cell? ⟨bc, 0, none⟩ = some (.int .i64 a) ∧ W'.cell? ⟨bc, 1, none⟩ = some (.int .i64 s) ∧ W'.cell? ⟨bc, 2, none⟩ = some (.int .i64 t) ∧ W'.cell? ⟨W1.heap.size, 0, none⟩ = some (.int .i64 t) ∧ W'.cell? ⟨W1.heap.size, 1, none⟩ = some (.int .i64 s) ∧ Below W2.heap.size W2 W' := fun W' hb => ⟨(hfc2.below hb hlc).at' 0 rfl, (hfc2.below hb hlc).at' 1 rfl, (hfc2.below hb hlc).at' 2 rfl, (hfl2.below hb hll).at' 0 rfl, (hfl2.below hb hll).at' 1 rfl, hb⟩
        have HKB := Lib.hid kB
        have mk0 := trivial
        have mk1 := trivial
        have mk2 := trivial
        have mk3 := trivial
        clear kB
        go_region_held3 (fun w' => w'.cell? ⟨bc, 0, none⟩ = some (.int .i64 a) ∧ w'.cell? ⟨bc, 1, none⟩ = some (.int .i64 s) ∧ w'.cell? ⟨bc, 2, none⟩ = some (.int .i64 t) ∧ w'.cell? ⟨W1.heap.size, 0, none⟩ = some (.int .i64 t) ∧ w'.cell? ⟨W1.heap.size, 1, none⟩ = some (.int .i64 s) ∧ Below W2.heap.size W2 w') (first
          | exact HKB.out _ (Below.refl _ _)
          | exact HKB.out _ (Below.refl _ _).drew
          | assumption
          | exact HKB.out _ (by assumption)
          | exact HKB.out _ (hBb3.alloc hBb3.size _)) (first
          | (go_at_call 12; clear mk0; (with_reducible refine (hbg _).mono ?_); rintro _ V0 ⟨P0, rfl, hbk0, hpr0, hplo0, hphi0⟩; have hBb0 : Below W2.heap.size W2 V0 := (Below.refl W2.heap.size W2).drew.trans hbk0)
          | (go_at_call 12; clear mk1; (with_reducible refine (hbg _).mono ?_); rintro _ V1 ⟨P1, rfl, hbk1, hpr1, hplo1, hphi1⟩; have hBb1 : Below W2.heap.size W2 V1 := hBb0.trans (hbk1.mono hBb0.size))
          | (go_at_call 12; clear mk2; (with_reducible refine (hbg _).mono ?_); rintro _ V2 ⟨P2, rfl, hbk2, hpr2, hplo2, hphi2⟩; have hBb2 : Below W2.heap.size W2 V2 := hBb1.trans (hbk2.mono hBb1.size))
          | (go_at_call 12; clear mk3; (with_reducible refine (hbg _).mono ?_); rintro _ V3 ⟨P3, rfl, hbk3, hpr3, hplo3, hphi3⟩; have hBb3 : Below W2.heap.size W2 V3 := hBb2.trans (hbk3.mono hBb2.size)))
        rename_i hHeld
        clear hHeld HKB hbg
        have hz3 := hBb3.size
        have y0 := hbk0.size
        have y1 := hbk1.size
        have y2 := hbk2.size
        have y3 := hbk3.size
        rw [World.size_drew] at y0 hplo0
        have hrow : Fs (V3.alloc (.cells #[.pointer (some ⟨P0.x, 0, none⟩), .pointer (some ⟨P1.x, 0, none⟩), .pointer (some ⟨P2.x, 0, none⟩), .pointer (some ⟨P3.x, 0, none⟩)] 37)) V3.heap.size [.pointer (some ⟨P0.x, 0, none⟩), .pointer (some ⟨P1.x, 0, none⟩), .pointer (some ⟨P2.x, 0, none⟩), .pointer (some ⟨P3.x, 0, none⟩)] := Fs.new' _ _ rfl rfl
        have hbr := hBb3.alloc hz3 (.cells #[.pointer (some ⟨P0.x, 0, none⟩), .pointer (some ⟨P1.x, 0, none⟩), .pointer (some ⟨P2.x, 0, none⟩), .pointer (some ⟨P3.x, 0, none⟩)] 37)
        have hb3r := (Below.refl V3.heap.size V3).alloc (Nat.le_refl _) (.cells #[.pointer (some ⟨P0.x, 0, none⟩), .pointer (some ⟨P1.x, 0, none⟩), .pointer (some ⟨P2.x, 0, none⟩), .pointer (some ⟨P3.x, 0, none⟩)] 37)
        generalize V3.alloc (.cells #[.pointer (some ⟨P0.x, 0, none⟩), .pointer (some ⟨P1.x, 0, none⟩), .pointer (some ⟨P2.x, 0, none⟩), .pointer (some ⟨P3.x, 0, none⟩)] 37) = V4 at *
        have y4 := hb3r.size
        have hp2 := hR2.fp.lt
        have hq2 := hR2.lq
        have g0 : 0 < A.lo := by have := hF.lt0; omega
        have g1 : 1 < A.lo := by have := hF.lt1; omega
        obtain ⟨-, -, -, s0', s64', t0', t4'⟩ := mayC_iff.1 h
        have hwd : Wd ws' := gi_wd (gi_start t0' hwl hat s0') t0' s0' s64' (by omega) (Nat.le_refl _)
        have hS0 : St4 w ⟨A, bs, p', q, bv, bc, bp, W1.heap.size, V3.heap.size, W2.heap.size⟩ a s t s0 s1 ws' (four P0 P1 P2 P3) V4 := by
          have hb1 : Below V0.heap.size V0 V4 := (hbk1.trans (hbk2.mono y1)).trans ((hbk3.mono (by omega)).trans (hb3r.mono (by omega)))
          have hb2 : Below V1.heap.size V1 V4 := hbk2.trans ((hbk3.mono y2).trans (hb3r.mono (by omega)))
          have hb3 : Below V2.heap.size V2 V4 := hbk3.trans (hb3r.mono y3)
          have f4 : ∀ n, n < 4 → n = 0 ∨ n = 1 ∨ n = 2 ∨ n = 3 := fun n hn => by omega
          have w0 : ∀ P : Pr, PairAt V4 a s t P → P.lo ≤ P.hi := fun P hP => by have := hP.pl; have := hP.ph; omega
          have q0 := hpr0.below hb1
          have q1 := hpr1.below hb2
          have q2 := hpr2.below hb3
          have q3 := hpr3.below hb3r
          exact {
            bel := hBW.trans (hbr.mono (by omega))
            env := ⟨hF.below (hBW.trans (hbr.mono (by omega))), ⟨n, hM2.below hbr (by omega)⟩, ⟨n', hR2.below hbr hp2 hq2⟩, h, g0, g1, hlA, by show A.hi ≤ p'; omega, by show A.hi ≤ q; omega, hwd⟩
            fc := hfc2.below hbr hfc2.lt
            fp := hfp2.below hbr hfp2.lt
            fl := hfl2.below hbr hfl2.lt
            fr := hrow
            pr := fun n hn => by rcases f4 n hn with rfl | rfl | rfl | rfl <;> assumption
            lo := fun n hn => by
              have := w0 _ q0; have := w0 _ q1; have := w0 _ q2; have := w0 _ q3
              rcases f4 n hn with rfl | rfl | rfl | rfl
              · show W2.heap.size ≤ P0.lo ∧ P0.hi ≤ V4.heap.size; omega
              · show W2.heap.size ≤ P1.lo ∧ P1.hi ≤ V4.heap.size; omega
              · show W2.heap.size ≤ P2.lo ∧ P2.hi ≤ V4.heap.size; omega
              · show W2.heap.size ≤ P3.lo ∧ P3.hi ≤ V4.heap.size; omega
            dj := fun n m hn hm e => by
              have := w0 _ q0; have := w0 _ q1; have := w0 _ q2; have := w0 _ q3
              have e0 : (four P0 P1 P2 P3 0) = P0 := rfl
              have e1 : (four P0 P1 P2 P3 1) = P1 := rfl
              have e2 : (four P0 P1 P2 P3 2) = P2 := rfl
              have e3 : (four P0 P1 P2 P3 3) = P3 := rfl
              rcases f4 n hn with rfl | rfl | rfl | rfl <;> rcases f4 m hm with rfl | rfl | rfl | rfl <;> first | exact absurd rfl e | (simp only [e0, e1, e2, e3]; omega)
            rn := fun n hn => by
              have := w0 _ q0; have := w0 _ q1; have := w0 _ q2; have := w0 _ q3
              right
              rcases f4 n hn with rfl | rfl | rfl | rfl
              · show P0.hi ≤ V3.heap.size; omega
              · show P1.hi ≤ V3.heap.size; omega
              · show P2.hi ≤ V3.heap.size; omega
              · show P3.hi ≤ V3.heap.size; omega
            wl := hwl
            wA := by show w.heap.size ≤ A.lo; omega
            wp := by show w.heap.size ≤ p'; omega
            wq := by show w.heap.size ≤ q; omega
            cA := Or.inl (by show bc < A.lo; omega)
            pA := Or.inl (by show bp < A.lo; omega)
            lA := Or.inr hsA
            rA := by show A.hi ≤ V3.heap.size; omega
            cp := by show bc ≠ p'; omega
            cq := by show bc ≠ q; omega
            pp := by show bp ≠ p'; omega
            pq := by show bp ≠ q; omega
            lp := by show W1.heap.size ≠ p'; omega
            lq := by show W1.heap.size ≠ q; omega
            rp := by show V3.heap.size ≠ p'; omega
            rq := by show V3.heap.size ≠ q; omega
            bc0 := by show bc < W2.heap.size; omega
            bp0 := by show bp < W2.heap.size; omega
            bl0 := by show W1.heap.size < W2.heap.size; omega
            p0 := hp2
            q0 := hq2
            A0 := by show A.hi ≤ W2.heap.size; omega
            w0 := by show w.heap.size ≤ W2.heap.size; omega
            wr := by show w.heap.size ≤ V3.heap.size; omega
            rc := by show V3.heap.size ≠ bc; omega
            rb := by show V3.heap.size ≠ bp; omega
            rl := by show V3.heap.size ≠ W1.heap.size; omega }
        generalize hX : (⟨A, bs, p', q, bv, bc, bp, W1.heap.size, V3.heap.size, W2.heap.size⟩ : At4) = X at hS0
        obtain ⟨xA, xp, xbc, xbp, xbl, xr⟩ : X.A = A ∧ X.p = p' ∧ X.bc = bc ∧ X.bp = bp ∧ X.bl = W1.heap.size ∧ X.r = V3.heap.size := by subst hX; exact ⟨rfl, rfl, rfl, rfl, rfl, rfl⟩
        rw [← xA, ← xp, ← xbc, ← xbp, ← xbl, ← xr]
        generalize four P0 P1 P2 P3 = P at hS0
        clear xA xp xbc xbp xbl xr hX hrow hbr hb3r hpr0 hpr1 hpr2 hpr3 hbk0 hbk1 hbk2 hbk3 hBb0 hBb1 hBb2 hBb3 hplo0 hplo1 hplo2 hplo3 hphi0 hphi1 hphi2 hphi3 hwd y0 y1 y2 y3 y4 hp2 hq2 hlc hll hbc hbp hlA hsA hz0 hz1 hz2 hz3 hfc2 hfp2 hfl2 hM2 hR2 hat hwl' hp' hq' hlo hBW hF0 hwc hwp hbb s0' s64' t0' t4' g0 g1
        go_wp2_with fail
        go_loopw [11] (fun u wr => ∃ i : Nat, i ≤ l.length ∧ u = .int .i64 i ∧ ∃ ws P, St4 w X a s t s0 s1 ws P wr) (fun u _ => (l.length - intOf u).toNat)
        case atStart => exact ⟨0, by omega, rfl, ws', P, hS0⟩
        case round =>
          clear hS0
          obtain ⟨i, hi, rfl, ws, P, hS⟩ := hrel
          by_cases hil : i < l.length
          · have hil2 : (i : Int) < l.length := by omega
            have hP' := hP
            obtain ⟨b, off, rfl, hbs, hpk⟩ := hP' (by intro e; rw [e] at hil; simp at hil)
            obtain ⟨f0, f1, f2⟩ := hpk i hil
            generalize pkAt l i = pk at f0 f1 f2
            obtain ⟨pick, push, slot⟩ := pk
            dsimp only at f0 f1 f2
            have HKS := Lib.hid (show ∀ W, Below w.heap.size w W → W.cell? ⟨b, off + i * 3, none⟩ = some (.int .i64 pick) ∧ W.cell? ⟨b, off + i * 3 + 1, none⟩ = some (.bool push) ∧ W.cell? ⟨b, off + i * 3 + 2, none⟩ = some (.int .i64 slot) from fun W hb => ⟨(hb.cell (p := ⟨b, off + i * 3, none⟩) hbs).trans f0, (hb.cell (p := ⟨b, off + i * 3 + 1, none⟩) hbs).trans f1, (hb.cell (p := ⟨b, off + i * 3 + 2, none⟩) hbs).trans f2⟩)
            clear hpk f0 f1 f2
            obtain ⟨k0, k1, k2⟩ := HKS.out _ hS.bel
            have e0 : wr.cell? ⟨X.bp, 0, none⟩ = some (.int .i64 s0) := hS.fp.at' 0 rfl
            have e1 : wr.cell? ⟨X.bp, 1, none⟩ = some (.int .i64 s1) := hS.fp.at' 1 rfl
            have hl100 : (i : Int) < 100 := by omega
            by_cases hneg : pick.tmod 4 < 0
            · by_cases hat' : (i : Int) = at'
              · have hatb : ((i : Int) == at') = true := by rw [hat']; simp
                clear hlen hi hP hat'
                go_wp2_with (first
                  | (go_at_call 13; (with_reducible refine (st4_store hS hs0 hs1).mono ?_); rintro _ Wa ⟨rfl, ⟨u0, u1⟩, hnext⟩)
                  | (go_at_call 14; (with_reducible refine hnext.mono ?_); rintro _ Wb ⟨rfl, hT⟩; obtain ⟨k0, k1, k2⟩ := HKS.out _ hT.bel)
                  | (go_at_call 8; (with_reducible refine (hlive _ (hF.below hT.bel)).mono ?_); rintro _ _ ⟨rfl, x, rfl⟩))
                go_ret
                exact Ret.mk rfl (x.cat hT.bel hT.bel.size)
              · have hatb : ((i : Int) == at') = false := beq_false_of_ne hat'
                clear hlen hi hP
                go_wp2_with (first
                  | (go_at_call 8; (with_reducible refine (hlive _ (hF.below hS.bel)).mono ?_); rintro _ _ ⟨rfl, x, rfl⟩))
                go_ret
                exact Ret.mk rfl (x.cat hS.bel hS.bel.size)
            · obtain ⟨N, hN⟩ := Int.eq_ofNat_of_zero_le (show 0 ≤ pick.tmod 4 by omega)
              have hN4 : N < 4 := by have := Int.tmod_lt_of_pos pick (show (0 : Int) < 4 by decide); omega
              have r0 := hS.cellr hN4
              have hN4' : (N : Int) < 4 := by omega
              by_cases hat' : (i : Int) = at'
              · have hatb : ((i : Int) == at') = true := by rw [hat']; simp
                clear hneg hlen hi hP hat'
                have mk1 := trivial
                go_wp2_with (first
                  | (go_at_call 13; (with_reducible refine (st4_store hS hs0 hs1).mono ?_); rintro _ Wa ⟨rfl, ⟨u0, u1⟩, hnext⟩)
                  | (go_at_call 14; (with_reducible refine hnext.mono ?_); rintro _ Wb ⟨rfl, hT⟩; obtain ⟨k0, k1, k2⟩ := HKS.out _ hT.bel; have r1 := hT.cellr hN4)
                  | (go_at_call 15; clear mk1; (with_reducible refine (st4_step hT hN4).mono ?_); rintro _ W2 ⟨sl, er, d, ws2, Q, rfl, hS2, hqx, hql, hqh⟩)
                  | (go_at_call 16; (with_reducible refine (st4_same hS2).mono ?_); rintro _ W3 ⟨rfl, hS3⟩; have r3 := hS3.cellr hN4)
                  | (go_at_call 15; (with_reducible refine (st4_step hS3 hN4).mono ?_); rintro _ W4 ⟨sl2, er2, d2, ws4, Q2, rfl, hS4, hqx2, hql2, hqh2⟩))
                · generalize upd (upd P N Q) N Q2 = PP at hS4
                  obtain ⟨k0', k1', k2'⟩ := HKS.out _ hS4.bel
                  have hxr : b ≠ X.r := by have := hS4.wr; omega
                  have hlb : b < W4.heap.size := Nat.lt_of_lt_of_le hbs hS4.bel.size
                  have kB : ∀ W' : World, Moved (fun b => b = X.r) W4 W' → W'.cell? ⟨X.bc, 0, none⟩ = some (.int .i64 a) ∧ W'.cell? ⟨X.bc, 1, none⟩ = some (.int .i64 s) ∧ W'.cell? ⟨X.bc, 2, none⟩ = some (.int .i64 t) ∧ W'.cell? ⟨X.bl, 0, none⟩ = some (.int .i64 t) ∧ W'.cell? ⟨X.bl, 1, none⟩ = some (.int .i64 s) ∧ W'.cell? ⟨b, off + i * 3 + 1, none⟩ = some (.bool push) ∧ W'.cell? ⟨b, off + i * 3 + 2, none⟩ = some (.int .i64 slot) ∧ Moved (fun b => b = X.r) W4 W' := fun W' hm => ⟨(hS4.fc.moved hm hS4.rc.symm).at' 0 rfl, (hS4.fc.moved hm hS4.rc.symm).at' 1 rfl, (hS4.fc.moved hm hS4.rc.symm).at' 2 rfl, (hS4.fl.moved hm hS4.rl.symm).at' 0 rfl, (hS4.fl.moved hm hS4.rl.symm).at' 1 rfl, (hm.cell _ _ _ hlb hxr).trans k1', (hm.cell _ _ _ hlb hxr).trans k2', hm⟩
                  have HKB := Lib.hid kB
                  have hbg := fun W => begin_any a s t push slot W
                  clear kB k0' k1' k2' k0 k1 k2 hS3 r3 hS2 hS r0 e0 e1
                  go_region_held3 (fun w' => w'.cell? ⟨X.bc, 0, none⟩ = some (.int .i64 a) ∧ w'.cell? ⟨X.bc, 1, none⟩ = some (.int .i64 s) ∧ w'.cell? ⟨X.bc, 2, none⟩ = some (.int .i64 t) ∧ w'.cell? ⟨X.bl, 0, none⟩ = some (.int .i64 t) ∧ w'.cell? ⟨X.bl, 1, none⟩ = some (.int .i64 s) ∧ w'.cell? ⟨b, off + i * 3 + 1, none⟩ = some (.bool push) ∧ w'.cell? ⟨b, off + i * 3 + 2, none⟩ = some (.int .i64 slot) ∧ Moved (fun b => b = X.r) W4 w') (first
                    | exact HKB.out _ (Moved.refl _ _)
                    | exact HKB.out _ (Moved.refl _ _).drew
                    | assumption
                    | exact HKB.out _ (by assumption)
                    | exact HKB.out _ (hm5.setCell _ _ rfl)) (first
                    | (go_at_call 12; (with_reducible refine (hbg _).mono ?_); rintro _ V5 ⟨P5, rfl, hb5, hp5, hlo5, hhi5⟩; have hm5 : Moved (fun b => b = X.r) W4 V5 := ((Moved.refl _ _).drew).trans (Moved.of_below hb5); have hS5 := hS4.below ((Below.refl W4.heap.size W4).drew.trans hb5); have c5 := hS5.cellr hN4; have f5 := hS5.fr.fz N))
                  all_goals
                    rename_i hHeld
                    clear hHeld
                    have hlo4 : P5.lo = W4.heap.size := hlo5
                    have hS6 := hS5.anew hN4 (Q := P5) hp5 (by have := hS4.lo 0 (by omega); have := (hS4.pr 0 (by omega)).pl; have := (hS4.pr 0 (by omega)).ph; omega) (by omega) (fun m hm hmn => Or.inl (by have := (hS4.lo m hm).2; omega)) (Or.inl (by have := hS4.fr.lt; omega))
                    go_wp2
                    first
                      | exact ⟨⟨i + 1, by omega, by go_num, ws4, _, hS6⟩, by simp [intOf]; omega⟩
                      | (go_roundw
                         case rel => exact ⟨i + 1, by omega, by go_num, ws4, _, hS6⟩
                         case measure => simp [intOf]; omega)
                · exact ⟨⟨i + 1, by omega, by go_num, ws2, _, hS3⟩, by simp [intOf]; omega⟩
              · have hatb : ((i : Int) == at') = false := beq_false_of_ne hat'
                clear hneg hlen hi hP
                have mk1 := trivial
                go_wp2_with (first
                  | (go_at_call 15; clear mk1; (with_reducible refine (st4_step hS hN4).mono ?_); rintro _ W2 ⟨sl, er, d, ws2, Q, rfl, hS2, hqx, hql, hqh⟩)
                  | (go_at_call 16; (with_reducible refine (st4_same hS2).mono ?_); rintro _ W3 ⟨rfl, hS3⟩; have r3 := hS3.cellr hN4)
                  | (go_at_call 15; (with_reducible refine (st4_step hS3 hN4).mono ?_); rintro _ W4 ⟨sl2, er2, d2, ws4, Q2, rfl, hS4, hqx2, hql2, hqh2⟩))
                · generalize upd (upd P N Q) N Q2 = PP at hS4
                  obtain ⟨k0', k1', k2'⟩ := HKS.out _ hS4.bel
                  have hxr : b ≠ X.r := by have := hS4.wr; omega
                  have hlb : b < W4.heap.size := Nat.lt_of_lt_of_le hbs hS4.bel.size
                  have kB : ∀ W' : World, Moved (fun b => b = X.r) W4 W' → W'.cell? ⟨X.bc, 0, none⟩ = some (.int .i64 a) ∧ W'.cell? ⟨X.bc, 1, none⟩ = some (.int .i64 s) ∧ W'.cell? ⟨X.bc, 2, none⟩ = some (.int .i64 t) ∧ W'.cell? ⟨X.bl, 0, none⟩ = some (.int .i64 t) ∧ W'.cell? ⟨X.bl, 1, none⟩ = some (.int .i64 s) ∧ W'.cell? ⟨b, off + i * 3 + 1, none⟩ = some (.bool push) ∧ W'.cell? ⟨b, off + i * 3 + 2, none⟩ = some (.int .i64 slot) ∧ Moved (fun b => b = X.r) W4 W' := fun W' hm => ⟨(hS4.fc.moved hm hS4.rc.symm).at' 0 rfl, (hS4.fc.moved hm hS4.rc.symm).at' 1 rfl, (hS4.fc.moved hm hS4.rc.symm).at' 2 rfl, (hS4.fl.moved hm hS4.rl.symm).at' 0 rfl, (hS4.fl.moved hm hS4.rl.symm).at' 1 rfl, (hm.cell _ _ _ hlb hxr).trans k1', (hm.cell _ _ _ hlb hxr).trans k2', hm⟩
                  have HKB := Lib.hid kB
                  have hbg := fun W => begin_any a s t push slot W
                  clear kB k0' k1' k2' k0 k1 k2 hS3 r3 hS2 hS r0 e0 e1
                  go_region_held3 (fun w' => w'.cell? ⟨X.bc, 0, none⟩ = some (.int .i64 a) ∧ w'.cell? ⟨X.bc, 1, none⟩ = some (.int .i64 s) ∧ w'.cell? ⟨X.bc, 2, none⟩ = some (.int .i64 t) ∧ w'.cell? ⟨X.bl, 0, none⟩ = some (.int .i64 t) ∧ w'.cell? ⟨X.bl, 1, none⟩ = some (.int .i64 s) ∧ w'.cell? ⟨b, off + i * 3 + 1, none⟩ = some (.bool push) ∧ w'.cell? ⟨b, off + i * 3 + 2, none⟩ = some (.int .i64 slot) ∧ Moved (fun b => b = X.r) W4 w') (first
                    | exact HKB.out _ (Moved.refl _ _)
                    | exact HKB.out _ (Moved.refl _ _).drew
                    | assumption
                    | exact HKB.out _ (by assumption)
                    | exact HKB.out _ (hm5.setCell _ _ rfl)) (first
                    | (go_at_call 12; (with_reducible refine (hbg _).mono ?_); rintro _ V5 ⟨P5, rfl, hb5, hp5, hlo5, hhi5⟩; have hm5 : Moved (fun b => b = X.r) W4 V5 := ((Moved.refl _ _).drew).trans (Moved.of_below hb5); have hS5 := hS4.below ((Below.refl W4.heap.size W4).drew.trans hb5); have c5 := hS5.cellr hN4; have f5 := hS5.fr.fz N))
                  all_goals
                    rename_i hHeld
                    clear hHeld
                    have hlo4 : P5.lo = W4.heap.size := hlo5
                    have hS6 := hS5.anew hN4 (Q := P5) hp5 (by have := hS4.lo 0 (by omega); have := (hS4.pr 0 (by omega)).pl; have := (hS4.pr 0 (by omega)).ph; omega) (by omega) (fun m hm hmn => Or.inl (by have := (hS4.lo m hm).2; omega)) (Or.inl (by have := hS4.fr.lt; omega))
                    go_wp2
                    first
                      | exact ⟨⟨i + 1, by omega, by go_num, ws4, _, hS6⟩, by simp [intOf]; omega⟩
                      | (go_roundw
                         case rel => exact ⟨i + 1, by omega, by go_num, ws4, _, hS6⟩
                         case measure => simp [intOf]; omega)
                · exact ⟨⟨i + 1, by omega, by go_num, ws2, _, hS3⟩, by simp [intOf]; omega⟩
          · have kB : ∀ W' : World, St4 w X a s t s0 s1 ws P W' → W'.cell? ⟨X.bc, 0, none⟩ = some (.int .i64 a) ∧ W'.cell? ⟨X.bc, 1, none⟩ = some (.int .i64 s) ∧ W'.cell? ⟨X.bc, 2, none⟩ = some (.int .i64 t) ∧ W'.cell? ⟨X.bl, 0, none⟩ = some (.int .i64 t) ∧ W'.cell? ⟨X.bl, 1, none⟩ = some (.int .i64 s) ∧ St4 w X a s t s0 s1 ws P W' := fun W' hm => ⟨hm.fc.at' 0 rfl, hm.fc.at' 1 rfl, hm.fc.at' 2 rfl, hm.fl.at' 0 rfl, hm.fl.at' 1 rfl, hm⟩
            have HKB := Lib.hid kB
            have kL : ∀ {W' : World} {c0 c1 c2 c3 c4 : Prop}, (c0 ∧ c1 ∧ c2 ∧ c3 ∧ c4 ∧ St4 w X a s t s0 s1 ws P W') → St4 w X a s t s0 s1 ws P W' := fun h => h.2.2.2.2.2
            have hfl : (freeL t s ws).length ≤ 1000000 := by
              have := freeL_len t s ws
              obtain ⟨-, -, -, -, s64, -, -⟩ := mayC_iff.1 h
              omega
            have hSd := hS.below (Below.refl _ _).drew
            clear kB hi hP
            have hfr := fun W (h : St4 w X a s t s0 s1 ws P W) => st4_free h
            unfold ifc at hfr
            go_wp2_with fail
            go_region_held3 (fun w' => w'.cell? ⟨X.bc, 0, none⟩ = some (.int .i64 a) ∧ w'.cell? ⟨X.bc, 1, none⟩ = some (.int .i64 s) ∧ w'.cell? ⟨X.bc, 2, none⟩ = some (.int .i64 t) ∧ w'.cell? ⟨X.bl, 0, none⟩ = some (.int .i64 t) ∧ w'.cell? ⟨X.bl, 1, none⟩ = some (.int .i64 s) ∧ St4 w X a s t s0 s1 ws P w') (first
              | exact HKB.out _ hS
              | exact HKB.out _ hSd
              | assumption
              | exact HKB.out _ (by assumption)
              | exact HKB.out _ ((kL ‹_ ∧ _›).below (Later.below _))) (first
              | (go_at_call 18; (with_reducible refine (hfr _ (kL ‹_ ∧ _›)).mono ?_); rintro _ V5 ⟨v1, rfl, hT5, hi5⟩)
              | (go_at_call 19; (with_reducible refine (st4_rfree hT5).mono ?_); rintro _ V6 ⟨v2, rfl, hb6, hT6, hi6⟩)
              | (go_at_call 17; (with_reducible refine (Same_ints (hi5.below hb6) hi6 hfl).mono ?_); rintro _ _ ⟨rfl, y, rfl⟩)
              | (go_at_call 8; (with_reducible refine (hlive _ (kL ‹_ ∧ _›).env.hF).mono ?_); rintro _ _ ⟨rfl, y, rfl⟩))
            all_goals
              rename_i hHeld
              have hS9 := kL hHeld
              clear hHeld
              go_wp2
              go_ret
              exact Ret.mk rfl hS9.bel
end Go.Proofs.YtlidoicpfomfcaaDoor
