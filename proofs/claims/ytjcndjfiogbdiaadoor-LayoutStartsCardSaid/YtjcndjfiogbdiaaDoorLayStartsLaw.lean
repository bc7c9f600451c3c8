/-
  LayoutStarts, walked: it answers true at every case.
  Conditions: that live answers true; that the package's two fields of heads read as they are laid.
-/
import Derived.Test.YtjcndjfiogbdiaaDoorLayRefStart
import Derived.Test.YtjcndjfiogbdiaaDoorLayGo
import Derived.RegionTactic
namespace Go.Proofs.YtjcndjfiogbdiaaDoor
open Go.RowKit
attribute [local go_sem] Later.cell Later.frozen Later.lt Later.le Turned.cell_lo Turned.cell_hi Turned.frozen_lo Turned.frozen_hi Turned.lt Turned.le
set_option linter.unusedVariables false

theorem wret_of {P : Program} {f : FuncId} {args : Array Value} {A : PAt} {w : World} {v : Value} {len : Nat} {g : Int → Int} {bs : List Int} (x : Turned A.lo A.hi w) (h : Calls P f args x.at' (WRet A x.at' v len g bs)) :
    Calls P f args x.at' (WRet A w v len g bs) :=
  h.mono fun _ _ ⟨he, y, hy, r⟩ => ⟨he, x.on y.turn, hy, r⟩
theorem HasHead.turned {lo hi : Nat} {w : World} (h : HasHead w) (x : Turned lo hi w) (h0 : 0 < lo) (h1 : 1 < lo) : HasHead x.at' := h.touch x.turn h0 h1

/-- A contract that turns nothing, met where plain cells lie. -/
theorem tmem_of {P : Program} {f : FuncId} {args : Array Value} {A : PAt} {w : World} {v : Value} {ws bs : List Int} {n : Int} (x : Turned A.lo A.hi w) (hm : Mem x.at' A ws bs n) (h : Calls P f args x.at' (Ret x.at' v)) :
    Calls P f args x.at' (PRet A w v ws bs n) :=
  h.mono fun _ _ ⟨he, y, hy⟩ => ⟨he, x.late y, hy, hm.later y⟩

/-- All words of the first k places are j. -/
def jkV (j k y : Int) : Int := if 0 ≤ y ∧ y < k then j else 0
theorem jkV_next {j k y : Int} (h : 0 ≤ k) : jkV j (k + 1) y = if y = k then j else jkV j k y := by
  unfold jkV
  by_cases e : y = k
  · rw [if_pos e, if_pos (by omega)]
  · rw [if_neg e]
    by_cases c : 0 ≤ y ∧ y < k
    · rw [if_pos c, if_pos (by omega)]
    · rw [if_neg c, if_neg (by omega)]
theorem atI_zeros (n : Nat) (y : Int) : atI (List.replicate n 0) y = 0 := by
  unfold atI
  split
  · exact getD_zeros _ _
  · rfl

theorem st_in {t s : Int} {f : Int → Int} (h0 : 1 ≤ t) (h1 : 1 ≤ s) (k : Nat) (hk : (k : Int) < wordsN t s) : stV t s f k = rsF t s k := by
  unfold wordsN at hk
  unfold stV lkV rsF
  by_cases e : (k : Int) = 1
  · rw [if_pos e, if_pos (by omega)]
  · rw [if_neg e, if_neg (by omega)]
    unfold faV rsV zV wordsN
    by_cases c : ((k : Int) - 6 - t) % 3 = 0 ∧ s - s ≤ ((k : Int) - 6 - t) / 3 ∧ ((k : Int) - 6 - t) / 3 < s
    · rw [if_pos c]
      by_cases d : ((k : Int) - 6 - t) / 3 + 1 < s
      · rw [if_pos d, if_pos (by omega)]
      · rw [if_neg d, if_neg (by omega)]
    · rw [if_neg c, if_pos (by omega), if_neg (by omega)]
theorem st_out {t s : Int} {f : Int → Int} (h0 : 1 ≤ t) (h1 : 1 ≤ s) (y : Int) (hy : wordsN t s ≤ y) : stV t s f y = f y := by
  unfold wordsN at hy
  unfold stV lkV
  rw [if_neg (by omega)]
  unfold faV zV wordsN
  rw [if_neg (by omega), if_neg (by omega)]

/-- The relation of the loop that lays junk. -/
def LsRel (A : PAt) (w : World) (len : Nat) (j : Int) (bs : List Int) (u : Value) (wr : World) : Prop :=
  ∃ k : Nat, k ≤ len ∧ u = .int .i64 k ∧ ∃ x : Turned A.lo A.hi w, wr = x.at' ∧ ∃ ws' n', Mem x.at' A ws' bs n' ∧ ws'.length = len ∧ ∀ y, atI ws' y = jkV j k y

/-- What is known behind New. -/
theorem starts_facts {w : World} {o : Obj} {c0 c1 c2 : Value} {T : TypeId} {lo : Nat} (x0 : Later ((w.alloc o).alloc (.cells #[c0, c1, c2] T)).drew) (hA : ((w.alloc o).alloc (.cells #[c0, c1, c2] T)).drew.heap.size ≤ lo) :
    Below w.heap.size w x0.at' ∧ w.heap.size + 1 < x0.at'.heap.size ∧ w.heap.size + 1 < lo ∧ x0.at'.cell? ⟨w.heap.size + 1, 0, none⟩ = some c0 ∧ x0.at'.cell? ⟨w.heap.size + 1, 1, none⟩ = some c1 ∧ x0.at'.cell? ⟨w.heap.size + 1, 2, none⟩ = some c2 := by
  have hz : ((w.alloc o).alloc (.cells #[c0, c1, c2] T)).drew.heap.size = w.heap.size + 1 + 1 := by simp only [World.size_drew, World.size_alloc]
  rw [hz] at hA
  have hc : ∀ k, x0.at'.cell? ⟨w.heap.size + 1, k, none⟩ = (#[c0, c1, c2])[k]? := fun k => by
    rw [x0.cell _ _ _ (by rw [hz]; omega), World.cell?_drew, World.cell?_alloc_at _ _ _ _ (by simp)]
  exact ⟨x0.boxed2, x0.lt _ (by rw [hz]; omega), by omega, hc 0, hc 1, hc 2⟩

/-- The relation of the loop that holds the words against the document's. -/
def LwRel (A : PAt) (w : World) (len : Nat) (ws bs : List Int) (u : Value) (wr : World) : Prop :=
  ∃ k : Nat, k ≤ len ∧ u = .int .i64 k ∧ ∃ x : Turned A.lo A.hi w, wr = x.at' ∧ ∃ n', Mem x.at' A ws bs n'

set_option maxHeartbeats 2000000 in
theorem starts_main (a s t j : Int) (p q : Nat) (w : World) (hlive : ∀ W, HasHead W → Calls Tryd.prog 22 #[] W (Ret W (.bool true))) (hF : HasHead w) (h1 : 1 ≤ p) (h2 : p ≤ 400) (h3 : q ≤ 4096) :
    Calls Tryd.prog 4 #[.agg #[.int .i64 a, .int .i64 s, .int .i64 t, .int .i64 p, .int .i64 q, .int .i64 j]] w (Ret w (.bool true)) := by
  have c1 := fun W => New_ok p q h1 (by omega) h3 W
  have i1 : (1 : Int) ≤ p := by omega
  have i2 : (p : Int) ≤ 400 := by omega
  have i3 : (0 : Int) ≤ q := by omega
  have i4 : (q : Int) ≤ 4096 := by omega
  go_enter Tryd.func4, Tryd.ntmps4
  go_wp2
  go_region
  go_wp2_with (go_at_call 23; (with_reducible refine (c1 _).mono ?_); rintro _ _ ⟨A, rfl, hA, x0, rfl, hM⟩)
  obtain ⟨hb, y1, y2, f0, f1, f2⟩ := starts_facts x0 hA
  have hF0 : HasHead x0.at' := hF.below hb
  have g0 : 0 < A.lo := by have := hF.lt0; omega
  have g1 : 1 < A.lo := by have := hF.lt1; omega
  have HB := Lib.hid hb
  clear hA c1 hb hF
  generalize x0.at' = W0 at *
  clear x0
  have hAs := hM.hs
  go_loopw [8] (fun u wr => LsRel A W0 p j (List.replicate q 0) u wr) (fun u _ => (p - intOf u).toNat)
  case atStart => exact ⟨0, by omega, rfl, Turned.none _ _ _, rfl, _, _, hM, by simp, fun y => by rw [atI_zeros]; exact (if_neg (by omega)).symm⟩
  case round =>
    obtain ⟨k, hk, rfl, x, rfl, ws', n', hM', hlen, hat⟩ := hrel
    have HL := Lib.hid hlen
    have HA := Lib.hid hat
    clear hlen hat hM
    by_cases hkp : (k : Int) < p
    · have hin : inI ws' k = true := inI_iff.2 (by rw [HL.out]; omega)
      have hst := Store_any k j hM'
      have HI := Lib.hid hin
      clear hin
      go_wp2_with (go_at_call 24; (with_reducible refine (pret_of x hst).mono ?_); rintro _ _ ⟨rfl, z, rfl, hM2⟩)
      go_roundw
      case rel =>
        refine ⟨k + 1, by omega, by go_num, z, rfl, _, _, hM2, by rw [setI_length]; exact HL.out, fun y => ?_⟩
        rw [atI_set _ _ _ _ HI.out, HA.out, Int.natCast_add, Int.natCast_one, jkV_next (by omega)]
      case measure => simp [intOf]; omega
    · have ek : k = p := by omega
      subst ek
      have hsb := SetByte_any 0 7 hM'
      have hb7 : setI (List.replicate q 0) 0 (7 % 256) = setI (List.replicate q 0) 0 7 := rfl
      rw [hb7] at hsb
      have hlb : (setI (List.replicate q (0 : Int)) 0 7).length = q := by simp
      have hb0 : 1 ≤ q → atI (setI (List.replicate q 0) 0 7) 0 = 7 := fun h => by rw [atI_set _ _ _ _ (inI_iff.2 (by simp; omega)), if_pos rfl]
      have HLB := Lib.hid hlb
      have HB0 := Lib.hid hb0
      clear hb7 hlb hb0
      generalize setI (List.replicate q 0) 0 7 = bs1 at hsb HLB HB0
      have hL0 : ∀ (n : Int) (W : World), Mem W A ws' bs1 n → Calls Tryd.prog 27 #[.pointer (some ⟨A.p, 0, none⟩), .int .i64 0] W (PRet A W (.int .i64 j) ws' bs1 (up n)) := fun n W h => by
        have := Load_any 0 h
        rw [HA.out, show jkV j k 0 = j from if_pos (by omega)] at this
        exact this
      go_wp2_with (go_at_call 25; (with_reducible refine (pret_of x hsb).mono ?_); rintro _ _ ⟨rfl, z, rfl, hM2⟩)
      clear hM' hsb x
      cases hmay : mayC a s t
      · have cSt := fun W (m : Value) => Start_mayNot a s t m hmay W
        have cMay := fun W => rMay_no hmay W
        clear hmay
        refine (tmem_of z hM2 (cSt _ _)).mono ?_
        rintro _ _ ⟨rfl, z, rfl, hM2⟩
        go_wp2_with (first
          | (go_at_call 10; (with_reducible refine (tmem_of z hM2 (cMay _)).mono ?_); rintro _ _ ⟨rfl, z, rfl, hM2⟩)
          | (go_at_call 27; (with_reducible refine (pret_of z (hL0 _ _ hM2)).mono ?_); rintro _ _ ⟨rfl, z, rfl, hM2⟩)
          | (go_at_call 22; (with_reducible refine (turned_of z (hlive _ (hF0.turned z g0 g1))).mono ?_); rintro _ _ ⟨rfl, z, rfl⟩))
        go_ret
        exact Ret.mk rfl (z.turn.below HB.out (by omega) HB.out.size)
      · have cMay := fun W => rMay_yes hmay W
        have cWo := fun W => rWords_yes hmay W
        by_cases hfew : (k : Int) < wordsN t s
        · have cSt := fun W n (h : Mem W A ws' bs1 n) => Start_few a s t A ws' bs1 n W h hmay (by rw [HL.out]; exact hfew)
          have d1 : decide ((k : Int) < wordsN t s) = true := by simpa using hfew
          generalize wordsN t s = N at *
          clear hmay hfew
          refine (tmem_of z hM2 (cSt _ _ hM2)).mono ?_
          rintro _ _ ⟨rfl, z, rfl, hM2⟩
          go_wp2_with (first
            | (go_at_call 10; (with_reducible refine (tmem_of z hM2 (cMay _)).mono ?_); rintro _ _ ⟨rfl, z, rfl, hM2⟩)
            | (go_at_call 12; (with_reducible refine (tmem_of z hM2 (cWo _)).mono ?_); rintro _ _ ⟨rfl, z, rfl, hM2⟩)
            | (go_at_call 27; (with_reducible refine (pret_of z (hL0 _ _ hM2)).mono ?_); rintro _ _ ⟨rfl, z, rfl, hM2⟩)
            | (go_at_call 22; (with_reducible refine (turned_of z (hlive _ (hF0.turned z g0 g1))).mono ?_); rintro _ _ ⟨rfl, z, rfl⟩))
          go_ret
          exact Ret.mk rfl (z.turn.below HB.out (by omega) HB.out.size)
        · by_cases hsh : (q : Int) < a
          · have cSt := fun W n (h : Mem W A ws' bs1 n) => Start_short a s t A ws' bs1 n W h hmay (by rw [HL.out]; omega) (by rw [HLB.out]; exact hsh)
            have d1 : decide ((k : Int) < wordsN t s) = false := by simpa using hfew
            generalize wordsN t s = N at *
            clear hmay
            refine (tmem_of z hM2 (cSt _ _ hM2)).mono ?_
            rintro _ _ ⟨rfl, z, rfl, hM2⟩
            go_wp2_with (first
              | (go_at_call 10; (with_reducible refine (tmem_of z hM2 (cMay _)).mono ?_); rintro _ _ ⟨rfl, z, rfl, hM2⟩)
              | (go_at_call 12; (with_reducible refine (tmem_of z hM2 (cWo _)).mono ?_); rintro _ _ ⟨rfl, z, rfl, hM2⟩)
              | (go_at_call 27; (with_reducible refine (pret_of z (hL0 _ _ hM2)).mono ?_); rintro _ _ ⟨rfl, z, rfl, hM2⟩)
              | (go_at_call 22; (with_reducible refine (turned_of z (hlive _ (hF0.turned z g0 g1))).mono ?_); rintro _ _ ⟨rfl, z, rfl⟩))
            go_ret
            exact Ret.mk rfl (z.turn.below HB.out (by omega) HB.out.size)
          · have cSt := fun W n (hF : HasHead W) (h : Mem W A ws' bs1 n) => Start_ok a s t A ws' bs1 n W hF g0 g1 h hmay (by rw [HL.out]; omega) (by rw [HLB.out]; omega)
            have cRS := fun W => rStart_any a s t hmay W
            obtain ⟨-, m1, m2, m3, m4, m5, m6⟩ := mayC_iff.1 hmay
            have hN0 : 0 ≤ wordsN t s := by unfold wordsN; omega
            have d1 : decide ((k : Int) < wordsN t s) = false := by simpa using hfew
            have d2 : decide ((q : Int) < a) = false := by simpa using hsh
            have hin : Hid (∀ i : Nat, (i : Int) < wordsN t s → stV t s (atI ws') i = rsF t s i) := fun i hi => st_in m5 m3 i hi
            have hout : Hid (∀ i : Nat, wordsN t s ≤ (i : Int) → i < k → stV t s (atI ws') i = j) := fun i hi hk => by
              rw [st_out m5 m3 i hi, HA.out]
              exact if_pos (by omega)
            obtain ⟨N, eN⟩ : ∃ N : Nat, wordsN t s = N := ⟨(wordsN t s).toNat, by omega⟩
            rw [eN] at cWo cRS d1 hin hout
            rw [Int.toNat_natCast] at cRS
            have d3 : decide (k < N) = false := by simp; omega
            have d4 : N ≤ k := by omega
            have EN := Lib.hid eN
            have hq1 : 1 ≤ q := by omega
            clear hmay hfew hsh eN hN0
            generalize stV t s (atI ws') = G at cSt hin hout
            generalize rsF t s = R at cRS hin
            refine (wret_of z (cSt _ _ (hF0.turned z g0 g1) hM2)).mono ?_
            rintro _ _ ⟨rfl, z, rfl, ws2, n2, hM2, hlen2, hat2⟩
            have HL2 := Lib.hid hlen2
            have HA2 := Lib.hid hat2
            clear hlen2 hat2 cSt hL0
            go_wp2_with (first
              | (go_at_call 10; (with_reducible refine (tmem_of z hM2 (cMay _)).mono ?_); rintro _ _ ⟨rfl, z, rfl, hM2⟩)
              | (go_at_call 12; (with_reducible refine (tmem_of z hM2 (cWo _)).mono ?_); rintro _ _ ⟨rfl, z, rfl, hM2⟩)
              | (go_at_call 28; (with_reducible refine (cRS _).mono ?_); rintro _ _ ⟨g, rfl, hg, y, rfl, hrow⟩))
            have hM3 := hM2.later y
            have hb2 : Below w.heap.size w y.at' := (z.turn.below HB.out (by omega) HB.out.size).trans (y.below.mono (z.turn.below HB.out (by omega) HB.out.size).size)
            have hF2 : HasHead y.at' := y.heads (hF0.turned z g0 g1)
            have hgA : A.hi ≤ g := Nat.le_trans hM2.hs hg
            have hgl := hrow.lt
            have HB2 := Lib.hid hb2
            clear cMay cWo cRS hM2 hg f0 f1 f2 hb2
            generalize y.at' = W2 at *
            clear y z y1
            go_loopw [11] (fun u wr => LwRel A W2 k ws2 bs1 u wr) (fun u _ => (k - intOf u).toNat)
            case atStart => exact ⟨0, by omega, rfl, Turned.none _ _ _, rfl, _, hM3⟩
            case round =>
              obtain ⟨i, hi, rfl, x, rfl, n3, hM4⟩ := hrel
              clear hM3
              by_cases hik : i < k
              · by_cases hiN : i < N
                · have hc : x.at'.cell? ⟨g, i, none⟩ = some (.int .i64 (R i)) := (x.cell_hi _ _ _ hgl hgA).trans (hrow.cell (by omega))
                  have hLd := Load_any i hM4
                  rw [HA2.out, hin.out i (by omega)] at hLd
                  generalize R i = v at hc hLd
                  have e1 : (v != v) = false := by simp
                  have hik' : (i : Int) < k := by omega
                  have hiN' : (i : Int) < N := by omega
                  clear hin hout
                  go_wp2_with (go_at_call 27; (with_reducible refine (pret_of x hLd).mono ?_); rintro _ _ ⟨rfl, x, rfl, hM5⟩)
                  go_roundw
                  case rel => exact ⟨i + 1, by omega, by go_num, x, rfl, _, hM5⟩
                  case measure => simp [intOf]; omega
                · have hLd := Load_any i hM4
                  rw [HA2.out, hout.out i (by omega) (by omega)] at hLd
                  have e1 : (j != j) = false := by simp
                  clear hin hout
                  go_wp2_with (go_at_call 27; (with_reducible refine (pret_of x hLd).mono ?_); rintro _ _ ⟨rfl, x, rfl, hM5⟩)
                  go_roundw
                  case rel => exact ⟨i + 1, by omega, by go_num, x, rfl, _, hM5⟩
                  case measure => simp [intOf]; omega
              · have hBy := Byte_any 0 hM4
                rw [HB0.out hq1] at hBy
                clear hin hout hi
                go_wp2_with (first
                  | (go_at_call 29; (with_reducible refine (pret_of x hBy).mono ?_); rintro _ _ ⟨rfl, x, rfl, hM5⟩)
                  | (go_at_call 22; (with_reducible refine (turned_of x (hlive _ (hF2.turned x g0 g1))).mono ?_); rintro _ _ ⟨rfl, x, rfl⟩))
                go_ret
                exact Ret.mk rfl (x.turn.below HB2.out (by omega) HB2.out.size)
end Go.Proofs.YtjcndjfiogbdiaaDoor
