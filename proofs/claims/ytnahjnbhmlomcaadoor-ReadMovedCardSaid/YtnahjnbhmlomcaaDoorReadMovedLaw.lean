/-
  The walk of ReadMoved.
  Conditions: none but that the tables read as they are laid.
-/
import Derived.Test.YtnahjnbhmlomcaaDoorReadWaitsLaw
namespace Go.Proofs.YtnahjnbhmlomcaaDoor
open Go.RowKit
attribute [local go_sem] Later.cell Later.frozen Later.lt Later.le
set_option linter.unusedVariables false
set_option linter.unusedSimpArgs false

def woM : List Int := [0, 1, 0, 0, 0, 562949953421328, 8, 0]
def woN : List Int := [0, 1, 0, 0, 0, 562949953421312, 8, 0]
def woG : List Int := [0, 1, 0, 0, 0, 1048576, 8, 0]
theorem wo_moved : setI (setI wo0 5 562949953421328) 6 8 = woM ∧ setI woM 5 562949953421312 = woN ∧ setI woN 5 1048576 = woG := by decide +kernel
theorem mo_own : OwnAt 562949953421328 0 16 := ⟨by decide +kernel, by decide +kernel, by decide +kernel, by decide, by decide⟩
theorem mn_own : OwnAt 562949953421312 0 0 := ⟨by decide +kernel, by decide +kernel, by decide +kernel, by decide, by decide⟩
theorem mg_own : ownB 1048576 0 = false := by decide +kernel
theorem mo_new (off : Int) : rmNew 1099511627776 1 off = ⟨true, 0, 0, off, 1, 0, false, 0, 0, 0⟩ := by
  unfold rmNew
  rw [show ofB 1099511627776 1 = true from by decide +kernel, show ofS 1099511627776 1 = 0 from by decide +kernel, show ofG 1099511627776 1 = 0 from by decide +kernel]
/-- The machine behind so many steps, where y is the object's byte. -/
def moM (off y : Int) : Nat → Rm
  | 0 => ⟨true, 0, 0, off, 1, 0, false, 0, 0, 0⟩
  | 1 => ⟨true, 0, 0, off, 2, 16, false, 0, 0, 0⟩
  | 2 => ⟨true, 0, 0, off, 3, 16, false, 0, 0, 0⟩
  | 3 => ⟨true, 0, 0, off, 4, 16, false, y, 0, 0⟩
  | _ => ⟨true, 0, 0, off, 0, 16, false, y, 0, y⟩
section
variable {off y : Int} {bs : List Int}
theorem mo_step (h0 : 0 ≤ off) (h1 : off ≤ 7) (hy : atI bs (16 + off) = y) : ∀ i : Nat, i ≤ 3 → rmO 1 1 (moM off y i) woM bs = moM off y (i + 1)
  | 0, _ => by rw [rm_s1 (x := 562949953421328) (o := 16) rfl rfl (by show atI woM (partN 1 1 0 0) = _; decide +kernel) mo_own]; rfl
  | 1, _ => by rw [rm_s2 (z := 8) (by show atI woM (partN 1 1 0 1) = _; decide +kernel) (by decide) (by decide) rfl ⟨h0, by show off < 8; omega⟩]; rfl
  | 2, _ => by
    rw [rm_s3 rfl ⟨by show (0 : Int) ≤ 16; decide, by show (16 : Int) ≤ 4096; decide⟩ ⟨h0, by show off ≤ 4096; omega⟩]
    show (⟨true, 0, 0, off, 4, 16, false, atI bs (16 + off), 0, 0⟩ : Rm) = _
    rw [hy]
    rfl
  | 3, _ => by rw [rm_s4 (x := 562949953421328) (o := 16) (by show atI woM (partN 1 1 0 0) = _; decide +kernel) mo_own rfl rfl]; rfl
  | i + 4, h => absurd h (by omega)
theorem mo_tells (off y : Int) (i : Nat) (hi : i ≤ 3) : rmT (moM off y i) (moM off y (i + 1)) = if i = 3 then (0, y, true) else (0, 0, false) := by
  match i, hi with
  | 0, _ => rfl
  | 1, _ => rfl
  | 2, _ => rfl
  | 3, _ => rfl
/-- What is told where it was moved. -/
theorem mo_run (h0 : 0 ≤ off) (h1 : off ≤ 7) (hn : atI bs off = y) (i : Nat) (hi : i ≤ 3) : ∃ j : Int, (rmRun 1 1 woN bs 10 0 (moM off y i)).1 = (0, y) ∧ ((rmRun 1 1 woN bs 10 0 (moM off y i)).2.1 : Int) = j := by
  have hx : ∀ b, atI woN (partN 1 1 0 b) = if b = 0 then 562949953421312 else if b = 1 then 8 else atI woN (partN 1 1 0 b) := fun b => by
    split
    · subst b; decide +kernel
    · split
      · subst b; decide +kernel
      · rfl
  have hx0 : atI woN (partN 1 1 0 0) = 562949953421312 := by decide +kernel
  have hx1 : atI woN (partN 1 1 0 1) = 8 := by decide +kernel
  refine ⟨_, ?_, rfl⟩
  have hin : 0 ≤ off ∧ off < 8 := by omega
  have again : ∀ (M : Rm) (f i : Nat), M.step = 1 → M.kn = true → M.slot = 0 → M.gen = 0 → M.off = off → (rmRun 1 1 woN bs (f + 4) i M).1 = (0, y) := fun M f i a b c d e => by
    have := (rm_reads (t := 1) (s := 1) (ws := woN) (bs := bs) (M := M) (f := f) (i := i) (x := 562949953421312) (o := 0) (z := 8) a b (by rw [c]; exact hx0) (by rw [d]; exact mn_own) (by rw [c]; exact hx1) (by decide) (by decide) (by rw [e]; exact hin)).1
    rw [this, e, Int.zero_add, hn]
  have from4 : ∀ (M : Rm) (f i : Nat), M.step = 4 → M.kn = true → M.slot = 0 → M.gen = 0 → M.off = off → M.base = 16 → (rmRun 1 1 woN bs (f + 5) i M).1 = (0, y) := fun M f i a b c d e g => by
    rw [rm_go (rm_again (x := 562949953421312) (t := 1) (s := 1) (ws := woN) (bs := bs) (M := M) (by rw [c]; exact hx0) a (Or.inr (by rw [mn_own.off, g]; decide))) (by omega) (by simp)]
    exact again _ f (i + 1) rfl b c d e
  match i, hi with
  | 0, _ => exact again _ 6 0 rfl rfl rfl rfl rfl
  | 1, _ =>
    show (rmRun 1 1 woN bs 10 0 ⟨true, 0, 0, off, 2, 16, false, 0, 0, 0⟩).1 = (0, y)
    rw [show (10 : Nat) = 9 + 1 from rfl, rm_go (rm_s2 (bs := bs) (t := 1) (s := 1) (ws := woN) (z := 8) (M := ⟨true, 0, 0, off, 2, 16, false, 0, 0, 0⟩) hx1 (by decide) (by decide) rfl hin) (by simp) (by simp)]
    rw [show (9 : Nat) = 8 + 1 from rfl, rm_go (rm_s3 (t := 1) (s := 1) (ws := woN) (bs := bs) (M := ⟨true, 0, 0, off, 3, 16, false, 0, 0, 0⟩) rfl ⟨by show (0 : Int) ≤ 16; decide, by show (16 : Int) ≤ 4096; decide⟩ ⟨h0, by show off ≤ 4096; omega⟩) (by simp) (by simp)]
    exact from4 _ 3 _ rfl rfl rfl rfl rfl rfl
  | 2, _ =>
    show (rmRun 1 1 woN bs 10 0 ⟨true, 0, 0, off, 3, 16, false, 0, 0, 0⟩).1 = (0, y)
    rw [show (10 : Nat) = 9 + 1 from rfl, rm_go (rm_s3 (t := 1) (s := 1) (ws := woN) (bs := bs) (M := ⟨true, 0, 0, off, 3, 16, false, 0, 0, 0⟩) rfl ⟨by show (0 : Int) ≤ 16; decide, by show (16 : Int) ≤ 4096; decide⟩ ⟨h0, by show off ≤ 4096; omega⟩) (by simp) (by simp)]
    exact from4 _ 4 _ rfl rfl rfl rfl rfl rfl
  | 3, _ => exact from4 _ 5 0 rfl rfl rfl rfl rfl rfl
/-- What is told where it is gone. -/
theorem mg_run (h0 : 0 ≤ off) (h1 : off ≤ 7) (i : Nat) (hi : i ≤ 3) : ∃ j : Int, (rmRun 1 1 woG bs 10 0 (moM off y i)).1 = (4, 0) ∧ ((rmRun 1 1 woG bs 10 0 (moM off y i)).2.1 : Int) = j := by
  have hx0 : atI woG (partN 1 1 0 0) = 1048576 := by decide +kernel
  have hx1 : atI woG (partN 1 1 0 1) = 8 := by decide +kernel
  refine ⟨_, ?_, rfl⟩
  have hin : 0 ≤ off ∧ off < 8 := by omega
  have again : ∀ (M : Rm) (f i : Nat), M.step = 1 → M.slot = 0 → M.gen = 0 → (rmRun 1 1 woG bs (f + 1) i M).1 = (4, 0) := fun M f i a c d => by
    rw [rm_end (rm_stale (x := 1048576) (t := 1) (s := 1) (ws := woG) (bs := bs) (M := M) (by rw [c]; exact hx0) a (by rw [d]; exact mg_own)) (by omega) rfl]
    rfl
  have from4 : ∀ (M : Rm) (f i : Nat), M.step = 4 → M.slot = 0 → M.gen = 0 → (rmRun 1 1 woG bs (f + 2) i M).1 = (4, 0) := fun M f i a c d => by
    rw [rm_go (rm_again (x := 1048576) (t := 1) (s := 1) (ws := woG) (bs := bs) (M := M) (by rw [c]; exact hx0) a (Or.inl (by rw [d]; exact mg_own))) (by omega) (by simp)]
    exact again _ f (i + 1) rfl c d
  match i, hi with
  | 0, _ => exact again _ 9 0 rfl rfl rfl
  | 1, _ =>
    show (rmRun 1 1 woG bs 10 0 ⟨true, 0, 0, off, 2, 16, false, 0, 0, 0⟩).1 = (4, 0)
    rw [show (10 : Nat) = 9 + 1 from rfl, rm_go (rm_s2 (bs := bs) (t := 1) (s := 1) (ws := woG) (z := 8) (M := ⟨true, 0, 0, off, 2, 16, false, 0, 0, 0⟩) hx1 (by decide) (by decide) rfl hin) (by simp) (by simp)]
    rw [show (9 : Nat) = 8 + 1 from rfl, rm_go (rm_s3 (t := 1) (s := 1) (ws := woG) (bs := bs) (M := ⟨true, 0, 0, off, 3, 16, false, 0, 0, 0⟩) rfl ⟨by show (0 : Int) ≤ 16; decide, by show (16 : Int) ≤ 4096; decide⟩ ⟨h0, by show off ≤ 4096; omega⟩) (by simp) (by simp)]
    exact from4 _ 6 _ rfl rfl rfl
  | 2, _ =>
    show (rmRun 1 1 woG bs 10 0 ⟨true, 0, 0, off, 3, 16, false, 0, 0, 0⟩).1 = (4, 0)
    rw [show (10 : Nat) = 9 + 1 from rfl, rm_go (rm_s3 (t := 1) (s := 1) (ws := woG) (bs := bs) (M := ⟨true, 0, 0, off, 3, 16, false, 0, 0, 0⟩) rfl ⟨by show (0 : Int) ≤ 16; decide, by show (16 : Int) ≤ 4096; decide⟩ ⟨h0, by show off ≤ 4096; omega⟩) (by simp) (by simp)]
    exact from4 _ 7 _ rfl rfl rfl
  | 3, _ => exact from4 _ 8 0 rfl rfl rfl
end
/-- The bytes, as they are first, and behind the move. -/
def mvB (off b0 : Int) : List Int := setI (List.replicate 32 0) (16 + off) (b0 % 256)
def mvB2 (off b0 b1 : Int) : List Int := setI (setI (mvB off b0) off (b0 % 256)) (16 + off) (b1 % 256)
theorem mvB_len (off b0 : Int) : (mvB off b0).length = 32 := by
  unfold mvB setI
  split <;> simp
theorem mvB_at {off : Int} (b0 : Int) (h0 : 0 ≤ off) (h1 : off ≤ 7) : atI (mvB off b0) (16 + off) = b0.tmod 256 % 256 := by
  unfold mvB
  rw [atI_set _ _ _ _ (inI_iff.2 ⟨by omega, by simp; omega⟩), if_pos rfl, back_mod]
theorem mvB2_at {off : Int} (b0 b1 : Int) (h0 : 0 ≤ off) (h1 : off ≤ 7) : atI (mvB2 off b0 b1) off = b0.tmod 256 % 256 := by
  have hl : (setI (mvB off b0) off (b0 % 256)).length = 32 := by
    unfold setI
    split
    · rw [List.length_set]; exact mvB_len off b0
    · exact mvB_len off b0
  unfold mvB2
  rw [atI_set _ _ _ _ (inI_iff.2 ⟨by omega, by rw [hl]; omega⟩), if_neg (by omega), atI_set _ _ _ _ (inI_iff.2 ⟨by omega, by rw [mvB_len]; omega⟩), if_pos rfl, back_mod]
theorem mvK {W : World} {q : Nat} {a b c d e : Value} (h : Fs W q [a, b, c, d, e]) : W.cell? ⟨q, 0, none⟩ = some a ∧ W.cell? ⟨q, 1, none⟩ = some b ∧ W.cell? ⟨q, 2, none⟩ = some c ∧ W.cell? ⟨q, 3, none⟩ = some d ∧ W.cell? ⟨q, 4, none⟩ = some e := ⟨h.at' 0 rfl, h.at' 1 rfl, h.at' 2 rfl, h.at' 3 rfl, h.at' 4 rfl⟩
/-- The array's two cells, wherever one is. -/
theorem mv_two {w W : World} {A : PAt} {t s : Int} {ws bs : List Int} {K : List (Nat × List Value)} {q : Nat} {a b : Value} (h : Rv (w.alloc (.cells #[.int .i64 32, .int .i64 1, .int .i64 1] 26)) A t s ws bs K W) (hq : Fs w q [a, b]) : W.cell? ⟨q, 0, none⟩ = some a ∧ W.cell? ⟨q, 1, none⟩ = some b := by
  have hf := (hq.alloc (.cells #[.int .i64 32, .int .i64 1, .int .i64 1] 26)).below h.bel (hq.alloc _).lt
  exact ⟨hf.at' 0 rfl, hf.at' 1 rfl⟩
theorem mo_st (off y : Int) (i : Nat) (hi : i ≤ 3) : 0 ≤ (moM off y i).step ∧ (moM off y i).step ≤ 4 := by
  match i, hi with
  | 0, _ => simp [moM]
  | 1, _ => simp [moM]
  | 2, _ => simp [moM]
  | 3, _ => simp [moM]
/-- The rounds' relation. -/
def MvRel (Wb : World) (A : PAt) (k : Nat) (off y : Int) (bs : List Int) (N : Nat) (v : Value) (wr : World) : Prop := ∃ i : Nat, v = .int .i64 i ∧ i ≤ N ∧ i ≤ 3 ∧ Rv (Wb.alloc (.cells #[.int .i64 32, .int .i64 1, .int .i64 1] 26)) A 1 1 woM bs [] wr ∧ Fs wr k (rmL 1 1 (moM off y i))

set_option maxHeartbeats 16000000 in
set_option maxRecDepth 8000 in
theorem ReadMoved_walk (at' off b0 b1 : Int) (gone : Bool) {w : World} (hH : HasHead w) (hE : HasFields w) : Calls Tryd.prog 3 #[.agg #[.int .i64 at', .int .i64 off, .int .i64 b0, .int .i64 b1, .bool gone]] w (Ret w (.bool true)) := by
  have hbox : Fs (w.alloc (.cells #[.int .i64 at', .int .i64 off, .int .i64 b0, .int .i64 b1, .bool gone] 24)) w.heap.size [.int .i64 at', .int .i64 off, .int .i64 b0, .int .i64 b1, .bool gone] := Fs.new' _ _ rfl rfl
  have hB0 : Below w.heap.size w (w.alloc (.cells #[.int .i64 at', .int .i64 off, .int .i64 b0, .int .i64 b1, .bool gone] 24)) := (Below.refl _ _).alloc (Nat.le_refl _) _
  have hmk := fun W => Make_same 0 0 W
  rw [mk00.1, mk00.2] at hmk
  have n1 := fun W => rnew_yes 32 1 1 1099511627776 off (by decide) W
  rw [mo_new] at n1
  have hlv := fun W => rlive_any W
  go_enter Tryd.func3, Tryd.ntmps3
  go_wp2_with fail
  go_region_held3 (fun w' => w'.cell? ⟨w.heap.size, 0, none⟩ = some (.int .i64 at') ∧ w'.cell? ⟨w.heap.size, 1, none⟩ = some (.int .i64 off) ∧ w'.cell? ⟨w.heap.size, 2, none⟩ = some (.int .i64 b0) ∧ w'.cell? ⟨w.heap.size, 3, none⟩ = some (.int .i64 b1) ∧ w'.cell? ⟨w.heap.size, 4, none⟩ = some (.bool gone)) (first
  | exact mvK hbox
  | exact mvK hbox.drew
  | exact mvK (hbox.drew.alloc _)
  | exact mvK (hbox.alloc _)) (fail)
  have hB1 : Below w.heap.size w ((w.alloc (.cells #[.int .i64 at', .int .i64 off, .int .i64 b0, .int .i64 b1, .bool gone] 24)).alloc (.cells #[.int .i64 b0, .int .i64 b1] 22)).drew := (hB0.alloc hB0.size _).drew
  have hq : Fs ((w.alloc (.cells #[.int .i64 at', .int .i64 off, .int .i64 b0, .int .i64 b1, .bool gone] 24)).alloc (.cells #[.int .i64 b0, .int .i64 b1] 22)).drew (w.heap.size + 1) [.int .i64 b0, .int .i64 b1] := (Fs.new' _ _ (by simp) rfl).drew
  generalize ((w.alloc (.cells #[.int .i64 at', .int .i64 off, .int .i64 b0, .int .i64 b1, .bool gone] 24)).alloc (.cells #[.int .i64 b0, .int .i64 b1] 22)).drew = Wb at hB1 hq ⊢
  generalize w.heap.size + 1 = qb at hq ⊢
  have hHb := hH.below hB1
  have hEb := hE.below hB1 hE.lt
  have hst := start_yes 32 1 1 (by decide) (Wb.alloc (.cells #[.int .i64 32, .int .i64 1, .int .i64 1] 26)) (hHb.alloc _)
  have hE0 := hEb.alloc (.cells #[.int .i64 32, .int .i64 1, .int .i64 1] 26)
  have hw0 : Below w.heap.size w (Wb.alloc (.cells #[.int .i64 32, .int .i64 1, .int .i64 1] 26)) := hB1.alloc hB1.size _
  clear hbox hB0 hB1
  by_cases hin : (0 ≤ at' ∧ at' ≤ 4) ∧ 0 ≤ off ∧ off ≤ 7
  · obtain ⟨⟨i0, i1⟩, o0, o1⟩ := hin
    obtain ⟨N, rfl⟩ := Int.eq_ofNat_of_zero_le i0
    go_wp2_with (first
      | (go_at_call 7; (with_reducible refine hst.mono ?_); rintro _ V1 ⟨A, rfl, hlo, hB1, ws, n, hM1, hlen, hat⟩; have hws := wo_at ws hlen hat; subst hws; have hv1 : Rv (Wb.alloc (.cells #[.int .i64 32, .int .i64 1, .int .i64 1] 26)) A 1 1 wo0 (List.replicate (32 : Int).toNat 0) [] V1 := ⟨hB1, hE0, ⟨n, hM1⟩, hlo, (fun p hp => absurd hp (by simp)), (by decide), (by decide), (by decide), (by decide)⟩)
      | (go_at_call 8; (with_reducible refine (hmk _).mono ?_); rintro _ _ ⟨rfl, rfl⟩)
      | (go_at_call 10; (with_reducible refine (rvStore hv1 _ _).mono ?_); rintro _ V2 ⟨rfl, hv2, -⟩; clear hv1)
      | (go_at_call 10; (with_reducible refine (rvStore hv2 _ _).mono ?_); rintro _ V3 ⟨rfl, hv3, -⟩; rw [wo_moved.1] at hv3; clear hv2; obtain ⟨z0, z1⟩ := mv_two hv3 hq)
      | (go_at_call 11; (with_reducible refine (rvByte hv3 _ _).mono ?_); rintro _ V4 ⟨rfl, hv4, -⟩; obtain ⟨a0, a1, a2⟩ := rv_cell hv4)
      | (go_at_call 12; (with_reducible refine (n1 _).mono ?_); rintro _ V5 ⟨k1, rfl, hk1, hb1, hf1⟩; have hv5 := hv4.below hb1))
    have hk : A.hi ≤ k1 := by
      obtain ⟨n, hm⟩ := hv4.mem
      have := hm.hs
      omega
    have hv5' : Rv (Wb.alloc (.cells #[.int .i64 32, .int .i64 1, .int .i64 1] 26)) A 1 1 woM (mvB off b0) [] V5 := hv5
    have HBY := Lib.hid (mvB_at b0 o0 o1)
    clear hst hmk n1 hv3 hv4 hv5 hb1 a0 a1 a2 hk1 hB1 hM1 hlen hat z0 z1
    go_loopw [12] (fun v wr => MvRel Wb A k1 off (b0.tmod 256 % 256) (mvB off b0) N v wr) (fun v _ => N - (intOf v).toNat)
    case atStart => exact ⟨0, rfl, Nat.zero_le _, Nat.zero_le _, hv5', hf1⟩
    case round =>
      obtain ⟨i, rfl, hi, hi3, hv, hf⟩ := hrel
      clear hv5' hf1
      obtain ⟨tb1, tb2, tb3⟩ := tmod_bd b0
      clear tb3
      by_cases hiN : i < N
      · have j1 : (i : Int) < N := by omega
        have hst1 := mo_st off (b0.tmod 256 % 256) i hi3
        have hT := mo_tells off (b0.tmod 256 % 256) i hi3
        have hO := mo_step (off := off) (y := b0.tmod 256 % 256) o0 o1 HBY.out i hi3
        by_cases h3 : i = 3
        · subst h3
          rw [if_pos rfl] at hT
          have hs := rvStep hv hk (fun p hp => absurd hp (by simp)) hf hst1 hO hT
          clear hO hT hst1
          unfold ifc at hs
          go_wp2_with (first
            | (go_at_call 13; (with_reducible refine hs.mono ?_); rintro _ W1 ⟨rfl, hv1, hf1⟩; have hv2 := hv1.alloc (.cells #[.int .i64 0, .int .i64 (b0.tmod 256 % 256)] 37); obtain ⟨z0, z1⟩ := mv_two hv2 hq; have hB4 := hw0.trans (hv2.bel.mono hw0.size))
            | (go_at_call 9; (with_reducible refine (hlv _ (hH.below hB4) (hE.below hB4 hE.lt)).mono ?_); rintro _ _ ⟨rfl, x5, rfl⟩))
          go_ret
          exact Ret.mk rfl (x5.cat hB4 hB4.size)
        · rw [if_neg h3] at hT
          have hs := rvStep hv hk (fun p hp => absurd hp (by simp)) hf hst1 hO hT
          clear hO hT hst1
          unfold ifc at hs
          go_wp2_with (first
            | (go_at_call 13; (with_reducible refine hs.mono ?_); rintro _ W1 ⟨rfl, hv1, hf1⟩))
          go_roundw
          case rel => exact ⟨i + 1, by go_num, by omega, by omega, hv1.alloc _, hf1.alloc _⟩
          case measure => simp [intOf]; omega
      · have j1 : ¬ (i : Int) < N := by omega
        have hby2 := mvB2_at b0 b1 o0 o1
        obtain ⟨ja, hja⟩ := mo_run (off := off) (y := b0.tmod 256 % 256) (bs := mvB2 off b0 b1) o0 o1 hby2 i hi3
        obtain ⟨jb, hjb⟩ := mg_run (off := off) (y := b0.tmod 256 % 256) (bs := mvB2 off b0 b1) o0 o1 i hi3
        have hst1 := mo_st off (b0.tmod 256 % 256) i hi3
        have ra := fun (W : World) (hv : Rv (Wb.alloc (.cells #[.int .i64 32, .int .i64 1, .int .i64 1] 26)) A 1 1 woN (mvB2 off b0 b1) [] W) (hf : Fs W k1 (rmL 1 1 (moM off (b0.tmod 256 % 256) i))) => rvRun2 10 10 rfl (by decide) hv hk (fun p hp => absurd hp (by simp)) hf hst1 hja
        have rb := fun (W : World) (hv : Rv (Wb.alloc (.cells #[.int .i64 32, .int .i64 1, .int .i64 1] 26)) A 1 1 woG (mvB2 off b0 b1) [] W) (hf : Fs W k1 (rmL 1 1 (moM off (b0.tmod 256 % 256) i))) => rvRun2 10 10 rfl (by decide) hv hk (fun p hp => absurd hp (by simp)) hf hst1 hjb
        obtain ⟨z0, z1⟩ := mv_two hv hq
        clear hja hjb hby2 hst1
        cases gone
        · go_wp2_with (first
            | (go_at_call 11; (with_reducible refine (rvByte hv _ _).mono ?_); rintro _ V2 ⟨rfl, hv2, ht2⟩; have hf2 := hf.touch ht2 (Or.inr hk); clear z0 z1; obtain ⟨z0, z1⟩ := mv_two hv2 hq)
            | (go_at_call 11; (with_reducible refine (rvByte hv2 _ _).mono ?_); rintro _ V3 ⟨rfl, hv3a, ht3⟩; have hv3 : Rv (Wb.alloc (.cells #[.int .i64 32, .int .i64 1, .int .i64 1] 26)) A 1 1 woM (mvB2 off b0 b1) [] V3 := hv3a; clear hv3a; have hf3 := hf2.touch ht3 (Or.inr hk))
            | (go_at_call 10; (with_reducible refine (rvStore hv3 _ _).mono ?_); rintro _ V4 ⟨rfl, hv4, ht4⟩; rw [wo_moved.2.1] at hv4; have hf4 := hf3.touch ht4 (Or.inr hk))
            | (go_at_call 14; (with_reducible refine (ra _ hv4 hf4).mono ?_); rintro _ V6 ⟨rfl, hv6⟩; have hv7 := hv6.alloc (.cells #[.int .i64 0, .int .i64 (b0.tmod 256 % 256)] 37); clear z0 z1; obtain ⟨z0, z1⟩ := mv_two hv7 hq; have hB4 := hw0.trans (hv7.bel.mono hw0.size))
            | (go_at_call 9; (with_reducible refine (hlv _ (hH.below hB4) (hE.below hB4 hE.lt)).mono ?_); rintro _ _ ⟨rfl, x5, rfl⟩))
          go_ret
          exact Ret.mk rfl (x5.cat hB4 hB4.size)
        · go_wp2_with (first
            | (go_at_call 11; (with_reducible refine (rvByte hv _ _).mono ?_); rintro _ V2 ⟨rfl, hv2, ht2⟩; have hf2 := hf.touch ht2 (Or.inr hk); clear z0 z1; obtain ⟨z0, z1⟩ := mv_two hv2 hq)
            | (go_at_call 11; (with_reducible refine (rvByte hv2 _ _).mono ?_); rintro _ V3 ⟨rfl, hv3a, ht3⟩; have hv3 : Rv (Wb.alloc (.cells #[.int .i64 32, .int .i64 1, .int .i64 1] 26)) A 1 1 woM (mvB2 off b0 b1) [] V3 := hv3a; clear hv3a; have hf3 := hf2.touch ht3 (Or.inr hk))
            | (go_at_call 10; (with_reducible refine (rvStore hv3 _ _).mono ?_); rintro _ V4 ⟨rfl, hv4, ht4⟩; rw [wo_moved.2.1] at hv4; have hf4 := hf3.touch ht4 (Or.inr hk))
            | (go_at_call 10; (with_reducible refine (rvStore hv4 _ _).mono ?_); rintro _ V5 ⟨rfl, hv5, ht5⟩; rw [wo_moved.2.2] at hv5; have hf5 := hf4.touch ht5 (Or.inr hk))
            | (go_at_call 14; (with_reducible refine (rb _ hv5 hf5).mono ?_); rintro _ V6 ⟨rfl, hv6⟩; have hv7 := hv6.alloc (.cells #[.int .i64 4, .int .i64 0] 37); have hB4 := hw0.trans (hv7.bel.mono hw0.size))
            | (go_at_call 9; (with_reducible refine (hlv _ (hH.below hB4) (hE.below hB4 hE.lt)).mono ?_); rintro _ _ ⟨rfl, x5, rfl⟩))
          go_ret
          exact Ret.mk rfl (x5.cat hB4 hB4.size)
  · by_cases c1 : at' < 0
    · clear hin
      go_wp2_with (first
        | (go_at_call 7; (with_reducible refine hst.mono ?_); rintro _ V1 ⟨A, rfl, hlo, hB1, ws, n, hM1, hlen, hat⟩; have hB4 := hw0.trans (hB1.mono hw0.size))
        | (go_at_call 8; (with_reducible refine (hmk _).mono ?_); rintro _ _ ⟨rfl, rfl⟩)
        | (go_at_call 9; (with_reducible refine (hlv _ (hH.below hB4) (hE.below hB4 hE.lt)).mono ?_); rintro _ _ ⟨rfl, x5, rfl⟩))
      go_ret
      exact Ret.mk rfl (x5.cat hB4 hB4.size)
    · by_cases c2 : 4 < at'
      · clear hin
        go_wp2_with (first
          | (go_at_call 7; (with_reducible refine hst.mono ?_); rintro _ V1 ⟨A, rfl, hlo, hB1, ws, n, hM1, hlen, hat⟩; have hB4 := hw0.trans (hB1.mono hw0.size))
          | (go_at_call 8; (with_reducible refine (hmk _).mono ?_); rintro _ _ ⟨rfl, rfl⟩)
          | (go_at_call 9; (with_reducible refine (hlv _ (hH.below hB4) (hE.below hB4 hE.lt)).mono ?_); rintro _ _ ⟨rfl, x5, rfl⟩))
        go_ret
        exact Ret.mk rfl (x5.cat hB4 hB4.size)
      · by_cases c3 : off < 0
        · clear hin
          go_wp2_with (first
            | (go_at_call 7; (with_reducible refine hst.mono ?_); rintro _ V1 ⟨A, rfl, hlo, hB1, ws, n, hM1, hlen, hat⟩; have hB4 := hw0.trans (hB1.mono hw0.size))
            | (go_at_call 8; (with_reducible refine (hmk _).mono ?_); rintro _ _ ⟨rfl, rfl⟩)
            | (go_at_call 9; (with_reducible refine (hlv _ (hH.below hB4) (hE.below hB4 hE.lt)).mono ?_); rintro _ _ ⟨rfl, x5, rfl⟩))
          go_ret
          exact Ret.mk rfl (x5.cat hB4 hB4.size)
        · have c4 : 7 < off := by omega
          clear hin
          go_wp2_with (first
            | (go_at_call 7; (with_reducible refine hst.mono ?_); rintro _ V1 ⟨A, rfl, hlo, hB1, ws, n, hM1, hlen, hat⟩; have hB4 := hw0.trans (hB1.mono hw0.size))
            | (go_at_call 8; (with_reducible refine (hmk _).mono ?_); rintro _ _ ⟨rfl, rfl⟩)
            | (go_at_call 9; (with_reducible refine (hlv _ (hH.below hB4) (hE.below hB4 hE.lt)).mono ?_); rintro _ _ ⟨rfl, x5, rfl⟩))
          go_ret
          exact Ret.mk rfl (x5.cat hB4 hB4.size)
end Go.Proofs.YtnahjnbhmlomcaaDoor
