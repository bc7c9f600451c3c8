/-
  What Free tells: the slots that one comes to from the Stack on.
  Conditions: none but that plain cells lie there, whose words are numbers of 64 bits, and the tables read as they are laid.
-/
import Derived.Test.YtlidoicpfomfcaaDoorStPush
import Derived.Test.YtlidoicpfomfcaaDoorLayFreeMore
namespace Go.Proofs.YtlidoicpfomfcaaDoor
open Go.RowKit
attribute [local go_sem] Later.cell Later.frozen Later.lt Later.le Turned.cell_lo Turned.cell_hi Turned.frozen_lo Turned.frozen_hi Turned.lt Turned.le
set_option linter.unusedVariables false

/-- The slots from a top on, so many at most. -/
def freeF (t s : Int) (ws : List Int) : Nat → Int → List Int
  | 0, _ => []
  | f + 1, v => if 1 ≤ v ∧ v ≤ s then (v - 1) :: freeF t s ws f (atI ws (partN t s (v - 1) 2)) else []
def freeL (t s : Int) (ws : List Int) : List Int := if heB (atI ws 1) then freeF t s ws s.toNat (atI ws 1 % 1048576) else []
theorem freeF_in {t s : Int} {ws : List Int} {f : Nat} {v : Int} (h : 1 ≤ v ∧ v ≤ s) : freeF t s ws (f + 1) v = (v - 1) :: freeF t s ws f (atI ws (partN t s (v - 1) 2)) := if_pos h
theorem freeF_out {t s : Int} {ws : List Int} (f : Nat) {v : Int} (h : ¬ (1 ≤ v ∧ v ≤ s)) : freeF t s ws f v = [] := by
  cases f
  · rfl
  · exact if_neg h

/-- All words are numbers of 64 bits. -/
def Wd (ws : List Int) : Prop := ∀ i, -9223372036854775808 ≤ atI ws i ∧ atI ws i ≤ 9223372036854775807

theorem slotOf_w (x : Int) (w : World) : Calls Tryd.prog 39 #[.int .i64 x] w fun e w' => e = .returned (.int .i64 (wrap64 (x - 1))) ∧ w = w' := by
  go_enter Tryd.func39, Tryd.ntmps39
  go_wp2
  go_ret
  exact ⟨rfl, rfl⟩

section
variable {A : PAt} {ws bs : List Int} {n : Int} {w : World} {t s : Int}

theorem slotsOf_any (h0 : 0 ≤ t) (h1 : t ≤ 4) (h2 : 0 ≤ s) (h3 : s ≤ 64) (w : World) : Calls Tryd.prog 38 #[.agg #[.int .i64 t, .int .i64 s]] w (Ret w (.int .i64 s)) := by
  have hhs := fun i W => hasSlot_any (t := t) (s := s) h0 h1 h2 h3 i W
  go_enter Tryd.func38, Tryd.ntmps38
  go_wp2
  go_loopw [3] (fun u wr => ∃ k : Nat, (k : Int) ≤ s ∧ u = .int .i64 k ∧ ∃ x : Later (w.alloc (.cells #[.int .i64 t, .int .i64 s] 31)), wr = x.at') (fun u _ => (s - intOf u).toNat)
  case atStart => exact ⟨0, by omega, rfl, ⟨_, Below.refl _ _⟩, rfl⟩
  case round =>
    obtain ⟨k, hk, rfl, x, rfl⟩ := hrel
    have hc := hhs k
    by_cases hks : (k : Int) < s
    · rw [partN_in (by omega), decide_eq_true (by omega)] at hc
      clear hhs
      go_wp2_with (go_at_call 40; (with_reducible refine (later_of _ (hc _)).mono ?_); rintro _ _ ⟨rfl, y, rfl⟩)
      go_roundw
      case rel => exact ⟨k + 1, by omega, by go_num, y, rfl⟩
      case measure => simp [intOf]; omega
    · have ek : (k : Int) = s := by omega
      rw [partN_no (by omega), decide_eq_false (by omega)] at hc
      have EK := Lib.hid ek
      clear hhs ek
      go_wp2_with (go_at_call 40; (with_reducible refine (later_of _ (hc _)).mono ?_); rintro _ _ ⟨rfl, y, rfl⟩)
      go_ret
      exact Ret.mk (by first | rfl | (rw [EK.out]; rfl)) y.boxed

theorem ints_len {w : World} {base : Nat} {v : Value} {l : List Int} (h : Ints w base v l) : ∃ p cap, v = .slice p l.length cap := by
  rcases h.2 with ⟨rfl, h0⟩ | ⟨g, cap, cur, rfl, _⟩
  · exact ⟨_, 0, by rw [h0]⟩
  · exact ⟨_, _, rfl⟩

/-- What is known all along. -/
structure FrS (A : PAt) (V : World) (g : Nat) (t s : Int) (ws bs : List Int) (w' : World) : Prop where
  fs : Fs w' g [.int .i64 t, .int .i64 s]
  hd : HasHead w'
  mem : ∃ n, Mem w' A ws bs n
  tch : Touch A.lo A.hi V w'
theorem FrS.later {V W : World} {g : Nat} (h : FrS A V g t s ws bs W) (y : Later W) : FrS A V g t s ws bs y.at' := ⟨h.fs.later y, y.heads h.hd, h.mem.imp fun _ m => m.later y, h.tch.trans (Touch.of_below y.below)⟩
theorem FrS.drew {V W : World} {g : Nat} (h : FrS A V g t s ws bs W) : FrS A V g t s ws bs W.drew := ⟨h.fs.drew, ⟨h.hd.lt0, h.hd.lt1, h.hd.c0, h.hd.c1, h.hd.c2, h.hd.c3⟩, h.mem.imp fun _ m => m.drew, h.tch.drew⟩
theorem FrS.turned {V W : World} {g : Nat} (h : FrS A V g t s ws bs W) (g0 : 0 < A.lo) (g1 : 1 < A.lo) (hg : A.hi ≤ g) (z : Turned A.lo A.hi W) {n : Int} (hm : Mem z.at' A ws bs n) : FrS A V g t s ws bs z.at' :=
  ⟨h.fs.touch z.turn (Or.inr hg), h.hd.touch z.turn g0 g1, ⟨_, hm⟩, h.tch.trans z.turn⟩
theorem frK {V W : World} {g : Nat} (h : FrS A V g t s ws bs W) : W.cell? ⟨g, 0, none⟩ = some (.int .i64 t) ∧ W.cell? ⟨g, 1, none⟩ = some (.int .i64 s) ∧ FrS A V g t s ws bs W := ⟨h.fs.at' 0 rfl, h.fs.at' 1 rfl, h⟩
theorem frL {V W : World} {g : Nat} {a b : Prop} (h : a ∧ b ∧ FrS A V g t s ws bs W) : FrS A V g t s ws bs W := h.2.2

/-- The same, beside an own row of numbers. -/
structure FrI (A : PAt) (V : World) (g : Nat) (t s : Int) (ws bs : List Int) (u : Value) (l : List Int) (w' : World) : Prop where
  fr : FrS A V g t s ws bs w'
  own : Ints w' V.heap.size u l
theorem Ints.drew {w : World} {base : Nat} {v : Value} {l : List Int} (h : Ints w base v l) : Ints w.drew base v l := h.later ⟨w.drew, (Below.refl _ _).drew⟩
theorem FrI.later {V W : World} {g : Nat} {u : Value} {l : List Int} (h : FrI A V g t s ws bs u l W) (y : Later W) : FrI A V g t s ws bs u l y.at' := ⟨h.fr.later y, h.own.later y⟩
theorem FrI.drew {V W : World} {g : Nat} {u : Value} {l : List Int} (h : FrI A V g t s ws bs u l W) : FrI A V g t s ws bs u l W.drew := ⟨h.fr.drew, h.own.drew⟩
theorem FrI.turned {V W : World} {g : Nat} {u : Value} {l : List Int} (h : FrI A V g t s ws bs u l W) (g0 : 0 < A.lo) (g1 : 1 < A.lo) (hg : A.hi ≤ g) (hv : A.hi ≤ V.heap.size) (z : Turned A.lo A.hi W) {n : Int} (hm : Mem z.at' A ws bs n) : FrI A V g t s ws bs u l z.at' :=
  ⟨h.fr.turned g0 g1 hg z hm, h.own.touch z.turn hv⟩
theorem fiK {V W : World} {g : Nat} {u : Value} {l : List Int} (h : FrI A V g t s ws bs u l W) : W.cell? ⟨g, 0, none⟩ = some (.int .i64 t) ∧ W.cell? ⟨g, 1, none⟩ = some (.int .i64 s) ∧ FrI A V g t s ws bs u l W := ⟨h.fr.fs.at' 0 rfl, h.fr.fs.at' 1 rfl, h⟩
theorem fiL {V W : World} {g : Nat} {u : Value} {l : List Int} {a b : Prop} (h : a ∧ b ∧ FrI A V g t s ws bs u l W) : FrI A V g t s ws bs u l W := h.2.2

theorem Ints.low {w : World} {base b : Nat} {v : Value} {l : List Int} (h : Ints w base v l) (hb : b ≤ base) : Ints w b v l := by
  refine ⟨h.1, ?_⟩
  rcases h.2 with hn | ⟨g, cap, cur, hv, hg, r⟩
  · exact .inl hn
  · exact .inr ⟨g, cap, cur, hv, Nat.le_trans hb hg, r⟩
/-- Behind an append of one number. -/
theorem FrI.more {V W w4 : World} {g : Nat} {u u' : Value} {l : List Int} {o : Obj} {x : Int} (h : FrI A V g t s ws bs u l W) (g0 : 0 < A.lo) (g1 : 1 < A.lo) (hg : A.hi ≤ g) (hv : g < V.heap.size) (hp : 0 < V.heap.size) (hq : 1 < V.heap.size)
    (hgr : (W.alloc o).grownBy w4 u.ownBlock) (hO : w4.ownsRow V.heap.size 3 1 u' (l.length + 1) (l.map (Value.int .i64) ++ [Value.int .i64 x])) : FrI A V g t s ws bs u' (l ++ [x]) w4 := by
  have hr : ∀ k, u.ownBlock = some k → V.heap.size ≤ k := fun k hk => (World.ownsRow.lt h.own k hk).1
  have hb : ∀ k, k < W.heap.size → k < V.heap.size → w4.heap[k]? = W.heap[k]? := fun k hk hkv => by
    rw [hgr.block k (by simp; omega) (fun e => by have := hr k e.symm; omega)]
    exact ((Below.refl W.heap.size W).alloc (Nat.le_refl _) o).block k hk
  have hz : W.heap.size ≤ w4.heap.size := Nat.le_trans (by simp) hgr.size
  have a0 := hb _ h.fr.hd.lt0 hp
  have a1 := hb _ h.fr.hd.lt1 hq
  exact ⟨⟨h.fr.fs.of_block hz (hb g h.fr.fs.lt hv), ⟨Nat.lt_of_lt_of_le h.fr.hd.lt0 hz, Nat.lt_of_lt_of_le h.fr.hd.lt1 hz, (World.cell?_of_block (w := W) a0).trans h.fr.hd.c0, (World.cell?_of_block (w := W) a0).trans h.fr.hd.c1, (World.cell?_of_block (w := W) a1).trans h.fr.hd.c2, (World.cell?_of_block (w := W) a1).trans h.fr.hd.c3⟩,
    h.fr.mem.imp fun _ m => (m.alloc o).grown hgr (fun k hk => by have := hr k hk; omega), (h.fr.tch.alloc o).grown hgr hr⟩, Ints.more hO rfl⟩

/-- The loop's relation: what it has come to, and what is left. -/
def FlRel (A : PAt) (V : World) (g : Nat) (t s : Int) (ws bs L : List Int) (u v : Value) (wr : World) : Prop :=
  ∃ (l : List Int) (i : Int), -9223372036854775808 ≤ i ∧ i ≤ 9223372036854775807 ∧ v = .int .i64 (wrap64 (i - 1)) ∧ (l.length : Int) ≤ s ∧ l ++ freeF t s ws (s.toNat - l.length) i = L ∧ FrI A V g t s ws bs u l wr
def rowLen : Value → Int
  | .slice _ n _ => n
  | _ => 0
theorem wrap_in {i s : Int} (h : 1 ≤ i ∧ i ≤ s) (hs : s ≤ 64) : wrap64 (i - 1) = i - 1 := by unfold wrap64; omega
theorem wrap_out {i s : Int} (h0 : -9223372036854775808 ≤ i) (h1 : i ≤ 9223372036854775807) (hs : s ≤ 64) (h : ¬ (1 ≤ i ∧ i ≤ s)) : ¬ (0 ≤ wrap64 (i - 1) ∧ wrap64 (i - 1) ≤ s - 1) := by unfold wrap64; omega

set_option maxHeartbeats 8000000 in
theorem Free_any (hF : HasHead w) (g0 : 0 < A.lo) (g1 : 1 < A.lo) (hM : Mem w A ws bs n) (t0 : 1 ≤ t) (t4 : t ≤ 4) (s0 : 1 ≤ s) (s64 : s ≤ 64) (hW : Wd ws) :
    Calls Tryd.prog 18 #[ifc A, .agg #[.int .i64 t, .int .i64 s]] w fun e w' => ∃ v, e = .returned v ∧ Touch A.lo A.hi w w' ∧ (∃ n, Mem w' A ws bs n) ∧ Ints w' w.heap.size v (freeL t s ws) := by
  have hst := fun W => LStack_ok (t := t) (s := s) t0 W
  have hld := fun (i : Int) (W : World) n (h : Mem W A ws bs n) => Load_any i h
  have hso := fun W => slotsOf_any (t := t) (s := s) (by omega) t4 (by omega) s64 W
  have hhs := fun i W => hasSlot_any (t := t) (s := s) (by omega) t4 (by omega) s64 i W
  have hlk := fun i W => LLink_any (t := t) (s := s) (by omega) t4 (by omega) s64 i W
  have hx := (hW 1).2
  have hld1 := hld 1
  have hFL := Lib.hid (show freeL t s ws = if heB (atI ws 1) then freeF t s ws s.toNat (atI ws 1 % 1048576) else [] from rfl)
  generalize atI ws 1 = x at hx hld1 hFL
  have hns := nil_Load
  have hms := met_Load
  have hs := hM.hs
  unfold ifc
  go_enter Tryd.func18, Tryd.ntmps18
  go_wp2_with fail
  have hM0 := hM.alloc (.cells #[.int .i64 t, .int .i64 s] 31)
  have hF0 := hF.alloc (.cells #[.int .i64 t, .int .i64 s] 31)
  have hb := Lib.hid (((Below.refl w.heap.size w)).alloc (Nat.le_refl _) (.cells #[.int .i64 t, .int .i64 s] 31))
  have hP0 : Fs (w.alloc (.cells #[.int .i64 t, .int .i64 s] 31)) w.heap.size [.int .i64 t, .int .i64 s] := Fs.new' _ _ rfl rfl
  have hz0 : (w.alloc (.cells #[.int .i64 t, .int .i64 s] 31)).heap.size = w.heap.size + 1 := by simp
  generalize w.alloc (.cells #[.int .i64 t, .int .i64 s] 31) = V at *
  have hS0 : FrS A V w.heap.size t s ws bs V := ⟨hP0, hF0, ⟨_, hM0⟩, Touch.refl _ _ _⟩
  have hun := fun W hF' => HdUnpack_any x hx W hF'
  have hld2 : ∀ W, (∃ n, Mem W A ws bs n) → Calls Tryd.prog 35 #[.pointer (some ⟨A.p, 0, none⟩), .int .i64 1] W fun e w' => e = .returned (.int .i64 x) ∧ ∃ m, ∃ z : Turned A.lo A.hi W, w' = z.at' ∧ Mem z.at' A ws bs m := fun W ⟨m, hm⟩ => (hld1 W m hm).mono fun _ _ ⟨he, z, hz, hm⟩ => ⟨he, _, z, hz, hm⟩
  obtain ⟨i9, hi9, hz0', hz1, hz2⟩ := info_parts info_num
  clear hld1 hF0 hP0 hM0
  go_region_held3 (fun w' => w'.cell? ⟨w.heap.size, 0, none⟩ = some (.int .i64 t) ∧ w'.cell? ⟨w.heap.size, 1, none⟩ = some (.int .i64 s) ∧ FrS A V w.heap.size t s ws bs w') (first
    | exact frK hS0
    | exact frK hS0.drew
    | assumption
    | exact frK ((frL ‹_ ∧ _›).later _)
    | exact frK ((frL ‹_ ∧ _›).turned g0 g1 hs _ (by assumption))) (first
    | (go_at_call 37; refine (hst _).mono ?_; rintro _ _ ⟨rfl, y, rfl⟩)
    | (go_at_call 35; refine (hld2 _ (frL ‹_ ∧ _›).mem).mono ?_; rintro _ _ ⟨rfl, m, z, rfl, hmem⟩)
    | (go_at_call 36; refine (hun _ (frL ‹_ ∧ _›).hd).mono ?_; rintro _ _ ⟨rfl, y, rfl⟩))
  all_goals
    rename_i hHeld
    have hS1 := frL hHeld
    clear hHeld
    generalize y.at' = W at hS1 ⊢
    clear hmem hld2 hun hS0 hst y z
    have hc0 : W.cell? ⟨w.heap.size, 0, none⟩ = some (.int .i64 t) := hS1.fs.at' 0 rfl
    have hc1 : W.cell? ⟨w.heap.size, 1, none⟩ = some (.int .i64 s) := hS1.fs.at' 1 rfl
    cases hbx : heB x
    · have E := Lib.hid (show freeL t s ws = [] from hFL.out.trans (if_neg (by rw [hbx]; decide)))
      rw [heE_bad hbx]
      clear hFL
      go_wp2_with fail
      go_ret
      refine ⟨_, rfl, (Touch.of_below hb.out).trans hS1.tch, hS1.mem, ?_⟩
      rw [E.out]
      exact Ints.nil _ _
    · have E := Lib.hid (show freeL t s ws = freeF t s ws s.toNat (x % 1048576) from hFL.out.trans (if_pos hbx))
      rw [heE_ok hbx, heT_ok hbx]
      have hq0 : 0 ≤ x % 1048576 := by omega
      have hq1 : x % 1048576 ≤ 1048575 := by omega
      generalize x % 1048576 = q at E hq0 hq1 ⊢
      clear hFL hbx hx
      go_wp2_with (first
        | (go_at_call 38; (with_reducible refine (hso _).mono ?_); rintro _ _ ⟨rfl, x1, rfl⟩)
        | (go_at_call 39; (with_reducible refine (slotOf_w q _).mono ?_); rintro _ _ ⟨rfl, rfl⟩))
      have hS2 := hS1.later x1
      generalize x1.at' = V1 at hS2 ⊢
      clear hc0 hc1 hS1 x1 hso W
      have hv : A.hi ≤ V1.heap.size := by have := hS2.fs.lt; omega
      have hV := Lib.hid ((Touch.of_below hb.out).trans hS2.tch : Touch A.lo A.hi w V1)
      have hgV : w.heap.size < V1.heap.size := hS2.fs.lt
      have h0V := hS2.hd.lt0
      have h1V := hS2.hd.lt1
      have hS3 : FrS A V1 w.heap.size t s ws bs V1 := ⟨hS2.fs, hS2.hd, hS2.mem, Touch.refl _ _ _⟩
      clear hS2 hb hz0
      go_loopw [8, 10] (fun u v wr => FlRel A V1 w.heap.size t s ws bs (freeL t s ws) u v wr) (fun u _ _ => (s - rowLen u).toNat)
      case atStart => exact ⟨[], q, by omega, by omega, rfl, by simp; omega, by rw [E.out]; rfl, hS3, Ints.nil _ _⟩
      case round =>
        obtain ⟨l, i, i0, i1, rfl, hlen, hL, hR⟩ := hrel
        have HL := Lib.hid hL
        have c0 : wr.cell? ⟨w.heap.size, 0, none⟩ = some (.int .i64 t) := hR.fr.fs.at' 0 rfl
        have c1 : wr.cell? ⟨w.heap.size, 1, none⟩ = some (.int .i64 s) := hR.fr.fs.at' 1 rfl
        have hlt := hR.fr.fs.lt
        have hszr := hR.fr.tch.size
        obtain ⟨p, cap, rfl⟩ := ints_len hR.own
        clear hL E
        by_cases hin : 1 ≤ i ∧ i ≤ s
        · rw [wrap_in hin s64]
          have hc := hhs (i - 1)
          rw [partN_in (by omega), decide_eq_true (by omega)] at hc
          by_cases hls : (l.length : Int) < s
          · have hnx : freeF t s ws (s.toNat - l.length) i = (i - 1) :: freeF t s ws (s.toNat - (l.length + 1)) (atI ws (partN t s (i - 1) 2)) := by
              rw [show s.toNat - l.length = (s.toNat - (l.length + 1)) + 1 from by omega]
              exact freeF_in hin
            have HN := Lib.hid hnx
            have hlki := hlk (i - 1)
            have hwi := hW (partN t s (i - 1) 2)
            have hldi : ∀ W, (∃ n, Mem W A ws bs n) → Calls Tryd.prog 35 #[.pointer (some ⟨A.p, 0, none⟩), .int .i64 (partN t s (i - 1) 2)] W fun e w' => e = .returned (.int .i64 (atI ws (partN t s (i - 1) 2))) ∧ ∃ m, ∃ z : Turned A.lo A.hi W, w' = z.at' ∧ Mem z.at' A ws bs m := fun W ⟨m, hm⟩ => (hld _ W m hm).mono fun _ _ ⟨he, z, hz, hm⟩ => ⟨he, _, z, hz, hm⟩
            generalize atI ws (partN t s (i - 1) 2) = j at hldi hwi HN
            generalize partN t s (i - 1) 2 = pl at hlki hldi
            have hso2 := fun W => slotOf_w j W
            have HWI := Lib.hid hwi
            have HIN := Lib.hid hin
            clear hnx hhs hlk hld hwi i0 i1 hlen hin hq0 hq1
            go_wp2_with (first
              | (go_at_call 40; (with_reducible refine (hc _).mono ?_); rintro _ _ ⟨rfl, y1, rfl⟩; have hR1 := hR.later y1; have hsz1 := y1.below.size)
              | (at_builtin; refine wpList_append_own _ rfl _ _ 48 rfl V1.heap.size 3 i9 (.int .i64 0) 1 8 Tryd.underlying48 hi9 hz0' hz1 hz2 rfl (by decide) _ _ _ rfl (hR1.own.alloc _) ⟨y1.at'.heap.size, 0, none⟩ 1 1 [.int .i64 (i - 1)] rfl rfl (cell_one_new _ _ _) (fun u hu => by simp at hu; subst hu; rfl) (by unfold maxLen; omega) (by omega) (by simp; omega) ?_; intro v' w4 hown' hgrow _; have hR2 := hR1.more g0 g1 hs hgV h0V h1V hgrow hown'; clear hgrow hown'))
            have d0 : w4.cell? ⟨w.heap.size, 0, none⟩ = some (.int .i64 t) := hR2.fr.fs.at' 0 rfl
            have d1 : w4.cell? ⟨w.heap.size, 1, none⟩ = some (.int .i64 s) := hR2.fr.fs.at' 1 rfl
            go_region_held3 (fun w' => w'.cell? ⟨w.heap.size, 0, none⟩ = some (.int .i64 t) ∧ w'.cell? ⟨w.heap.size, 1, none⟩ = some (.int .i64 s) ∧ FrI A V1 w.heap.size t s ws bs v' (l ++ [i - 1]) w') (first
              | exact fiK hR2
              | exact fiK hR2.drew
              | assumption
              | exact fiK ((fiL ‹_ ∧ _›).later _)
              | exact fiK ((fiL ‹_ ∧ _›).turned g0 g1 hs hv _ (by assumption))) (first
              | (go_at_call 41; refine (hlki _).mono ?_; rintro _ _ ⟨rfl, y5, rfl⟩)
              | (go_at_call 35; refine (hldi _ (fiL ‹_ ∧ _›).fr.mem).mono ?_; rintro _ _ ⟨rfl, m5, z5, rfl, hmem5⟩)
              | (go_at_call 39; refine (hso2 _).mono ?_; rintro _ _ ⟨rfl, rfl⟩))
            all_goals
              rename_i hHeld
              have hR3 := fiL hHeld
              clear hHeld
              go_wp2
              obtain ⟨p2, cap2, hv2⟩ := ints_len hR3.own
              refine ⟨⟨l ++ [i - 1], j, HWI.out.1, HWI.out.2, rfl, by simp; omega, ?_, hR3⟩, ?_⟩
              · rw [← HL.out, HN.out, List.length_append, List.length_singleton, List.append_assoc, List.singleton_append]
              · rw [hv2]
                simp only [rowLen, List.length_append, List.length_singleton]
                omega
          · have hL2 : freeL t s ws = l := by rw [← HL.out, show s.toNat - l.length = 0 from by omega]; simp [freeF]
            have HL2 := Lib.hid hL2
            have hdd : decide ((l.length : Int) < s) = false := decide_eq_false hls
            have HIN := Lib.hid hin
            clear hL2 HL hlen hin i0 i1 hq0 hq1 hhs hlk hld hls
            go_wp2_with (first
              | (go_at_call 40; (with_reducible refine (hc _).mono ?_); rintro _ _ ⟨rfl, y1, rfl⟩; have hR1 := hR.later y1))
            go_ret
            refine ⟨_, rfl, hV.out.trans hR1.fr.tch, hR1.fr.mem, ?_⟩
            rw [HL2.out]
            exact hR1.own.low (by omega)
        · have hc := hhs (wrap64 (i - 1))
          rw [partN_no (wrap_out i0 i1 s64 hin), decide_eq_false (by omega)] at hc
          have hL2 : freeL t s ws = l := by rw [← HL.out, freeF_out _ hin]; simp
          have HL2 := Lib.hid hL2
          generalize wrap64 (i - 1) = sl at hc ⊢
          clear hL2 HL hlen hin i0 i1 hq0 hq1 hhs hlk hld
          go_wp2_with (first
            | (go_at_call 40; (with_reducible refine (hc _).mono ?_); rintro _ _ ⟨rfl, y1, rfl⟩; have hR1 := hR.later y1))
          go_ret
          refine ⟨_, rfl, hV.out.trans hR1.fr.tch, hR1.fr.mem, ?_⟩
          rw [HL2.out]
          exact hR1.own.low (by omega)
end
end Go.Proofs.YtlidoicpfomfcaaDoor
