/-
  Start of package layout, at every config, over plain cells and over none.
  Conditions: that the cells lie in memory as a struct, its words and its bytes; that the package's two fields of heads read as they are laid.
-/
import Derived.Test.YtfomephgallpmaaDoorLayStart
namespace Go.Proofs.YtfomephgallpmaaDoor
open Go.RowKit
attribute [local go_sem] Later.cell Later.frozen Later.lt Later.le Turned.cell_lo Turned.cell_hi Turned.frozen_lo Turned.frozen_hi Turned.lt Turned.le
set_option linter.unusedVariables false

theorem Start_mayNot (a s t : Int) (m : Value) (h : mayC a s t = false) (w : World) : Calls Tryd.prog 23 #[m, .agg #[.int .i64 a, .int .i64 s, .int .i64 t]] w (Ret w (.int .i64 1)) := by
  have hc := fun W => Of_bad a s t h W
  clear h
  go_enter Tryd.func23, Tryd.ntmps23
  go_wp2_with (go_at_call 25; refine (hc _).mono ?_; rintro _ _ ⟨rfl, x, rfl⟩)
  go_ret
  exact Ret.mk rfl ((x.boxed).alloc (x.le _ (by simp)) _)

theorem Start_none (a s t : Int) (h : mayC a s t = true) (w : World) : Calls Tryd.prog 23 #[.nilIface, .agg #[.int .i64 a, .int .i64 s, .int .i64 t]] w (Ret w (.int .i64 1)) := by
  have hc := fun W => Of_ok a s t h W
  clear h
  go_enter Tryd.func23, Tryd.ntmps23
  go_wp2_with (go_at_call 25; refine (hc _).mono ?_; rintro _ _ ⟨rfl, x, rfl⟩)
  refine wp_region_later (by kernel_rfl) (by kernel_rfl) ?_
  repeat (go_big_quiet_step (fail))
  refine wpQuiet_nil ?_
  rintro _ ⟨x1, rfl⟩
  go_wp2
  go_ret
  exact Ret.mk rfl (x1.cat ((x.boxed).alloc (x.le _ (by simp)) _) (by have := x.le w.heap.size (by simp); simp; omega))

theorem Start_few (a s t : Int) (A : PAt) (ws bs : List Int) (n : Int) (w : World) (hM : Mem w A ws bs n) (h : mayC a s t = true) (hl : ws.length < wordsN t s) : Calls Tryd.prog 23 #[.iface 25 (.pointer (some ⟨A.p, 0, none⟩)), .agg #[.int .i64 a, .int .i64 s, .int .i64 t]] w (Ret w (.int .i64 1)) := by
  have hc := fun W => Of_ok a s t h W
  obtain ⟨-, h1, h2, h3, h4, h5, h6⟩ := mayC_iff.1 h
  have hw := fun W => LWords_ok (t := t) (s := s) h5 h6 (by omega) h4 W
  have hm1 := met_Words
  have hm2 := met_Bytes
  generalize wordsN t s = N at hl hw
  have hd : decide ((ws.length : Int) < N) = true := by simpa using hl
  clear h
  go_enter Tryd.func23, Tryd.ntmps23
  go_wp2_with (go_at_call 25; refine (hc _).mono ?_; rintro _ _ ⟨rfl, x, rfl⟩)
  have hM1 := ((hM.alloc (.cells #[.int .i64 a, .int .i64 s, .int .i64 t] 23)).later x).alloc (.cells #[.int .i64 t, .int .i64 s] 63)
  refine wp_region_later (by kernel_rfl) (by kernel_rfl) ?_
  repeat (go_big_quiet_step (first
    | (go_at_call 20; exact later_same _ (Words_any (hM1.later _)))
    | (go_at_call 31; exact later_of _ (hw _))))
  refine wpQuiet_nil ?_
  rintro _ ⟨x1, rfl⟩
  go_wp2
  go_ret
  exact Ret.mk rfl (x1.cat ((x.boxed).alloc (x.le _ (by simp)) _) (by have := x.le w.heap.size (by simp); simp; omega))

theorem Start_short (a s t : Int) (A : PAt) (ws bs : List Int) (n : Int) (w : World) (hM : Mem w A ws bs n) (h : mayC a s t = true) (hl : wordsN t s ≤ ws.length) (hb : bs.length < a) : Calls Tryd.prog 23 #[.iface 25 (.pointer (some ⟨A.p, 0, none⟩)), .agg #[.int .i64 a, .int .i64 s, .int .i64 t]] w (Ret w (.int .i64 1)) := by
  have hc := fun W => Of_ok a s t h W
  obtain ⟨-, h1, h2, h3, h4, h5, h6⟩ := mayC_iff.1 h
  have hw := fun W => LWords_ok (t := t) (s := s) h5 h6 (by omega) h4 W
  have hm1 := met_Words
  have hm2 := met_Bytes
  generalize wordsN t s = N at hl hw
  have hd : decide ((ws.length : Int) < N) = false := by simpa using hl
  have hd2 : decide ((bs.length : Int) < a) = true := by simpa using hb
  clear h
  go_enter Tryd.func23, Tryd.ntmps23
  go_wp2_with (go_at_call 25; refine (hc _).mono ?_; rintro _ _ ⟨rfl, x, rfl⟩)
  have hM1 := ((hM.alloc (.cells #[.int .i64 a, .int .i64 s, .int .i64 t] 23)).later x).alloc (.cells #[.int .i64 t, .int .i64 s] 63)
  have hz : w.heap.size < x.at'.heap.size := x.lt _ (by simp)
  have e0 : x.at'.cell? ⟨w.heap.size, 0, none⟩ = some (.int .i64 a) := by rw [x.cell _ _ _ (by simp)]; simp
  refine wp_region_later (by kernel_rfl) (by kernel_rfl) ?_
  repeat (go_big_quiet_step (first
    | (go_at_call 20; exact later_same _ (Words_any (hM1.later _)))
    | (go_at_call 115; exact later_same _ (Bytes_any (hM1.later _)))
    | (go_at_call 31; exact later_of _ (hw _))))
  refine wpQuiet_nil ?_
  rintro _ ⟨x1, rfl⟩
  go_wp2
  go_ret
  exact Ret.mk rfl (x1.cat ((x.boxed).alloc (x.le _ (by simp)) _) (by have := x.le w.heap.size (by simp); simp; omega))

/-- The first k words are 0. -/
def zV (k : Int) (f : Int → Int) (y : Int) : Int := if 0 ≤ y ∧ y < k then 0 else f y
theorem zV_zero (f : Int → Int) (y : Int) : zV 0 f y = f y := if_neg (by omega)
theorem zV_next {k : Int} {f : Int → Int} {y : Int} (h : 0 ≤ k) : zV (k + 1) f y = if y = k then 0 else zV k f y := by
  unfold zV
  by_cases e : y = k
  · rw [if_pos e, if_pos (by omega)]
  · rw [if_neg e]
    by_cases c : 0 ≤ y ∧ y < k
    · rw [if_pos c, if_pos (by omega)]
    · rw [if_neg c, if_neg (by omega)]
/-- All words behind a Start. -/
def stV (t s : Int) (f : Int → Int) : Int → Int := lkV t s (zV (wordsN t s) f)

def StRel (A : PAt) (w : World) (N : Int) (ws bs : List Int) (u : Value) (wr : World) : Prop :=
  ∃ k : Nat, (k : Int) ≤ N ∧ u = .int .i64 k ∧ ∃ x : Turned A.lo A.hi w, wr = x.at' ∧ ∃ ws' n', Mem x.at' A ws' bs n' ∧ ws'.length = ws.length ∧ ∀ y, atI ws' y = zV k (atI ws) y

theorem Start_ok (a s t : Int) (A : PAt) (ws bs : List Int) (n : Int) (w : World) (hF : HasHead w) (g0 : 1 < A.lo) (g1 : 2 < A.lo) (hM : Mem w A ws bs n) (h : mayC a s t = true) (hl : wordsN t s ≤ ws.length) (hb : a ≤ bs.length) :
    Calls Tryd.prog 23 #[.iface 25 (.pointer (some ⟨A.p, 0, none⟩)), .agg #[.int .i64 a, .int .i64 s, .int .i64 t]] w (WRet A w (.int .i64 0) ws.length (stV t s (atI ws)) bs) := by
  have hc := fun W => Of_ok a s t h W
  obtain ⟨-, h1, h2, h3, h4, h5, h6⟩ := mayC_iff.1 h
  have hw := fun W => LWords_ok (t := t) (s := s) h5 h6 (by omega) h4 W
  have hm1 := met_Words
  have hm2 := met_Bytes
  have hm3 := met_Store
  have hn3 := nil_Store
  have hN0 : 0 ≤ wordsN t s := by unfold wordsN; omega
  have hN1 : wordsN t s ≤ 1000 := by unfold wordsN; omega
  have hs := hM.hs
  have hfa := fun ws' n' (W : World) (hF : HasHead W) (hM : Mem W A ws' bs n') (hl : wordsN t s ≤ ws'.length) => freeAll_any t s A ws' bs n' W hF g0 g1 hM h5 h6 h3 h4 hl
  have HSV := Lib.hid (show stV t s (atI ws) = lkV t s (zV (wordsN t s) (atI ws)) from rfl)
  generalize stV t s (atI ws) = G at HSV ⊢
  generalize wordsN t s = N at hl hw hN0 hN1 hfa HSV
  have hd : decide ((ws.length : Int) < N) = false := by simpa using hl
  have hd2 : decide ((bs.length : Int) < a) = false := by simpa using hb
  clear h
  go_enter Tryd.func23, Tryd.ntmps23
  go_wp2_with (go_at_call 25; refine (hc _).mono ?_; rintro _ _ ⟨rfl, x, rfl⟩)
  have hM1 := ((hM.alloc (.cells #[.int .i64 a, .int .i64 s, .int .i64 t] 23)).later x).alloc (.cells #[.int .i64 t, .int .i64 s] 63)
  have hz : w.heap.size < x.at'.heap.size := x.lt _ (by simp)
  have e0 : x.at'.cell? ⟨w.heap.size, 0, none⟩ = some (.int .i64 a) := by rw [x.cell _ _ _ (by simp)]; simp
  refine wp_region_later (by kernel_rfl) (by kernel_rfl) ?_
  repeat (go_big_quiet_step (first
    | (go_at_call 20; exact later_same _ (Words_any (hM1.later _)))
    | (go_at_call 115; exact later_same _ (Bytes_any (hM1.later _)))
    | (go_at_call 31; exact later_of _ (hw _))))
  refine wpQuiet_nil ?_
  rintro _ ⟨x1, rfl⟩
  have hM2 := hM1.later x1
  go_wp2_with (go_at_call 31; refine (later_of _ (hw _)).mono ?_; rintro _ _ ⟨rfl, x2, rfl⟩)
  have hM3 := hM1.later x2
  have hL : x.at'.heap.size < x2.at'.heap.size := x2.lt _ (by simp)
  have hc0 : x2.at'.cell? ⟨x.at'.heap.size, 0, none⟩ = some (.int .i64 t) := by rw [x2.cell _ _ _ (by simp)]; simp
  have hc1 : x2.at'.cell? ⟨x.at'.heap.size, 1, none⟩ = some (.int .i64 s) := by rw [x2.cell _ _ _ (by simp)]; simp
  have hah : A.hi ≤ x.at'.heap.size := by omega
  have hbelow : Below w.heap.size w x2.at' := x2.cat ((x.boxed).alloc (x.le _ (by simp)) _) (by have := x.le w.heap.size (by simp); simp; omega)
  have hF2 : HasHead x2.at' := hF.below hbelow
  have HB := Lib.hid hbelow
  clear hM hM1 hM2 hbelow hF e0 hd hd2 hz hm1 hm2 hc
  go_loopw [34] (fun u wr => StRel A x2.at' N ws bs u wr) (fun u _ => (N - intOf u).toNat)
  case atStart => exact ⟨0, by omega, rfl, Turned.none _ _ _, rfl, ws, n, hM3, rfl, fun y => (zV_zero _ y).symm⟩
  case round =>
    obtain ⟨k, hk, rfl, y, rfl, ws', n', hM', hlen, hat⟩ := hrel
    have HL := Lib.hid hlen
    have HA := Lib.hid hat
    have hd0 : y.at'.cell? ⟨x.at'.heap.size, 0, none⟩ = some (.int .i64 t) := (y.cell_hi _ _ _ hL hah).trans hc0
    have hd1 : y.at'.cell? ⟨x.at'.heap.size, 1, none⟩ = some (.int .i64 s) := (y.cell_hi _ _ _ hL hah).trans hc1
    clear hlen hat hc0 hc1
    by_cases hkN : (k : Int) < N
    · have hin : inI ws' k = true := inI_iff.2 (by rw [HL.out]; omega)
      have hst := Store_any k 0 hM'
      have HI := Lib.hid hin
      clear hin
      go_wp2_with (go_at_call 117; refine hst.mono ?_; rintro _ _ ⟨rfl, z, rfl, hM2⟩)
      go_roundw
      case rel =>
        refine ⟨k + 1, by omega, by go_num, y.on z.turn, rfl, _, _, hM2, by rw [setI_length]; exact HL.out, fun q => ?_⟩
        rw [atI_set _ _ _ _ HI.out, HA.out, Int.natCast_add, Int.natCast_one, zV_next (by omega)]
      case measure => simp [intOf]; omega
    · have ek : (k : Int) = N := by omega
      have EK := Lib.hid ek
      have hF3 : HasHead y.at' := hF2.touch y.turn g0 g1
      have hgo := hfa ws' n' y.at' hF3 hM' (by rw [HL.out]; exact hl)
      clear ek hk
      go_wp2_with (go_at_call 32; refine hgo.mono ?_; rintro _ _ ⟨rfl, z, rfl, ws2, n2, hM4, hlen2, hat2⟩)
      go_ret
      refine ⟨rfl, ⟨z.at', ((Touch.of_below HB.out).trans y.turn).trans z.turn⟩, rfl, ws2, n2, hM4, hlen2.trans HL.out, fun q => ?_⟩
      rw [hat2, HSV.out, show atI ws' = zV N (atI ws) from funext fun y => by rw [HA.out, EK.out]]
end Go.Proofs.YtfomephgallpmaaDoor
