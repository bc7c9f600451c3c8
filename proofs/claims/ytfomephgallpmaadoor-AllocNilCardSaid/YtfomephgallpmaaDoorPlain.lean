/-
  What each method of plain cells answers, what it turns of them, and that it turns nothing else.
  Conditions: that the cells lie in memory as a struct, its words and its bytes.
-/
import Derived.Test.YtfomephgallpmaaDoorProg
import Derived.Test.YtfomephgallpmaaDoorPlainMem
import Derived.WalkSpells
import Derived.WalkLawsBesides
import Derived.Lib.Hide
import Derived.BigQuiet
import Derived.LoopTactic
import Derived.Laws.CopyOwn
import Derived.OwnWalk
namespace Go.Proofs.YtfomephgallpmaaDoor
open Go.RowKit
attribute [local go_sem] Later.cell Later.frozen Later.lt Later.le Turned.cell_lo Turned.cell_hi Turned.frozen_lo Turned.frozen_hi Turned.lt Turned.le
set_option linter.unusedVariables false

theorem cwithin_any (n a b : Int) (w : World) : Calls Tryd.prog 33 #[.int .i64 n, .int .i64 a, .int .i64 b] w fun e w' => e = .returned (.bool (decide (a ≤ n ∧ n ≤ b))) ∧ w = w' := by
  by_cases h0 : a ≤ n
  · by_cases h1 : n ≤ b
    · go_enter Tryd.func33, Tryd.ntmps33
      go_wp2
      go_ret
      exact ⟨by simp [h0, h1], rfl⟩
    · go_enter Tryd.func33, Tryd.ntmps33
      go_wp2
      go_ret
      exact ⟨by simp [h1], rfl⟩
  · go_enter Tryd.func33, Tryd.ntmps33
    go_wp2
    go_ret
    exact ⟨by simp; omega, rfl⟩

section
variable {A : PAt} {ws bs : List Int} {n : Int} {w : World}

theorem stepWord_any (i : Int) (hM : Mem w A ws bs n) : Calls Tryd.prog 27 #[.pointer (some ⟨A.p, 0, none⟩), .int .i64 i] w
    fun e w' => e = .returned (.bool (inI ws i)) ∧ w.setCell ⟨A.p, 2, none⟩ (.int .i64 (up n)) = w' := by
  obtain ⟨p, q, r, lo, hi⟩ := A
  have c0 := hM.setN (wrap64 (n + 1)) |>.c0
  have c2 := hM.c2
  have f2 := hM.fz 2
  have hl := hM.ml
  dsimp only at c0 c2 f2
  clear hM
  go_enter Tryd.func27, Tryd.ntmps27
  go_wp2_with (go_at_call 33; refine (cwithin_any _ _ _ _).mono ?_; rintro _ _ ⟨rfl, rfl⟩)
  go_ret
  exact ⟨by simp [inI, Bool.decide_and], rfl⟩
theorem stepByte_any (i : Int) (hM : Mem w A ws bs n) : Calls Tryd.prog 24 #[.pointer (some ⟨A.p, 0, none⟩), .int .i64 i] w
    fun e w' => e = .returned (.bool (inI bs i)) ∧ w.setCell ⟨A.p, 2, none⟩ (.int .i64 (up n)) = w' := by
  obtain ⟨p, q, r, lo, hi⟩ := A
  have c1 := hM.setN (wrap64 (n + 1)) |>.c1
  have c2 := hM.c2
  have f2 := hM.fz 2
  have hl := hM.bl
  dsimp only at c1 c2 f2
  clear hM
  go_enter Tryd.func24, Tryd.ntmps24
  go_wp2_with (go_at_call 33; refine (cwithin_any _ _ _ _).mono ?_; rintro _ _ ⟨rfl, rfl⟩)
  go_ret
  exact ⟨by simp [inI, Bool.decide_and], rfl⟩

theorem Load_any (i : Int) (hM : Mem w A ws bs n) : Calls Tryd.prog 16 #[.pointer (some ⟨A.p, 0, none⟩), .int .i64 i] w (PRet A w (.int .i64 (atI ws i)) ws bs (up n)) := by
  have hc := stepWord_any i hM
  have h1 := hM.setN (up n)
  have ht := hM.tN (.int .i64 (up n))
  cases k : inI ws i
  · rw [k] at hc
    rw [atI_no k]
    go_enter Tryd.func16, Tryd.ntmps16
    go_wp2_with (go_at_call 27; refine hc.mono ?_; rintro _ _ ⟨rfl, rfl⟩)
    go_ret
    exact PRet.mk rfl ht h1
  · rw [k] at hc
    rw [atI_in k]
    obtain ⟨k0, k1⟩ := inI_iff.1 k
    obtain ⟨j, rfl⟩ := Int.eq_ofNat_of_zero_le k0
    have hj : j < ws.length := by omega
    have hx := h1.wordAt j hj
    have c0 := h1.c0
    rw [Int.toNat_natCast]
    generalize hW : w.setCell ⟨A.p, 2, none⟩ (.int .i64 (up n)) = W at *
    generalize ws.getD j 0 = x at hx ⊢
    clear hW k hM
    go_enter Tryd.func16, Tryd.ntmps16
    go_wp2_with (go_at_call 27; refine hc.mono ?_; rintro _ _ ⟨rfl, rfl⟩)
    go_ret
    exact PRet.mk rfl ht h1
theorem Store_any (i v : Int) (hM : Mem w A ws bs n) : Calls Tryd.prog 117 #[.pointer (some ⟨A.p, 0, none⟩), .int .i64 i, .int .i64 v] w (PRet A w (.tuple #[]) (setI ws i v) bs (up n)) := by
  have hc := stepWord_any i hM
  have h1 := hM.setN (up n)
  have ht := hM.tN (.int .i64 (up n))
  cases k : inI ws i
  · rw [k] at hc
    rw [setI_no k]
    go_enter Tryd.func117, Tryd.ntmps117
    go_wp2_with (go_at_call 27; refine hc.mono ?_; rintro _ _ ⟨rfl, rfl⟩)
    refine bodyPost_ret (results_none rfl _ _ _) rfl ?_
    exact PRet.mk rfl ht h1
  · rw [k] at hc
    rw [setI_in k]
    obtain ⟨k0, k1⟩ := inI_iff.1 k
    obtain ⟨j, rfl⟩ := Int.eq_ofNat_of_zero_le k0
    have hj : j < ws.length := by omega
    have hx := h1.wordAt j hj
    have hf := h1.hw.frozen j
    have c0 := h1.c0
    have h2 := h1.setW j hj v
    have ht2 := ht.trans (h1.tW j (.int .i64 v))
    rw [Int.toNat_natCast]
    generalize hW : w.setCell ⟨A.p, 2, none⟩ (.int .i64 (up n)) = W at *
    generalize ws.getD j 0 = x at hx ⊢
    clear hW k hM
    go_enter Tryd.func117, Tryd.ntmps117
    go_wp2_with (go_at_call 27; refine hc.mono ?_; rintro _ _ ⟨rfl, rfl⟩)
    refine bodyPost_ret (results_none rfl _ _ _) rfl ?_
    exact PRet.mk rfl ht2 h2
theorem Byte_any (i : Int) (hM : Mem w A ws bs n) : Calls Tryd.prog 15 #[.pointer (some ⟨A.p, 0, none⟩), .int .i64 i] w (PRet A w (.int .i64 (atI bs i)) ws bs (up n)) := by
  have hc := stepByte_any i hM
  have h1 := hM.setN (up n)
  have ht := hM.tN (.int .i64 (up n))
  cases k : inI bs i
  · rw [k] at hc
    rw [atI_no k]
    go_enter Tryd.func15, Tryd.ntmps15
    go_wp2_with (go_at_call 24; refine hc.mono ?_; rintro _ _ ⟨rfl, rfl⟩)
    go_ret
    exact PRet.mk rfl ht h1
  · rw [k] at hc
    rw [atI_in k]
    obtain ⟨k0, k1⟩ := inI_iff.1 k
    obtain ⟨j, rfl⟩ := Int.eq_ofNat_of_zero_le k0
    have hj : j < bs.length := by omega
    have hx := h1.byteAt j hj
    have c1 := h1.c1
    obtain ⟨b0, b1⟩ := h1.br j
    rw [Int.toNat_natCast]
    generalize hW : w.setCell ⟨A.p, 2, none⟩ (.int .i64 (up n)) = W at *
    generalize bs.getD j 0 = x at hx b0 b1 ⊢
    clear hW k hM
    go_enter Tryd.func15, Tryd.ntmps15
    go_wp2_with (go_at_call 24; refine hc.mono ?_; rintro _ _ ⟨rfl, rfl⟩)
    go_ret
    exact PRet.mk rfl ht h1
theorem SetByte_any (i v : Int) (hM : Mem w A ws bs n) : Calls Tryd.prog 10 #[.pointer (some ⟨A.p, 0, none⟩), .int .i64 i, .int .i64 v] w (PRet A w (.tuple #[]) ws (setI bs i (v % 256)) (up n)) := by
  have hc := stepByte_any i hM
  have h1 := hM.setN (up n)
  have ht := hM.tN (.int .i64 (up n))
  cases k : inI bs i
  · rw [k] at hc
    rw [setI_no k]
    go_enter Tryd.func10, Tryd.ntmps10
    go_wp2_with (go_at_call 24; refine hc.mono ?_; rintro _ _ ⟨rfl, rfl⟩)
    refine bodyPost_ret (results_none rfl _ _ _) rfl ?_
    exact PRet.mk rfl ht h1
  · rw [k] at hc
    rw [setI_in k]
    obtain ⟨k0, k1⟩ := inI_iff.1 k
    obtain ⟨j, rfl⟩ := Int.eq_ofNat_of_zero_le k0
    have hj : j < bs.length := by omega
    have hx := h1.byteAt j hj
    have hf := h1.hb.frozen j
    have c1 := h1.c1
    have h2 := h1.setB j hj (v % 256) (by omega) (by omega)
    have ht2 := ht.trans (h1.tB j (.int .u8 (v % 256)))
    rw [Int.toNat_natCast]
    generalize hW : w.setCell ⟨A.p, 2, none⟩ (.int .i64 (up n)) = W at *
    generalize bs.getD j 0 = x at hx ⊢
    clear hW k hM
    go_enter Tryd.func10, Tryd.ntmps10
    go_wp2_with (go_at_call 24; refine hc.mono ?_; rintro _ _ ⟨rfl, rfl⟩)
    refine bodyPost_ret (results_none rfl _ _ _) rfl ?_
    exact PRet.mk rfl ht2 h2
theorem Words_any (hM : Mem w A ws bs n) : Calls Tryd.prog 20 #[.pointer (some ⟨A.p, 0, none⟩)] w fun e w' => e = .returned (.int .i64 ws.length) ∧ w = w' := by
  have c0 := hM.c0
  go_enter Tryd.func20, Tryd.ntmps20
  go_wp2
  go_ret
  exact ⟨rfl, rfl⟩
theorem Bytes_any (hM : Mem w A ws bs n) : Calls Tryd.prog 115 #[.pointer (some ⟨A.p, 0, none⟩)] w fun e w' => e = .returned (.int .i64 bs.length) ∧ w = w' := by
  have c1 := hM.c1
  go_enter Tryd.func115, Tryd.ntmps115
  go_wp2
  go_ret
  exact ⟨rfl, rfl⟩
end
theorem Words_nil (w : World) : Calls Tryd.prog 20 #[.pointer none] w fun e w' => e = .returned (.int .i64 0) ∧ w = w' := by
  go_enter Tryd.func20, Tryd.ntmps20
  go_wp2
  go_ret
  exact ⟨rfl, rfl⟩

def cmB (a b : Int) : Bool := decide (1 ≤ a ∧ a ≤ 4096) && decide (0 ≤ b ∧ b ≤ 4096)
theorem cmayBe_any (a b : Int) (w : World) : Calls Tryd.prog 30 #[.int .i64 a, .int .i64 b] w fun e w' => e = .returned (.bool (cmB a b)) ∧ w = w' := by
  unfold cmB
  have h1 := cwithin_any a 1 4096
  have h2 := cwithin_any b 0 4096
  generalize decide (1 ≤ a ∧ a ≤ 4096) = u at h1 ⊢
  generalize decide (0 ≤ b ∧ b ≤ 4096) = v at h2 ⊢
  cases u
  all_goals
    go_enter Tryd.func30, Tryd.ntmps30
    go_wp2_with (first
      | (go_at_call 33; (with_reducible refine (h1 _).mono ?_); rintro _ _ ⟨rfl, rfl⟩)
      | (go_at_call 33; (with_reducible refine (h2 _).mono ?_); rintro _ _ ⟨rfl, rfl⟩))
    go_ret
    exact ⟨by simp, rfl⟩

theorem info_int : (Tryd.prog.info? 3).map (fun i => (i.zero, i.size, i.bytes)) = some (some (.int .i64 0), 1, 8) := by kernel_rfl
theorem info_u8 : (Tryd.prog.info? 5).map (fun i => (i.zero, i.size, i.bytes)) = some (some (.int .u8 0), 1, 1) := by kernel_rfl

theorem New_bad (a b : Int) (h : cmB a b = false) (w : World) : Calls Tryd.prog 21 #[.int .i64 a, .int .i64 b] w fun e w' => e = .returned (.pointer none) ∧ w = w' := by
  have hc := cmayBe_any a b
  rw [h] at hc
  clear h
  go_enter Tryd.func21, Tryd.ntmps21
  go_wp2_with (go_at_call 30; refine (hc _).mono ?_; rintro _ _ ⟨rfl, rfl⟩)
  go_ret
  exact ⟨rfl, rfl⟩

theorem New_ok (a b : Nat) (ha : 1 ≤ a) (ha' : a ≤ 4096) (hb : b ≤ 4096) (w : World) : Calls Tryd.prog 21 #[.int .i64 a, .int .i64 b] w (Made w (List.replicate a 0) (List.replicate b 0) 0) := by
  have hc := cmayBe_any a b
  have h : cmB a b = true := by unfold cmB; simp; omega
  rw [h] at hc
  have hm1 := run_make_row' (P := Tryd.prog) 24 3 (.int .i64 0) 8 Tryd.underlying24 info_int rfl .i64 .i64 a (by omega) (by omega)
  have hm2 := run_make_row' (P := Tryd.prog) 59 5 (.int .u8 0) 1 Tryd.underlying59 info_u8 rfl .i64 .i64 b (by omega) (by omega)
  clear h
  go_enter Tryd.func21, Tryd.ntmps21
  go_wp2_with (go_at_call 30; refine (hc _).mono ?_; rintro _ _ ⟨rfl, rfl⟩)
  go_region
  all_goals (try go_wp2)
  all_goals go_ret
  · exact Made.mk1 w a b ha' hb _
  · exact Made.mk2 w a b ha' hb _
end Go.Proofs.YtfomephgallpmaaDoor
