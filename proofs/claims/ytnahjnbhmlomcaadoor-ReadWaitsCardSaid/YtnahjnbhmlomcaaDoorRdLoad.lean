/-
  What a read's load of its slot's entry tells.
  Conditions: none but that the machine and plain cells lie there, and the table of fields reads as it is laid.
-/
import Derived.Test.YtnahjnbhmlomcaaDoorRdBase
import Derived.Test.YtnahjnbhmlomcaaDoorRdMath
import Derived.Deep.RegionHeld3
import Derived.Deep.CutRange
import Derived.Test.YtnahjnbhmlomcaaDoorHeldLast
namespace Go.Proofs.YtnahjnbhmlomcaaDoor
open Go.RowKit
attribute [local go_sem] Later.cell Later.frozen Later.lt Later.le Turned.cell_lo Turned.cell_hi Turned.frozen_lo Turned.frozen_hi Turned.lt Turned.le
set_option linter.unusedVariables false
set_option linter.unusedSimpArgs false

section
variable {A : PAt} {ws bs : List Int} {n : Int} {w : World} {k : Nat} {t s : Int} {M : Rm}
theorem rdS6 {W : World} {L Z : List Value} {b : Nat} {v0 v1 v2 v3 v4 v5 : Value} (h : RL w A k L Z ws bs W) (hb : w.heap.size < b) : RL w A k L Z ws bs ((((((W.setCell ⟨b, 0, none⟩ v0).setCell ⟨b, 1, none⟩ v1).setCell ⟨b, 2, none⟩ v2).setCell ⟨b, 3, none⟩ v3).setCell ⟨b, 4, none⟩ v4).setCell ⟨b, 5, none⟩ v5) :=
  (((((h.setNew _ _ hb).setNew _ _ hb).setNew _ _ hb).setNew _ _ hb).setNew _ _ hb).setNew _ _ hb
theorem rdE6 {W : World} {L Z : List Value} {v0 v1 v2 v3 v4 v5 : Value} (h : RL w A k L Z ws bs W) :
    Moved (spanS A k) w ((((((W.setCell ⟨w.heap.size, 0, none⟩ v0).setCell ⟨w.heap.size, 1, none⟩ v1).setCell ⟨w.heap.size, 2, none⟩ v2).setCell ⟨w.heap.size, 3, none⟩ v3).setCell ⟨w.heap.size, 4, none⟩ v4).setCell ⟨w.heap.size, 5, none⟩ v5) ∧
    (∃ n, Mem ((((((W.setCell ⟨w.heap.size, 0, none⟩ v0).setCell ⟨w.heap.size, 1, none⟩ v1).setCell ⟨w.heap.size, 2, none⟩ v2).setCell ⟨w.heap.size, 3, none⟩ v3).setCell ⟨w.heap.size, 4, none⟩ v4).setCell ⟨w.heap.size, 5, none⟩ v5) A ws bs n) ∧
    Fs ((((((W.setCell ⟨w.heap.size, 0, none⟩ v0).setCell ⟨w.heap.size, 1, none⟩ v1).setCell ⟨w.heap.size, 2, none⟩ v2).setCell ⟨w.heap.size, 3, none⟩ v3).setCell ⟨w.heap.size, 4, none⟩ v4).setCell ⟨w.heap.size, 5, none⟩ v5) k L := by
  have hne : w.heap.size ≠ k := by have := h.kw; omega
  have ho : w.heap.size < A.lo ∨ A.hi ≤ w.heap.size := Or.inr h.ah
  obtain ⟨n, hm⟩ := h.mem
  exact ⟨(((((h.mv.setNew _ _ (Nat.le_refl _)).setNew _ _ (Nat.le_refl _)).setNew _ _ (Nat.le_refl _)).setNew _ _ (Nat.le_refl _)).setNew _ _ (Nat.le_refl _)).setNew _ _ (Nat.le_refl _),
    ⟨n, (((((hm.setOther _ _ ho).setOther _ _ ho).setOther _ _ ho).setOther _ _ ho).setOther _ _ ho).setOther _ _ ho⟩,
    (((((h.fs.other _ _ hne).other _ _ hne).other _ _ hne).other _ _ hne).other _ _ hne).other _ _ hne⟩
theorem rdK3 {W : World} {Z : List Value} (h : RL w A k (rmL t s M) Z ws bs W) : W.cell? ⟨k, 0, none⟩ = some (.int .i64 t) ∧ W.cell? ⟨k, 1, none⟩ = some (.int .i64 s) ∧ W.cell? ⟨k, 3, none⟩ = some (.int .i64 M.slot) ∧ RL w A k (rmL t s M) Z ws bs W := ⟨h.fs.at' 0 rfl, h.fs.at' 1 rfl, h.fs.at' 3 rfl, h⟩
theorem rdL3 {W : World} {L Z : List Value} {a b c : Prop} (h : a ∧ b ∧ c ∧ RL w A k L Z ws bs W) : RL w A k L Z ws bs W := h.2.2.2

/-- What the answer's region reads. -/
def RdS (b k : Nat) (o g p q : Int) (lk lv : Bool) (gen : Int) (V : World) : Prop :=
  V.cell? ⟨b, 0, none⟩ = some (.int .i64 o) ∧ V.cell? ⟨b, 1, none⟩ = some (.int .i64 g) ∧ V.cell? ⟨b, 2, none⟩ = some (.int .i64 p) ∧ V.cell? ⟨b, 3, none⟩ = some (.int .i64 q) ∧ V.cell? ⟨b, 4, none⟩ = some (.bool lk) ∧ V.cell? ⟨b, 5, none⟩ = some (.bool lv) ∧ V.cell? ⟨k, 4, none⟩ = some (.int .i64 gen)
theorem rdS_of {V : World} {b k : Nat} {o g p q gen : Int} {lk lv : Bool} (h : Fs V b [.int .i64 o, .int .i64 g, .int .i64 p, .int .i64 q, .bool lk, .bool lv]) (hk : V.cell? ⟨k, 4, none⟩ = some (.int .i64 gen)) : RdS b k o g p q lk lv gen V :=
  ⟨h.at' 0 rfl, h.at' 1 rfl, h.at' 2 rfl, h.at' 3 rfl, h.at' 4 rfl, h.at' 5 rfl, hk⟩
/-- Behind the entry's unpacking: where it lies, and the error. -/
def LdCut (w : World) (A : PAt) (k : Nat) (L Z : List Value) (ws bs : List Int) (er : Int) (V : List Value) (v6 v7 : Value) (wx : World) : Prop :=
  ∃ b6, v6 = .pointer (some ⟨b6, 0, none⟩) ∧ v7 = .int .i64 er ∧ w.heap.size < b6 ∧ RL w A k L Z ws bs wx ∧ Fs wx b6 V
set_option maxHeartbeats 8000000 in
set_option maxRecDepth 8000 in
theorem rload_any (x : Int) (hxe : atI ws (partN t s M.slot 0) = x) (hS : ESeat w A k t s) (hM : Mem w A ws bs n) (hP : Fs w k (rmL t s M)) :
    Calls Tryd.prog 45 #[.pointer (some ⟨k, 0, none⟩), ifc A] w (SRet A k w (.tuple #[(upV x).val, .bool (ownB x M.gen)]) (rmL t s M) ws bs) := by
  have hen := fun W => LEntry_any (t := t) (s := s) (by have := hS.t0; omega) hS.t4 (by have := hS.s0; omega) hS.s64 M.slot W
  have hld := fun (n : Int) (W : World) (h : Mem W A ws bs n) => Load_any (partN t s M.slot 0) h
  rw [hxe] at hld
  clear hxe
  generalize partN t s M.slot 0 = pl at hen hld
  have hun := fun W => Unpack_any x W
  have hob : ownB x M.gen = ((upE x == 0) && ((upV x).lv && ((upV x).g == M.gen))) := rfl
  rw [hob]
  clear hob
  generalize upE x = er at hun ⊢
  generalize upV x = E at hun ⊢
  obtain ⟨o, g, p, q, lk, lv⟩ := E
  unfold En.val at hun ⊢
  simp only at hun ⊢
  have hk := hS.hk
  have hns := nil_Load
  have hms := met_Load
  have hR := RL.begin hS hM hP #[.int .i64 0, .int .i64 0, .int .i64 0, .int .i64 0, .bool false, .bool false] 79
  have hRd := hR.drew
  have hNd : ∀ T, Fs ((w.alloc (.cells #[.int .i64 0, .int .i64 0, .int .i64 0, .int .i64 0, .bool false, .bool false] 79)).drew.alloc (.cells #[.int .i64 0, .int .i64 0, .int .i64 0, .int .i64 0, .bool false, .bool false] T)) (w.heap.size + 1) [.int .i64 0, .int .i64 0, .int .i64 0, .int .i64 0, .bool false, .bool false] := fun T => Fs.new' _ _ (by simp) rfl
  have hNe : ∀ T, Fs ((w.alloc (.cells #[.int .i64 0, .int .i64 0, .int .i64 0, .int .i64 0, .bool false, .bool false] 79)).alloc (.cells #[.int .i64 0, .int .i64 0, .int .i64 0, .int .i64 0, .bool false, .bool false] T)) (w.heap.size + 1) [.int .i64 0, .int .i64 0, .int .i64 0, .int .i64 0, .bool false, .bool false] := fun T => Fs.new' _ _ (by simp) rfl
  clear hM hP hS
  unfold ifc
  go_enter Tryd.func45, Tryd.ntmps45
  go_wp2_with fail
  go_cut [6, 7] from 6 to 41 (fun v6 v7 wx => LdCut w A k (rmL t s M) [.int .i64 0, .int .i64 0, .int .i64 0, .int .i64 0, .bool false, .bool false] ws bs er [.int .i64 o, .int .i64 g, .int .i64 p, .int .i64 q, .bool lk, .bool lv] v6 v7 wx)
  case first =>
    go_region_held3 (fun w' => w'.cell? ⟨k, 0, none⟩ = some (.int .i64 t) ∧ w'.cell? ⟨k, 1, none⟩ = some (.int .i64 s) ∧ w'.cell? ⟨k, 3, none⟩ = some (.int .i64 M.slot) ∧ RL w A k (rmL t s M) [.int .i64 0, .int .i64 0, .int .i64 0, .int .i64 0, .bool false, .bool false] ws bs w') (first
      | with_reducible exact rdK3 hR
      | with_reducible exact rdK3 hRd
      | with_reducible exact rdK3 (hR3.alloc _)
      | with_reducible exact rdK3 (rdS6 hR3 hb6)
      | with_reducible assumption
      | with_reducible exact rdK3 ((rdL3 ‹_ ∧ _›).alloc _)
      | with_reducible exact rdK3 hR3
      | with_reducible exact rdK3 hR2
      | with_reducible exact rdK3 hR1) (first
      | (go_at_call 54; refine (hen _).mono ?_; rintro _ _ ⟨rfl, y, rfl⟩; (first | (with_reducible have hR1 := hRd.later y) | (with_reducible have hR1 := (hRd.alloc _).later y) | (with_reducible have hR1 := (hR.alloc _).drew.later y)); (first | (with_reducible have hQ1 := (hNd _).later y; have hb6 : w.heap.size < w.heap.size + 1 := Nat.lt_succ_self _) | (with_reducible have hQ1 := (hNe _).drew.later y; have hb6 : w.heap.size < w.heap.size + 1 := Nat.lt_succ_self _) | skip))
      | (go_at_call 88; (first | obtain ⟨m1, hm1⟩ := hR1.mem | skip); (first | (with_reducible refine (hld _ _ hm1).mono ?_) | (with_reducible refine (hld _ _ (hm1.alloc _)).mono ?_)); rintro _ _ ⟨rfl, z, rfl, hM1⟩; (first | (with_reducible have hR2 := hR1.touch z.turn hM1) | (with_reducible have hR2 := (hR1.alloc _).touch z.turn hM1)); (first | (with_reducible have hQ2 := hQ1.touch z.turn (Or.inr (Nat.le_trans hR.ah (Nat.le_of_lt hb6)))) | (with_reducible have hQ2 := (Fs.new _ _ _).touch z.turn (Or.inr (Nat.le_trans hR.ah (Nat.le_of_lt hR1.f4.lt))); have hb6 := hR1.f4.lt) | skip))
      | (go_at_call 53; (first | (with_reducible refine (hun _ hR2.hE).mono ?_) | (with_reducible refine (hun _ (hR2.alloc _).hE).mono ?_)); rintro _ _ ⟨rfl, u, rfl⟩; (first | (with_reducible have hR3 := hR2.later u) | (with_reducible have hR3 := (hR2.alloc _).later u)); (first | (with_reducible have hQ3 := hQ2.later u) | (with_reducible have hQ3 := (Fs.new _ _ _).later u; have hb6 := hR2.f4.lt) | skip); (first | (have q0 := hQ3.fz 0; have q1 := hQ3.fz 1; have q2 := hQ3.fz 2; have q3 := hQ3.fz 3; have q4 := hQ3.fz 4; have q5 := hQ3.fz 5; have p0 := hQ3.at' 0 rfl; have p1 := hQ3.at' 1 rfl; have p2 := hQ3.at' 2 rfl; have p3 := hQ3.at' 3 rfl; have p4 := hQ3.at' 4 rfl; have p5 := hQ3.at' 5 rfl) | skip)))
    all_goals (first
      | have hQ4 := (((((hQ3.set 0 (by simp) (.int .i64 o)).set 1 (by simp) (.int .i64 g)).set 2 (by simp) (.int .i64 p)).set 3 (by simp) (.int .i64 q)).set 4 (by simp) (.bool lk)).set 5 (by simp) (.bool lv)
      | (have hQ4 : Fs (u.at'.alloc (.cells #[.int .i64 o, .int .i64 g, .int .i64 p, .int .i64 q, .bool lk, .bool lv] 79)) u.at'.heap.size [.int .i64 o, .int .i64 g, .int .i64 p, .int .i64 q, .bool lk, .bool lv] := Fs.new' _ _ rfl rfl; have hb6 := hR3.f4.lt))
    all_goals (rename_i hHeld; have hR4 := rdL3 hHeld; clear hHeld)
    all_goals go_wp2_with fail
    all_goals go_meet
    all_goals exact ⟨_, rfl, rfl, hb6, hR4, hQ4⟩
  case rest =>
    obtain ⟨b6, rfl, rfl, hb6, hR6, hF6⟩ := hcut
    clear hR hRd hNd hNe hen hld hun hms hns
    have hR7 := hR6.drew
    have hF7 := hF6.drew
    have hS0 := rdS_of hF7 (hR7.fs.at' 4 rfl)
    clear hR6 hF6
    go_wp2_with fail
    by_cases e1 : er = 0
    · subst e1
      cases lv
      · refine wp_region_T (n := 17) (S := RdS b6 k o g p q lk false M.gen) (by kernel_rfl) ⟨by kernel_rfl, by kernel_rfl, by kernel_rfl, rfl⟩ ?_
        intro hL inv
        refine wpAnyT_take 0 (v := .agg #[.int .i64 o, .int .i64 g, .int .i64 p, .int .i64 q, .bool lk, .bool false]) hL inv rfl (by decide) (by kernel_rfl) (by kernel_rfl) (fun _ _ _ h => h) (.inl ⟨by kernel_rfl, fun V hS => ?_⟩) hS0 ?_
        · obtain ⟨g0, g1, g2, g3, g4, g5, g6⟩ := hS
          go_simp
        clear inv
        intro inv
        refine wpAnyT_take 1 (v := .int .i64 0) hL inv rfl (by decide) (by kernel_rfl) (by kernel_rfl) (fun _ _ _ h => h) (.inl ⟨by kernel_rfl, fun V hS => ?_⟩) hS0 ?_
        · obtain ⟨g0, g1, g2, g3, g4, g5, g6⟩ := hS
          go_simp
        clear inv
        intro inv
        refine wpAnyT_take 2 (v := .bool true) hL inv rfl (by decide) (by kernel_rfl) (by kernel_rfl) (fun _ _ _ h => h) (.inl ⟨by kernel_rfl, fun V hS => ?_⟩) hS0 ?_
        · obtain ⟨g0, g1, g2, g3, g4, g5, g6⟩ := hS
          go_simp
        clear inv
        intro inv
        refine wpAnyT_take 3 (v := .bool true) hL inv rfl (by decide) (by kernel_rfl) (by kernel_rfl) (fun _ _ _ h => h) (.inl ⟨by kernel_rfl, fun V hS => ?_⟩) hS0 ?_
        · obtain ⟨g0, g1, g2, g3, g4, g5, g6⟩ := hS
          go_simp
        clear inv
        intro inv
        refine wpAnyT_take 4 (v := .pointer (some ⟨b6, 5, none⟩)) hL inv rfl (by decide) (by kernel_rfl) (by kernel_rfl) (fun _ _ _ h => h) (.inl ⟨by kernel_rfl, fun V hS => ?_⟩) hS0 ?_
        · obtain ⟨g0, g1, g2, g3, g4, g5, g6⟩ := hS
          go_simp
        clear inv
        intro inv
        refine wpAnyT_take 5 (v := .bool false) hL inv rfl (by decide) (by kernel_rfl) (by kernel_rfl) (fun _ _ _ h => h) (.inl ⟨by kernel_rfl, fun V hS => ?_⟩) hS0 ?_
        · obtain ⟨g0, g1, g2, g3, g4, g5, g6⟩ := hS
          go_simp
        clear inv
        intro inv
        refine wpAnyT_take 6 (v := .bool false) hL inv rfl (by decide) (by kernel_rfl) (by kernel_rfl) (fun _ _ _ h => h) (.inl ⟨by kernel_rfl, fun V hS => ?_⟩) hS0 ?_
        · obtain ⟨g0, g1, g2, g3, g4, g5, g6⟩ := hS
          go_simp
        clear inv
        intro inv
        refine wpAnyT_take 7 (v := .bool false) hL inv rfl (by decide) (by kernel_rfl) (by kernel_rfl) (fun _ _ _ h => h) (.inl ⟨by kernel_rfl, fun V hS => ?_⟩) hS0 ?_
        · obtain ⟨g0, g1, g2, g3, g4, g5, g6⟩ := hS
          go_simp
        clear inv
        intro inv
        refine wpAnyT_take 8 (v := undef) hL inv rfl (by decide) (by kernel_rfl) (by kernel_rfl) (fun _ _ _ h => h) (.inr ⟨by kernel_rfl, rfl⟩) hS0 ?_
        clear inv
        intro inv
        refine wpAnyT_take 9 (v := undef) hL inv rfl (by decide) (by kernel_rfl) (by kernel_rfl) (fun _ _ _ h => h) (.inr ⟨by kernel_rfl, rfl⟩) hS0 ?_
        clear inv
        intro inv
        refine wpAnyT_take 10 (v := undef) hL inv rfl (by decide) (by kernel_rfl) (by kernel_rfl) (fun _ _ _ h => h) (.inr ⟨by kernel_rfl, rfl⟩) hS0 ?_
        clear inv
        intro inv
        refine wpAnyT_take 11 (v := undef) hL inv rfl (by decide) (by kernel_rfl) (by kernel_rfl) (fun _ _ _ h => h) (.inr ⟨by kernel_rfl, rfl⟩) hS0 ?_
        clear inv
        intro inv
        refine wpAnyT_take 12 (v := undef) hL inv rfl (by decide) (by kernel_rfl) (by kernel_rfl) (fun _ _ _ h => h) (.inr ⟨by kernel_rfl, rfl⟩) hS0 ?_
        clear inv
        intro inv
        refine wpAnyT_take 13 (v := undef) hL inv rfl (by decide) (by kernel_rfl) (by kernel_rfl) (fun _ _ _ h => h) (.inr ⟨by kernel_rfl, rfl⟩) hS0 ?_
        clear inv
        intro inv
        refine wpAnyT_take 14 (v := undef) hL inv rfl (by decide) (by kernel_rfl) (by kernel_rfl) (fun _ _ _ h => h) (.inr ⟨by kernel_rfl, rfl⟩) hS0 ?_
        clear inv
        intro inv
        refine wpAnyT_take 15 (v := .bool false) hL inv rfl (by decide) (by kernel_rfl) (by kernel_rfl) (fun _ _ _ h => h) (.inl ⟨by kernel_rfl, fun V hS => ?_⟩) hS0 ?_
        · obtain ⟨g0, g1, g2, g3, g4, g5, g6⟩ := hS
          go_simp
        clear inv
        intro inv
        generalize wc.drew = W2 at hR7 hF7 hS0 ⊢
        have z0 := hR7.f4.at' 0 rfl
        have z1 := hR7.f4.at' 1 rfl
        have z2 := hR7.f4.at' 2 rfl
        have z3 := hR7.f4.at' 3 rfl
        have z4 := hR7.f4.at' 4 rfl
        have z5 := hR7.f4.at' 5 rfl
        have y0 := hR7.f4.fz 0
        have y1 := hR7.f4.fz 1
        have y2 := hR7.f4.fz 2
        have y3 := hR7.f4.fz 3
        have y4 := hR7.f4.fz 4
        have y5 := hR7.f4.fz 5
        refine wpAnyT_one 16 rfl (by kernel_rfl) ?_
        go_wp2_with fail
        clear z0 z1 z2 z3 z4 z5 y0 y1 y2 y3 y4 y5
        have hF8 := (((((hR7.f4.set 0 (by simp) (.int .i64 o)).set 1 (by simp) (.int .i64 g)).set 2 (by simp) (.int .i64 p)).set 3 (by simp) (.int .i64 q)).set 4 (by simp) (.bool lk)).set 5 (by simp) (.bool false)
        have hR8 := rdE6 (v0 := .int .i64 o) (v1 := .int .i64 g) (v2 := .int .i64 p) (v3 := .int .i64 q) (v4 := .bool lk) (v5 := .bool false) hR7
        have hS8 : RdS b6 k o g p q lk false M.gen ((((((W2.setCell ⟨w.heap.size, 0, none⟩ (.int .i64 o)).setCell ⟨w.heap.size, 1, none⟩ (.int .i64 g)).setCell ⟨w.heap.size, 2, none⟩ (.int .i64 p)).setCell ⟨w.heap.size, 3, none⟩ (.int .i64 q)).setCell ⟨w.heap.size, 4, none⟩ (.bool lk)).setCell ⟨w.heap.size, 5, none⟩ (.bool false)) := rdS_of ((((((hF7.other _ _ (by simp; omega)).other _ _ (by simp; omega)).other _ _ (by simp; omega)).other _ _ (by simp; omega)).other _ _ (by simp; omega)).other _ _ (by simp; omega)) (hR8.2.2.at' 4 rfl)
        first | refine ⟨.inr hS8, ?_⟩ | refine ⟨hS8, ?_⟩
        generalize (((((W2.setCell ⟨w.heap.size, 0, none⟩ (.int .i64 o)).setCell ⟨w.heap.size, 1, none⟩ (.int .i64 g)).setCell ⟨w.heap.size, 2, none⟩ (.int .i64 p)).setCell ⟨w.heap.size, 3, none⟩ (.int .i64 q)).setCell ⟨w.heap.size, 4, none⟩ (.bool lk)).setCell ⟨w.heap.size, 5, none⟩ (.bool false) = W3 at hF8 hR8 hS8 ⊢
        refine wpAnyT_one 17 rfl (by kernel_rfl) ?_
        go_wp2_with fail
        refine (show wpAnyT Tryd.prog Region.Mode.any _ _ (RdS b6 k o g p q lk false M.gen) 17 0 _ _ _ from wpAnyT_done (by kernel_rfl) ?_)
        clear hS0 hS8 hL inv hR7 hF7
        go_wp2
        have h0 : W3.cell? ⟨w.heap.size, 0, none⟩ = some (.int .i64 o) := hF8.at' 0 rfl
        have h1 : W3.cell? ⟨w.heap.size, 1, none⟩ = some (.int .i64 g) := hF8.at' 1 rfl
        have h2 : W3.cell? ⟨w.heap.size, 2, none⟩ = some (.int .i64 p) := hF8.at' 2 rfl
        have h3 : W3.cell? ⟨w.heap.size, 3, none⟩ = some (.int .i64 q) := hF8.at' 3 rfl
        have h4 : W3.cell? ⟨w.heap.size, 4, none⟩ = some (.bool lk) := hF8.at' 4 rfl
        have h5 : W3.cell? ⟨w.heap.size, 5, none⟩ = some (.bool false) := hF8.at' 5 rfl
        refine bodyPost_ret (v := .tuple #[.agg #[.int .i64 o, .int .i64 g, .int .i64 p, .int .i64 q, .bool lk, .bool false], .bool false]) (by simp [results, Tryd.results45, go_sem, h0, h1, h2, h3, h4, h5]) rfl ?_
        exact ⟨by rfl, hR8.1, hR8.2.1, hR8.2.2⟩
      · refine wp_region_T (n := 17) (S := RdS b6 k o g p q lk true M.gen) (by kernel_rfl) ⟨by kernel_rfl, by kernel_rfl, by kernel_rfl, rfl⟩ ?_
        intro hL inv
        refine wpAnyT_take 0 (v := .agg #[.int .i64 o, .int .i64 g, .int .i64 p, .int .i64 q, .bool lk, .bool true]) hL inv rfl (by decide) (by kernel_rfl) (by kernel_rfl) (fun _ _ _ h => h) (.inl ⟨by kernel_rfl, fun V hS => ?_⟩) hS0 ?_
        · obtain ⟨g0, g1, g2, g3, g4, g5, g6⟩ := hS
          go_simp
        clear inv
        intro inv
        refine wpAnyT_take 1 (v := .int .i64 0) hL inv rfl (by decide) (by kernel_rfl) (by kernel_rfl) (fun _ _ _ h => h) (.inl ⟨by kernel_rfl, fun V hS => ?_⟩) hS0 ?_
        · obtain ⟨g0, g1, g2, g3, g4, g5, g6⟩ := hS
          go_simp
        clear inv
        intro inv
        refine wpAnyT_take 2 (v := .bool true) hL inv rfl (by decide) (by kernel_rfl) (by kernel_rfl) (fun _ _ _ h => h) (.inl ⟨by kernel_rfl, fun V hS => ?_⟩) hS0 ?_
        · obtain ⟨g0, g1, g2, g3, g4, g5, g6⟩ := hS
          go_simp
        clear inv
        intro inv
        refine wpAnyT_take 3 (v := .bool true) hL inv rfl (by decide) (by kernel_rfl) (by kernel_rfl) (fun _ _ _ h => h) (.inl ⟨by kernel_rfl, fun V hS => ?_⟩) hS0 ?_
        · obtain ⟨g0, g1, g2, g3, g4, g5, g6⟩ := hS
          go_simp
        clear inv
        intro inv
        refine wpAnyT_take 4 (v := .pointer (some ⟨b6, 5, none⟩)) hL inv rfl (by decide) (by kernel_rfl) (by kernel_rfl) (fun _ _ _ h => h) (.inl ⟨by kernel_rfl, fun V hS => ?_⟩) hS0 ?_
        · obtain ⟨g0, g1, g2, g3, g4, g5, g6⟩ := hS
          go_simp
        clear inv
        intro inv
        refine wpAnyT_take 5 (v := .bool true) hL inv rfl (by decide) (by kernel_rfl) (by kernel_rfl) (fun _ _ _ h => h) (.inl ⟨by kernel_rfl, fun V hS => ?_⟩) hS0 ?_
        · obtain ⟨g0, g1, g2, g3, g4, g5, g6⟩ := hS
          go_simp
        clear inv
        intro inv
        refine wpAnyT_take 6 (v := .bool true) hL inv rfl (by decide) (by kernel_rfl) (by kernel_rfl) (fun _ _ _ h => h) (.inl ⟨by kernel_rfl, fun V hS => ?_⟩) hS0 ?_
        · obtain ⟨g0, g1, g2, g3, g4, g5, g6⟩ := hS
          go_simp
        clear inv
        intro inv
        refine wpAnyT_take 7 (v := .bool true) hL inv rfl (by decide) (by kernel_rfl) (by kernel_rfl) (fun _ _ _ h => h) (.inl ⟨by kernel_rfl, fun V hS => ?_⟩) hS0 ?_
        · obtain ⟨g0, g1, g2, g3, g4, g5, g6⟩ := hS
          go_simp
        clear inv
        intro inv
        refine wpAnyT_take 8 (v := .pointer (some ⟨b6, 1, none⟩)) hL inv rfl (by decide) (by kernel_rfl) (by kernel_rfl) (fun _ _ _ h => h) (.inl ⟨by kernel_rfl, fun V hS => ?_⟩) hS0 ?_
        · obtain ⟨g0, g1, g2, g3, g4, g5, g6⟩ := hS
          go_simp
        clear inv
        intro inv
        refine wpAnyT_take 9 (v := .int .i64 g) hL inv rfl (by decide) (by kernel_rfl) (by kernel_rfl) (fun _ _ _ h => h) (.inl ⟨by kernel_rfl, fun V hS => ?_⟩) hS0 ?_
        · obtain ⟨g0, g1, g2, g3, g4, g5, g6⟩ := hS
          go_simp
        clear inv
        intro inv
        refine wpAnyT_take 10 (v := .pointer (some ⟨k, 0, none⟩)) hL inv rfl (by decide) (by kernel_rfl) (by kernel_rfl) (fun _ _ _ h => h) (.inl ⟨by kernel_rfl, fun V hS => ?_⟩) hS0 ?_
        · obtain ⟨g0, g1, g2, g3, g4, g5, g6⟩ := hS
          go_simp
        clear inv
        intro inv
        refine wpAnyT_take 11 (v := .pointer (some ⟨k, 0, none⟩)) hL inv rfl (by decide) (by kernel_rfl) (by kernel_rfl) (fun _ _ _ h => h) (.inl ⟨by kernel_rfl, fun V hS => ?_⟩) hS0 ?_
        · obtain ⟨g0, g1, g2, g3, g4, g5, g6⟩ := hS
          go_simp
        clear inv
        intro inv
        refine wpAnyT_take 12 (v := .pointer (some ⟨k, 4, none⟩)) hL inv rfl (by decide) (by kernel_rfl) (by kernel_rfl) (fun _ _ _ h => h) (.inl ⟨by kernel_rfl, fun V hS => ?_⟩) hS0 ?_
        · obtain ⟨g0, g1, g2, g3, g4, g5, g6⟩ := hS
          go_simp
        clear inv
        intro inv
        refine wpAnyT_take 13 (v := .int .i64 M.gen) hL inv rfl (by decide) (by kernel_rfl) (by kernel_rfl) (fun _ _ _ h => h) (.inl ⟨by kernel_rfl, fun V hS => ?_⟩) hS0 ?_
        · obtain ⟨g0, g1, g2, g3, g4, g5, g6⟩ := hS
          go_simp
        clear inv
        intro inv
        refine wpAnyT_take 14 (v := .bool (g == M.gen)) hL inv rfl (by decide) (by kernel_rfl) (by kernel_rfl) (fun _ _ _ h => h) (.inl ⟨by kernel_rfl, fun V hS => ?_⟩) hS0 ?_
        · obtain ⟨g0, g1, g2, g3, g4, g5, g6⟩ := hS
          go_simp
        clear inv
        intro inv
        refine wpAnyT_take 15 (v := .bool (g == M.gen)) hL inv rfl (by decide) (by kernel_rfl) (by kernel_rfl) (fun _ _ _ h => h) (.inl ⟨by kernel_rfl, fun V hS => ?_⟩) hS0 ?_
        · obtain ⟨g0, g1, g2, g3, g4, g5, g6⟩ := hS
          go_simp
        clear inv
        intro inv
        generalize wc.drew = W2 at hR7 hF7 hS0 ⊢
        have z0 := hR7.f4.at' 0 rfl
        have z1 := hR7.f4.at' 1 rfl
        have z2 := hR7.f4.at' 2 rfl
        have z3 := hR7.f4.at' 3 rfl
        have z4 := hR7.f4.at' 4 rfl
        have z5 := hR7.f4.at' 5 rfl
        have y0 := hR7.f4.fz 0
        have y1 := hR7.f4.fz 1
        have y2 := hR7.f4.fz 2
        have y3 := hR7.f4.fz 3
        have y4 := hR7.f4.fz 4
        have y5 := hR7.f4.fz 5
        refine wpAnyT_one 16 rfl (by kernel_rfl) ?_
        go_wp2_with fail
        clear z0 z1 z2 z3 z4 z5 y0 y1 y2 y3 y4 y5
        have hF8 := (((((hR7.f4.set 0 (by simp) (.int .i64 o)).set 1 (by simp) (.int .i64 g)).set 2 (by simp) (.int .i64 p)).set 3 (by simp) (.int .i64 q)).set 4 (by simp) (.bool lk)).set 5 (by simp) (.bool true)
        have hR8 := rdE6 (v0 := .int .i64 o) (v1 := .int .i64 g) (v2 := .int .i64 p) (v3 := .int .i64 q) (v4 := .bool lk) (v5 := .bool true) hR7
        have hS8 : RdS b6 k o g p q lk true M.gen ((((((W2.setCell ⟨w.heap.size, 0, none⟩ (.int .i64 o)).setCell ⟨w.heap.size, 1, none⟩ (.int .i64 g)).setCell ⟨w.heap.size, 2, none⟩ (.int .i64 p)).setCell ⟨w.heap.size, 3, none⟩ (.int .i64 q)).setCell ⟨w.heap.size, 4, none⟩ (.bool lk)).setCell ⟨w.heap.size, 5, none⟩ (.bool true)) := rdS_of ((((((hF7.other _ _ (by simp; omega)).other _ _ (by simp; omega)).other _ _ (by simp; omega)).other _ _ (by simp; omega)).other _ _ (by simp; omega)).other _ _ (by simp; omega)) (hR8.2.2.at' 4 rfl)
        first | refine ⟨.inr hS8, ?_⟩ | refine ⟨hS8, ?_⟩
        generalize (((((W2.setCell ⟨w.heap.size, 0, none⟩ (.int .i64 o)).setCell ⟨w.heap.size, 1, none⟩ (.int .i64 g)).setCell ⟨w.heap.size, 2, none⟩ (.int .i64 p)).setCell ⟨w.heap.size, 3, none⟩ (.int .i64 q)).setCell ⟨w.heap.size, 4, none⟩ (.bool lk)).setCell ⟨w.heap.size, 5, none⟩ (.bool true) = W3 at hF8 hR8 hS8 ⊢
        refine wpAnyT_one 17 rfl (by kernel_rfl) ?_
        go_wp2_with fail
        refine (show wpAnyT Tryd.prog Region.Mode.any _ _ (RdS b6 k o g p q lk true M.gen) 17 0 _ _ _ from wpAnyT_done (by kernel_rfl) ?_)
        clear hS0 hS8 hL inv hR7 hF7
        go_wp2
        have h0 : W3.cell? ⟨w.heap.size, 0, none⟩ = some (.int .i64 o) := hF8.at' 0 rfl
        have h1 : W3.cell? ⟨w.heap.size, 1, none⟩ = some (.int .i64 g) := hF8.at' 1 rfl
        have h2 : W3.cell? ⟨w.heap.size, 2, none⟩ = some (.int .i64 p) := hF8.at' 2 rfl
        have h3 : W3.cell? ⟨w.heap.size, 3, none⟩ = some (.int .i64 q) := hF8.at' 3 rfl
        have h4 : W3.cell? ⟨w.heap.size, 4, none⟩ = some (.bool lk) := hF8.at' 4 rfl
        have h5 : W3.cell? ⟨w.heap.size, 5, none⟩ = some (.bool true) := hF8.at' 5 rfl
        refine bodyPost_ret (v := .tuple #[.agg #[.int .i64 o, .int .i64 g, .int .i64 p, .int .i64 q, .bool lk, .bool true], .bool (g == M.gen)]) (by simp [results, Tryd.results45, go_sem, h0, h1, h2, h3, h4, h5]) rfl ?_
        exact ⟨by rfl, hR8.1, hR8.2.1, hR8.2.2⟩
    · have e4 : (er == 0) = false := by simpa using e1
      refine wp_region_T (n := 17) (S := RdS b6 k o g p q lk lv M.gen) (by kernel_rfl) ⟨by kernel_rfl, by kernel_rfl, by kernel_rfl, rfl⟩ ?_
      intro hL inv
      refine wpAnyT_take 0 (v := .agg #[.int .i64 o, .int .i64 g, .int .i64 p, .int .i64 q, .bool lk, .bool lv]) hL inv rfl (by decide) (by kernel_rfl) (by kernel_rfl) (fun _ _ _ h => h) (.inl ⟨by kernel_rfl, fun V hS => ?_⟩) hS0 ?_
      · obtain ⟨g0, g1, g2, g3, g4, g5, g6⟩ := hS
        go_simp
      clear inv
      intro inv
      refine wpAnyT_take 1 (v := .int .i64 er) hL inv rfl (by decide) (by kernel_rfl) (by kernel_rfl) (fun _ _ _ h => h) (.inl ⟨by kernel_rfl, fun V hS => ?_⟩) hS0 ?_
      · obtain ⟨g0, g1, g2, g3, g4, g5, g6⟩ := hS
        go_simp
      clear inv
      intro inv
      refine wpAnyT_take 2 (v := .bool false) hL inv rfl (by decide) (by kernel_rfl) (by kernel_rfl) (fun _ _ _ h => h) (.inl ⟨by kernel_rfl, fun V hS => ?_⟩) hS0 ?_
      · obtain ⟨g0, g1, g2, g3, g4, g5, g6⟩ := hS
        go_simp
      clear inv
      intro inv
      refine wpAnyT_take 3 (v := .bool false) hL inv rfl (by decide) (by kernel_rfl) (by kernel_rfl) (fun _ _ _ h => h) (.inl ⟨by kernel_rfl, fun V hS => ?_⟩) hS0 ?_
      · obtain ⟨g0, g1, g2, g3, g4, g5, g6⟩ := hS
        go_simp
      clear inv
      intro inv
      refine wpAnyT_take 4 (v := undef) hL inv rfl (by decide) (by kernel_rfl) (by kernel_rfl) (fun _ _ _ h => h) (.inr ⟨by kernel_rfl, rfl⟩) hS0 ?_
      clear inv
      intro inv
      refine wpAnyT_take 5 (v := undef) hL inv rfl (by decide) (by kernel_rfl) (by kernel_rfl) (fun _ _ _ h => h) (.inr ⟨by kernel_rfl, rfl⟩) hS0 ?_
      clear inv
      intro inv
      refine wpAnyT_take 6 (v := .bool false) hL inv rfl (by decide) (by kernel_rfl) (by kernel_rfl) (fun _ _ _ h => h) (.inl ⟨by kernel_rfl, fun V hS => ?_⟩) hS0 ?_
      · obtain ⟨g0, g1, g2, g3, g4, g5, g6⟩ := hS
        go_simp
      clear inv
      intro inv
      refine wpAnyT_take 7 (v := .bool false) hL inv rfl (by decide) (by kernel_rfl) (by kernel_rfl) (fun _ _ _ h => h) (.inl ⟨by kernel_rfl, fun V hS => ?_⟩) hS0 ?_
      · obtain ⟨g0, g1, g2, g3, g4, g5, g6⟩ := hS
        go_simp
      clear inv
      intro inv
      refine wpAnyT_take 8 (v := undef) hL inv rfl (by decide) (by kernel_rfl) (by kernel_rfl) (fun _ _ _ h => h) (.inr ⟨by kernel_rfl, rfl⟩) hS0 ?_
      clear inv
      intro inv
      refine wpAnyT_take 9 (v := undef) hL inv rfl (by decide) (by kernel_rfl) (by kernel_rfl) (fun _ _ _ h => h) (.inr ⟨by kernel_rfl, rfl⟩) hS0 ?_
      clear inv
      intro inv
      refine wpAnyT_take 10 (v := undef) hL inv rfl (by decide) (by kernel_rfl) (by kernel_rfl) (fun _ _ _ h => h) (.inr ⟨by kernel_rfl, rfl⟩) hS0 ?_
      clear inv
      intro inv
      refine wpAnyT_take 11 (v := undef) hL inv rfl (by decide) (by kernel_rfl) (by kernel_rfl) (fun _ _ _ h => h) (.inr ⟨by kernel_rfl, rfl⟩) hS0 ?_
      clear inv
      intro inv
      refine wpAnyT_take 12 (v := undef) hL inv rfl (by decide) (by kernel_rfl) (by kernel_rfl) (fun _ _ _ h => h) (.inr ⟨by kernel_rfl, rfl⟩) hS0 ?_
      clear inv
      intro inv
      refine wpAnyT_take 13 (v := undef) hL inv rfl (by decide) (by kernel_rfl) (by kernel_rfl) (fun _ _ _ h => h) (.inr ⟨by kernel_rfl, rfl⟩) hS0 ?_
      clear inv
      intro inv
      refine wpAnyT_take 14 (v := undef) hL inv rfl (by decide) (by kernel_rfl) (by kernel_rfl) (fun _ _ _ h => h) (.inr ⟨by kernel_rfl, rfl⟩) hS0 ?_
      clear inv
      intro inv
      refine wpAnyT_take 15 (v := .bool false) hL inv rfl (by decide) (by kernel_rfl) (by kernel_rfl) (fun _ _ _ h => h) (.inl ⟨by kernel_rfl, fun V hS => ?_⟩) hS0 ?_
      · obtain ⟨g0, g1, g2, g3, g4, g5, g6⟩ := hS
        go_simp
      clear inv
      intro inv
      generalize wc.drew = W2 at hR7 hF7 hS0 ⊢
      have z0 := hR7.f4.at' 0 rfl
      have z1 := hR7.f4.at' 1 rfl
      have z2 := hR7.f4.at' 2 rfl
      have z3 := hR7.f4.at' 3 rfl
      have z4 := hR7.f4.at' 4 rfl
      have z5 := hR7.f4.at' 5 rfl
      have y0 := hR7.f4.fz 0
      have y1 := hR7.f4.fz 1
      have y2 := hR7.f4.fz 2
      have y3 := hR7.f4.fz 3
      have y4 := hR7.f4.fz 4
      have y5 := hR7.f4.fz 5
      refine wpAnyT_one 16 rfl (by kernel_rfl) ?_
      go_wp2_with fail
      clear z0 z1 z2 z3 z4 z5 y0 y1 y2 y3 y4 y5
      have hF8 := (((((hR7.f4.set 0 (by simp) (.int .i64 o)).set 1 (by simp) (.int .i64 g)).set 2 (by simp) (.int .i64 p)).set 3 (by simp) (.int .i64 q)).set 4 (by simp) (.bool lk)).set 5 (by simp) (.bool lv)
      have hR8 := rdE6 (v0 := .int .i64 o) (v1 := .int .i64 g) (v2 := .int .i64 p) (v3 := .int .i64 q) (v4 := .bool lk) (v5 := .bool lv) hR7
      have hS8 : RdS b6 k o g p q lk lv M.gen ((((((W2.setCell ⟨w.heap.size, 0, none⟩ (.int .i64 o)).setCell ⟨w.heap.size, 1, none⟩ (.int .i64 g)).setCell ⟨w.heap.size, 2, none⟩ (.int .i64 p)).setCell ⟨w.heap.size, 3, none⟩ (.int .i64 q)).setCell ⟨w.heap.size, 4, none⟩ (.bool lk)).setCell ⟨w.heap.size, 5, none⟩ (.bool lv)) := rdS_of ((((((hF7.other _ _ (by simp; omega)).other _ _ (by simp; omega)).other _ _ (by simp; omega)).other _ _ (by simp; omega)).other _ _ (by simp; omega)).other _ _ (by simp; omega)) (hR8.2.2.at' 4 rfl)
      first | refine ⟨.inr hS8, ?_⟩ | refine ⟨hS8, ?_⟩
      generalize (((((W2.setCell ⟨w.heap.size, 0, none⟩ (.int .i64 o)).setCell ⟨w.heap.size, 1, none⟩ (.int .i64 g)).setCell ⟨w.heap.size, 2, none⟩ (.int .i64 p)).setCell ⟨w.heap.size, 3, none⟩ (.int .i64 q)).setCell ⟨w.heap.size, 4, none⟩ (.bool lk)).setCell ⟨w.heap.size, 5, none⟩ (.bool lv) = W3 at hF8 hR8 hS8 ⊢
      refine wpAnyT_one 17 rfl (by kernel_rfl) ?_
      go_wp2_with fail
      refine (show wpAnyT Tryd.prog Region.Mode.any _ _ (RdS b6 k o g p q lk lv M.gen) 17 0 _ _ _ from wpAnyT_done (by kernel_rfl) ?_)
      clear hS0 hS8 hL inv hR7 hF7
      go_wp2
      have h0 : W3.cell? ⟨w.heap.size, 0, none⟩ = some (.int .i64 o) := hF8.at' 0 rfl
      have h1 : W3.cell? ⟨w.heap.size, 1, none⟩ = some (.int .i64 g) := hF8.at' 1 rfl
      have h2 : W3.cell? ⟨w.heap.size, 2, none⟩ = some (.int .i64 p) := hF8.at' 2 rfl
      have h3 : W3.cell? ⟨w.heap.size, 3, none⟩ = some (.int .i64 q) := hF8.at' 3 rfl
      have h4 : W3.cell? ⟨w.heap.size, 4, none⟩ = some (.bool lk) := hF8.at' 4 rfl
      have h5 : W3.cell? ⟨w.heap.size, 5, none⟩ = some (.bool lv) := hF8.at' 5 rfl
      refine bodyPost_ret (v := .tuple #[.agg #[.int .i64 o, .int .i64 g, .int .i64 p, .int .i64 q, .bool lk, .bool lv], .bool false]) (by simp [results, Tryd.results45, go_sem, h0, h1, h2, h3, h4, h5]) rfl ?_
      exact ⟨by rw [e4]; rfl, hR8.1, hR8.2.1, hR8.2.2⟩
end
end Go.Proofs.YtnahjnbhmlomcaaDoor
