/-
  The answers that the document gives, and whatever calls for plain cells, for layer 6.
  Conditions: that the package's two fields of heads read as they are laid.
-/
import Derived.Test.YtjcndjfiogbdiaaDoorLayGo
namespace Go.Proofs.YtjcndjfiogbdiaaDoor
open Go.RowKit
attribute [local go_sem] Later.cell Later.frozen Later.lt Later.le Turned.cell_lo Turned.cell_hi Turned.frozen_lo Turned.frozen_hi Turned.lt Turned.le
set_option linter.unusedVariables false

/-- In a world that has turned: a call that makes plain cells. -/
theorem made_of {P : Program} {f : FuncId} {args : Array Value} {lo hi : Nat} {w : World} {ws bs : List Int} {n : Int} (x : Turned lo hi w) (h : Calls P f args x.at' (Made x.at' ws bs n)) :
    Calls P f args x.at' fun e w' => ∃ B : PAt, e = .returned (.pointer (some ⟨B.p, 0, none⟩)) ∧ x.at'.heap.size ≤ B.lo ∧ ∃ y : Turned lo hi w, w' = y.at' ∧ (∃ z : Later x.at', z.at' = y.at') ∧ Mem y.at' B ws bs n :=
  h.mono fun _ _ ⟨B, he, hB, y, hy, hm⟩ => ⟨B, he, hB, x.late y, hy, ⟨y, rfl⟩, hm⟩

theorem HasHead.alloc {w : World} (h : HasHead w) (o : Obj) : HasHead (w.alloc o) := h.below ((Below.refl _ _).alloc (Nat.le_refl _) _)

theorem stV_1 (f : Int → Int) : stV 2 3 f 1 = 1 := rfl
theorem stV_8 (f : Int → Int) : stV 2 3 f 8 = 2 := by unfold stV lkV faV; simp
theorem stV_14 (f : Int → Int) : stV 2 3 f 14 = 0 := by unfold stV lkV faV; simp

theorem lo_of {w : World} {o : Obj} {k : Nat} (h : (w.alloc o).heap.size ≤ k) : w.heap.size < k := by rw [World.size_alloc] at h; omega

/-- What is known all along of a world in which two variables, and plain cells, lie. -/
structure Held (w : World) (b1 b2 : Nat) (A : PAt) (ws bs : List Int) (w' : World) : Prop where
  bel : Below w.heap.size w w'
  s0 : w.heap.size ≤ b1
  s1 : b1 < w'.heap.size
  s2 : b2 < w'.heap.size
  a1 : b1 < A.lo
  a2 : b2 < A.lo
  mem : ∃ m, Mem w' A ws bs m

section
variable {w W : World} {b1 b2 : Nat} {A : PAt} {ws bs : List Int} {e0 e1 e2 f0 f1 : Value}
theorem Held.later (h : W.cell? ⟨b1, 0, none⟩ = some e0 ∧ W.cell? ⟨b1, 1, none⟩ = some e1 ∧ W.cell? ⟨b1, 2, none⟩ = some e2 ∧ W.cell? ⟨b2, 0, none⟩ = some f0 ∧ W.cell? ⟨b2, 1, none⟩ = some f1 ∧ Held w b1 b2 A ws bs W) (y : Later W) :
    y.at'.cell? ⟨b1, 0, none⟩ = some e0 ∧ y.at'.cell? ⟨b1, 1, none⟩ = some e1 ∧ y.at'.cell? ⟨b1, 2, none⟩ = some e2 ∧ y.at'.cell? ⟨b2, 0, none⟩ = some f0 ∧ y.at'.cell? ⟨b2, 1, none⟩ = some f1 ∧ Held w b1 b2 A ws bs y.at' := by
  obtain ⟨h0, h1, h2, h3, h4, hh⟩ := h
  obtain ⟨m, hm⟩ := hh.mem
  exact ⟨(y.cell _ _ _ hh.s1).trans h0, (y.cell _ _ _ hh.s1).trans h1, (y.cell _ _ _ hh.s1).trans h2, (y.cell _ _ _ hh.s2).trans h3, (y.cell _ _ _ hh.s2).trans h4,
    ⟨hh.bel.trans (y.below.mono hh.bel.size), hh.s0, y.lt _ hh.s1, y.lt _ hh.s2, hh.a1, hh.a2, m, hm.later y⟩⟩
theorem Held.turned {m : Int} (h : W.cell? ⟨b1, 0, none⟩ = some e0 ∧ W.cell? ⟨b1, 1, none⟩ = some e1 ∧ W.cell? ⟨b1, 2, none⟩ = some e2 ∧ W.cell? ⟨b2, 0, none⟩ = some f0 ∧ W.cell? ⟨b2, 1, none⟩ = some f1 ∧ Held w b1 b2 A ws bs W) (y : Turned A.lo A.hi W) (hm : Mem y.at' A ws bs m) :
    y.at'.cell? ⟨b1, 0, none⟩ = some e0 ∧ y.at'.cell? ⟨b1, 1, none⟩ = some e1 ∧ y.at'.cell? ⟨b1, 2, none⟩ = some e2 ∧ y.at'.cell? ⟨b2, 0, none⟩ = some f0 ∧ y.at'.cell? ⟨b2, 1, none⟩ = some f1 ∧ Held w b1 b2 A ws bs y.at' := by
  obtain ⟨h0, h1, h2, h3, h4, hh⟩ := h
  exact ⟨(y.cell_lo _ _ _ hh.s1 hh.a1).trans h0, (y.cell_lo _ _ _ hh.s1 hh.a1).trans h1, (y.cell_lo _ _ _ hh.s1 hh.a1).trans h2, (y.cell_lo _ _ _ hh.s2 hh.a2).trans h3, (y.cell_lo _ _ _ hh.s2 hh.a2).trans h4,
    ⟨y.turn.below hh.bel (by have := hh.s0; have := hh.a1; omega) hh.bel.size, hh.s0, y.lt _ hh.s1, y.lt _ hh.s2, hh.a1, hh.a2, m, hm⟩⟩
theorem heldMem {c0 c1 c2 c3 c4 : Prop} (h : c0 ∧ c1 ∧ c2 ∧ c3 ∧ c4 ∧ Held w b1 b2 A ws bs W) : ∃ m, Mem W A ws bs m := h.2.2.2.2.2.mem
theorem heldBelow {c0 c1 c2 c3 c4 : Prop} (h : c0 ∧ c1 ∧ c2 ∧ c3 ∧ c4 ∧ Held w b1 b2 A ws bs W) : Below w.heap.size w W := h.2.2.2.2.2.bel
end

/-- What is known where the last region begins. -/
theorem start_facts {v x1 : World} {o o' : Obj} {A : PAt} {ws bs : List Int} {f : Int → Int} {e0 e1 e2 f0 f1 : Value} {n : Int} (hv : Below v.heap.size v x1) (z1 : v.heap.size < x1.heap.size) (hA : (x1.alloc o).heap.size ≤ A.lo) (x2 : Later (x1.alloc o)) (z : Turned A.lo A.hi x2.at') (x3 : Later z.at') (hm : Mem z.at' A ws bs n) (hat : ∀ y, atI ws y = stV 2 3 f y)
    (c0 : x1.cell? ⟨v.heap.size, 0, none⟩ = some e0) (c1 : x1.cell? ⟨v.heap.size, 1, none⟩ = some e1) (c2 : x1.cell? ⟨v.heap.size, 2, none⟩ = some e2) (d0 : (x1.alloc o).cell? ⟨x1.heap.size, 0, none⟩ = some f0) (d1 : (x1.alloc o).cell? ⟨x1.heap.size, 1, none⟩ = some f1) :
    ((x3.at'.alloc o').drew.cell? ⟨v.heap.size, 0, none⟩ = some e0 ∧ (x3.at'.alloc o').drew.cell? ⟨v.heap.size, 1, none⟩ = some e1 ∧ (x3.at'.alloc o').drew.cell? ⟨v.heap.size, 2, none⟩ = some e2 ∧ (x3.at'.alloc o').drew.cell? ⟨x1.heap.size, 0, none⟩ = some f0 ∧ (x3.at'.alloc o').drew.cell? ⟨x1.heap.size, 1, none⟩ = some f1 ∧ Held v v.heap.size x1.heap.size A ws bs (x3.at'.alloc o').drew) ∧ atI ws 1 = 1 ∧ atI ws 8 = 2 ∧ atI ws 14 = 0 := by
  have hA' := lo_of hA
  have y1 : v.heap.size < x2.at'.heap.size := x2.lt _ (by simp; omega)
  have y2 : x1.heap.size < x2.at'.heap.size := x2.lt _ (by simp)
  have y3 := z.lt _ y1
  have y4 := z.lt _ y2
  have y5 := x3.lt _ y3
  have y6 := x3.lt _ y4
  have k : ∀ j u, x1.cell? ⟨v.heap.size, j, none⟩ = some u → (x3.at'.alloc o').drew.cell? ⟨v.heap.size, j, none⟩ = some u := fun j u hu => by
    rw [World.cell?_drew, World.cell?_alloc_past _ _ _ y5, x3.cell _ _ _ y3, z.cell_lo _ _ _ y1 (by omega), x2.cell _ _ _ (by simp; omega), World.cell?_alloc_past _ _ _ z1]
    exact hu
  have k' : ∀ j u, (x1.alloc o).cell? ⟨x1.heap.size, j, none⟩ = some u → (x3.at'.alloc o').drew.cell? ⟨x1.heap.size, j, none⟩ = some u := fun j u hu => by
    rw [World.cell?_drew, World.cell?_alloc_past _ _ _ y6, x3.cell _ _ _ y4, z.cell_lo _ _ _ y2 (by omega), x2.cell _ _ _ (by simp)]
    exact hu
  have b2 : Below v.heap.size v x2.at' := (hv.alloc (by omega) o).trans (x2.below.mono (by simp; omega))
  have b3 : Below v.heap.size v z.at' := z.turn.below b2 (by omega) (by omega)
  have b4 : Below v.heap.size v x3.at' := b3.trans (x3.below.mono (by omega))
  exact ⟨⟨k _ _ c0, k _ _ c1, k _ _ c2, k' _ _ d0, k' _ _ d1, ⟨(b4.alloc (by omega) o').drew, Nat.le_refl _, by simp only [World.size_drew, World.size_alloc]; omega, by simp only [World.size_drew, World.size_alloc]; omega, by omega, by omega, n, ((hm.later x3).alloc _).drew⟩⟩, (hat 1).trans (stV_1 f), (hat 8).trans (stV_8 f), (hat 14).trans (stV_14 f)⟩

set_option maxHeartbeats 8000000 in
theorem llive_any (w : World) (hF : HasHead w) : Calls Tryd.prog 22 #[] w (Ret w (.bool true)) := by
  have c1 := fun W => Of_ok 64 3 2 (by decide) W
  have c2 : ∀ W, Calls Tryd.prog 23 #[.int .i64 20, .int .i64 64] W (Made W (List.replicate 20 0) (List.replicate 64 0) 0) := fun W => New_ok 20 64 (by decide) (by decide) (by decide) W
  have c3 := fun W => Of_bad 0 0 0 (by decide) W
  have c4 := fun W => LWords_ok (t := 2) (s := 3) (by decide) (by decide) (by decide) (by decide) W
  have c5 := fun W => LEntry_any (t := 2) (s := 3) (by decide) (by decide) (by decide) (by decide) 0 W
  have c6 := fun W => LSize_any (t := 2) (s := 3) (by decide) (by decide) (by decide) (by decide) 1 W
  have c7 := fun W => LLink_any (t := 2) (s := 3) (by decide) (by decide) (by decide) (by decide) 2 W
  have c8 := fun W => LNote_any (t := 2) (s := 3) (by decide) (by decide) 1 W
  have c9 := fun W => LNote_any (t := 2) (s := 3) (by decide) (by decide) 2 W
  have c10 := fun W => LEntry_any (t := 2) (s := 3) (by decide) (by decide) (by decide) (by decide) 3 W
  have c11 := fun W => LStack_ok (t := 2) (s := 3) (by decide) W
  have c12 := fun W => LLink_any (t := 2) (s := 3) (by decide) (by decide) (by decide) (by decide) 0 W
  have c13 : ∀ W, Calls Tryd.prog 23 #[.int .i64 14, .int .i64 64] W (Made W (List.replicate 14 0) (List.replicate 64 0) 0) := fun W => New_ok 14 64 (by decide) (by decide) (by decide) W
  have c14 := fun W => Start_none 64 3 2 (by decide) W
  rw [show wordsN 2 3 = 15 from rfl] at c4
  rw [show partN 2 3 0 0 = 6 from rfl] at c5
  rw [show partN 2 3 1 1 = 10 from rfl] at c6
  rw [show partN 2 3 2 2 = 14 from rfl] at c7
  rw [show noteN 2 1 = 5 from rfl] at c8
  rw [show noteN 2 2 = -1 from rfl] at c9
  rw [show partN 2 3 3 0 = -1 from rfl] at c10
  rw [show partN 2 3 0 2 = 8 from rfl] at c12
  have l0 := hF.lt0
  have l1 := hF.lt1
  go_enter Tryd.func22, Tryd.ntmps22
  go_wp2_with (first
    | (go_at_call 9; (with_reducible refine (c1 _).mono ?_); rintro _ _ ⟨rfl, x1, rfl⟩; have z1 : w.heap.size < x1.at'.heap.size := x1.lt _ (by simp); have z1' : w.heap.size < x1.at'.heap.size + 1 := (by omega); have z1'' : w.heap.size ≤ x1.at'.heap.size := (by omega))
    | (go_at_call 23; (with_reducible refine (c2 _).mono ?_); rintro _ _ ⟨A, rfl, hA, x2, rfl, hM⟩; have hA' := lo_of hA)
    | (go_at_call 26; (with_reducible refine (Start_ok 64 3 2 A (List.replicate 20 0) (List.replicate 64 0) 0 _ (x2.heads ((x1.heads (hF.alloc _)).alloc _)) (by omega) (by omega) hM (by decide) (by decide) (by decide)).mono ?_); rintro _ _ ⟨rfl, z, rfl, ws, n, hM1, hlen, hat⟩)
    | (go_at_call 9; (with_reducible refine (c3 _).mono ?_); rintro _ _ ⟨rfl, x3, rfl⟩))
  have hb1 : Below w.heap.size w x1.at' := x1.boxed
  obtain ⟨hS, v1, v8, v14⟩ := start_facts (o' := .cells #[.int .i64 0, .int .i64 0] 25) (e0 := .int .i64 64) (e1 := .int .i64 3) (e2 := .int .i64 2) (f0 := .int .i64 2) (f1 := .int .i64 3) hb1 z1 hA x2 z x3 hM1 hat (by rw [x1.cell _ _ _ (by simp)]; simp) (by rw [x1.cell _ _ _ (by simp)]; simp) (by rw [x1.cell _ _ _ (by simp)]; simp) (by simp) (by simp)
  clear hat hlen hM hF c1 c2 c3 hA' z1' z1''
  have k1 : ∀ W, (∃ m, Mem W A ws (List.replicate 64 0) m) → Calls Tryd.prog 27 #[.pointer (some ⟨A.p, 0, none⟩), .int .i64 1] W fun e w' => e = .returned (.int .i64 1) ∧ ∃ m, ∃ z : Turned A.lo A.hi W, w' = z.at' ∧ Mem z.at' A ws (List.replicate 64 0) m := fun W ⟨m, hm⟩ => by
    have := Load_any 1 hm
    rw [v1] at this
    exact this.mono fun _ _ ⟨he, z, hz, hm⟩ => ⟨he, _, z, hz, hm⟩
  have k8 : ∀ W, (∃ m, Mem W A ws (List.replicate 64 0) m) → Calls Tryd.prog 27 #[.pointer (some ⟨A.p, 0, none⟩), .int .i64 8] W fun e w' => e = .returned (.int .i64 2) ∧ ∃ m, ∃ z : Turned A.lo A.hi W, w' = z.at' ∧ Mem z.at' A ws (List.replicate 64 0) m := fun W ⟨m, hm⟩ => by
    have := Load_any 8 hm
    rw [v8] at this
    exact this.mono fun _ _ ⟨he, z, hz, hm⟩ => ⟨he, _, z, hz, hm⟩
  have k14 : ∀ W, (∃ m, Mem W A ws (List.replicate 64 0) m) → Calls Tryd.prog 27 #[.pointer (some ⟨A.p, 0, none⟩), .int .i64 14] W fun e w' => e = .returned (.int .i64 0) ∧ ∃ m, ∃ z : Turned A.lo A.hi W, w' = z.at' ∧ Mem z.at' A ws (List.replicate 64 0) m := fun W ⟨m, hm⟩ => by
    have := Load_any 14 hm
    rw [v14] at this
    exact this.mono fun _ _ ⟨he, z, hz, hm⟩ => ⟨he, _, z, hz, hm⟩
  clear v1 v8 v14 hM1
  simp only [List.append_eq, List.cons_append, List.nil_append]
  go_region_held3 (fun w' => w'.cell? ⟨w.heap.size, 0, none⟩ = some (.int .i64 64) ∧ w'.cell? ⟨w.heap.size, 1, none⟩ = some (.int .i64 3) ∧ w'.cell? ⟨w.heap.size, 2, none⟩ = some (.int .i64 2) ∧ w'.cell? ⟨x1.at'.heap.size, 0, none⟩ = some (.int .i64 2) ∧ w'.cell? ⟨x1.at'.heap.size, 1, none⟩ = some (.int .i64 3) ∧ Held w w.heap.size x1.at'.heap.size A ws (List.replicate 64 0) w')
    (first | exact hS | assumption | exact Held.later ‹_ ∧ _› _ | exact Held.turned ‹_ ∧ _› _ (by assumption)) (first
    | (go_at_call 11; refine (c4 _).mono ?_; rintro _ _ ⟨rfl, y, rfl⟩)
    | (go_at_call 18; (with_reducible refine (c5 _).mono ?_); rintro _ _ ⟨rfl, y, rfl⟩)
    | (go_at_call 18; (with_reducible refine (c10 _).mono ?_); rintro _ _ ⟨rfl, y, rfl⟩)
    | (go_at_call 19; (with_reducible refine (c6 _).mono ?_); rintro _ _ ⟨rfl, y, rfl⟩)
    | (go_at_call 20; (with_reducible refine (c7 _).mono ?_); rintro _ _ ⟨rfl, y, rfl⟩)
    | (go_at_call 20; (with_reducible refine (c12 _).mono ?_); rintro _ _ ⟨rfl, y, rfl⟩)
    | (go_at_call 17; (with_reducible refine (c8 _).mono ?_); rintro _ _ ⟨rfl, y, rfl⟩)
    | (go_at_call 17; (with_reducible refine (c9 _).mono ?_); rintro _ _ ⟨rfl, y, rfl⟩)
    | (go_at_call 14; (with_reducible refine (c11 _).mono ?_); rintro _ _ ⟨rfl, y, rfl⟩)
    | (go_at_call 27; (with_reducible refine (k1 _ (heldMem ‹_ ∧ _›)).mono ?_); rintro _ _ ⟨rfl, m, y, rfl, hmem⟩)
    | (go_at_call 27; (with_reducible refine (k8 _ (heldMem ‹_ ∧ _›)).mono ?_); rintro _ _ ⟨rfl, m, y, rfl, hmem⟩)
    | (go_at_call 27; (with_reducible refine (k14 _ (heldMem ‹_ ∧ _›)).mono ?_); rintro _ _ ⟨rfl, m, y, rfl, hmem⟩)
    | (go_at_call 23; (with_reducible refine (c13 _).mono ?_); rintro _ _ ⟨B, rfl, hB, y, rfl, hMB⟩)
    | (go_at_call 26; (with_reducible refine (c14 _).mono ?_); rintro _ _ ⟨rfl, y, rfl⟩)
    | (go_at_call 26; (with_reducible refine (Start_few 64 3 2 B (List.replicate 14 0) (List.replicate 64 0) 0 _ hMB (by decide) (by decide)).mono ?_); rintro _ _ ⟨rfl, y, rfl⟩))
  go_wp2
  go_ret
  exact Ret.mk rfl (heldBelow ‹_ ∧ _›)
end Go.Proofs.YtjcndjfiogbdiaaDoor
