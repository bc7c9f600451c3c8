/-
  LayoutTells, walked: it answers true at every config and every number.
  Conditions: that live answers true; that the package's two fields of heads read as they are laid.
-/
import Derived.Test.YtjcndjfiogbdiaaDoorLayRef
import Derived.Test.YtjcndjfiogbdiaaDoorHeadPack
import Derived.Deep.RegionHeld3
namespace Go.Proofs.YtjcndjfiogbdiaaDoor
open Go.RowKit
attribute [local go_sem] Later.cell Later.frozen Later.lt Later.le
set_option linter.unusedVariables false

/-- What is known all along of a world in which two variables lie. -/
structure Two (w : World) (b1 b2 : Nat) (w' : World) : Prop where
  bel : Below w.heap.size w w'
  s0 : w.heap.size ≤ b1
  s1 : b1 < w'.heap.size
  s2 : b2 < w'.heap.size

section
variable {w W : World} {b1 b2 : Nat} {e0 e1 e2 f0 f1 : Value}
theorem Two.later (h : W.cell? ⟨b1, 0, none⟩ = some e0 ∧ W.cell? ⟨b1, 1, none⟩ = some e1 ∧ W.cell? ⟨b1, 2, none⟩ = some e2 ∧ W.cell? ⟨b2, 0, none⟩ = some f0 ∧ W.cell? ⟨b2, 1, none⟩ = some f1 ∧ Two w b1 b2 W) (y : Later W) :
    y.at'.cell? ⟨b1, 0, none⟩ = some e0 ∧ y.at'.cell? ⟨b1, 1, none⟩ = some e1 ∧ y.at'.cell? ⟨b1, 2, none⟩ = some e2 ∧ y.at'.cell? ⟨b2, 0, none⟩ = some f0 ∧ y.at'.cell? ⟨b2, 1, none⟩ = some f1 ∧ Two w b1 b2 y.at' := by
  obtain ⟨h0, h1, h2, h3, h4, hh⟩ := h
  exact ⟨(y.cell _ _ _ hh.s1).trans h0, (y.cell _ _ _ hh.s1).trans h1, (y.cell _ _ _ hh.s1).trans h2, (y.cell _ _ _ hh.s2).trans h3, (y.cell _ _ _ hh.s2).trans h4,
    ⟨hh.bel.trans (y.below.mono hh.bel.size), hh.s0, y.lt _ hh.s1, y.lt _ hh.s2⟩⟩
theorem Two.alloc (h : W.cell? ⟨b1, 0, none⟩ = some e0 ∧ W.cell? ⟨b1, 1, none⟩ = some e1 ∧ W.cell? ⟨b1, 2, none⟩ = some e2 ∧ W.cell? ⟨b2, 0, none⟩ = some f0 ∧ W.cell? ⟨b2, 1, none⟩ = some f1 ∧ Two w b1 b2 W) (o : Obj) :
    (W.alloc o).cell? ⟨b1, 0, none⟩ = some e0 ∧ (W.alloc o).cell? ⟨b1, 1, none⟩ = some e1 ∧ (W.alloc o).cell? ⟨b1, 2, none⟩ = some e2 ∧ (W.alloc o).cell? ⟨b2, 0, none⟩ = some f0 ∧ (W.alloc o).cell? ⟨b2, 1, none⟩ = some f1 ∧ Two w b1 b2 (W.alloc o) :=
  Two.later h ⟨_, (Below.refl _ _).alloc (Nat.le_refl _) o⟩
theorem Two.drew (h : W.cell? ⟨b1, 0, none⟩ = some e0 ∧ W.cell? ⟨b1, 1, none⟩ = some e1 ∧ W.cell? ⟨b1, 2, none⟩ = some e2 ∧ W.cell? ⟨b2, 0, none⟩ = some f0 ∧ W.cell? ⟨b2, 1, none⟩ = some f1 ∧ Two w b1 b2 W) :
    W.drew.cell? ⟨b1, 0, none⟩ = some e0 ∧ W.drew.cell? ⟨b1, 1, none⟩ = some e1 ∧ W.drew.cell? ⟨b1, 2, none⟩ = some e2 ∧ W.drew.cell? ⟨b2, 0, none⟩ = some f0 ∧ W.drew.cell? ⟨b2, 1, none⟩ = some f1 ∧ Two w b1 b2 W.drew :=
  Two.later h ⟨_, (Below.refl _ _).drew⟩
theorem Two.begin {c0 c1 c2 l0 l1 : Value} {T1 T2 : TypeId} (x1 : Later (w.alloc (.cells #[c0, c1, c2] T1))) :
    (x1.at'.alloc (.cells #[l0, l1] T2)).cell? ⟨w.heap.size, 0, none⟩ = some c0 ∧ (x1.at'.alloc (.cells #[l0, l1] T2)).cell? ⟨w.heap.size, 1, none⟩ = some c1 ∧ (x1.at'.alloc (.cells #[l0, l1] T2)).cell? ⟨w.heap.size, 2, none⟩ = some c2 ∧ (x1.at'.alloc (.cells #[l0, l1] T2)).cell? ⟨x1.at'.heap.size, 0, none⟩ = some l0 ∧ (x1.at'.alloc (.cells #[l0, l1] T2)).cell? ⟨x1.at'.heap.size, 1, none⟩ = some l1 ∧ Two w w.heap.size x1.at'.heap.size (x1.at'.alloc (.cells #[l0, l1] T2)) := by
  have y1 : w.heap.size < x1.at'.heap.size := x1.lt _ (by simp)
  refine ⟨?_, ?_, ?_, by simp, by simp, ⟨(x1.boxed).alloc (by omega) _, Nat.le_refl _, by simp; omega, by simp⟩⟩
  all_goals
    rw [World.cell?_alloc_past _ _ _ y1, x1.cell _ _ _ (by simp)]
    simp
theorem twoBelow {c0 c1 c2 c3 c4 : Prop} (h : c0 ∧ c1 ∧ c2 ∧ c3 ∧ c4 ∧ Two w b1 b2 W) : Below w.heap.size w W := h.2.2.2.2.2.bel
theorem twoTold {c0 c1 c2 c3 c4 : Prop} (h : c0 ∧ c1 ∧ c2 ∧ c3 ∧ c4 ∧ Two w b1 b2 W) : b1 < W.heap.size ∧ b2 < W.heap.size := ⟨h.2.2.2.2.2.s1, h.2.2.2.2.2.s2⟩
end

/-- The loop's relation: so many kinds have been held against the document's. -/
def TlRel (w : World) (u : Value) (wr : World) : Prop := ∃ k : Nat, k ≤ 8 ∧ u = .int .i64 k ∧ ∃ y : Later w, wr = y.at'

theorem tells_ok (a s t n : Int) (w : World) (hlive : ∀ W, HasHead W → Calls Tryd.prog 22 #[] W (Ret W (.bool true))) (hF : HasHead w) (N : Int) (g : Nat → Int)
    (c1 : ∀ W, Calls Tryd.prog 9 #[.agg #[.int .i64 a, .int .i64 s, .int .i64 t]] W (Ret W (.tuple #[.agg #[.int .i64 t, .int .i64 s], .int .i64 0])))
    (c2 : ∀ W, Calls Tryd.prog 10 #[.agg #[.int .i64 a, .int .i64 s, .int .i64 t]] W (Ret W (.bool true)))
    (c3 : ∀ W, Calls Tryd.prog 11 #[.agg #[.int .i64 t, .int .i64 s]] W (Ret W (.int .i64 N)))
    (c4 : ∀ W, Calls Tryd.prog 12 #[.agg #[.int .i64 a, .int .i64 s, .int .i64 t]] W (Ret W (.int .i64 N)))
    (d0 : ∀ W, Calls Tryd.prog 13 #[.agg #[.int .i64 t, .int .i64 s]] W (Ret W (.int .i64 (g 0))))
    (d1 : ∀ W, Calls Tryd.prog 14 #[.agg #[.int .i64 t, .int .i64 s]] W (Ret W (.int .i64 (g 1))))
    (d2 : ∀ W, Calls Tryd.prog 15 #[.agg #[.int .i64 t, .int .i64 s]] W (Ret W (.int .i64 (g 2))))
    (d3 : ∀ W, Calls Tryd.prog 16 #[.agg #[.int .i64 t, .int .i64 s]] W (Ret W (.int .i64 (g 3))))
    (d4 : ∀ W, Calls Tryd.prog 17 #[.agg #[.int .i64 t, .int .i64 s], .int .i64 n] W (Ret W (.int .i64 (g 4))))
    (d5 : ∀ W, Calls Tryd.prog 18 #[.agg #[.int .i64 t, .int .i64 s], .int .i64 n] W (Ret W (.int .i64 (g 5))))
    (d6 : ∀ W, Calls Tryd.prog 19 #[.agg #[.int .i64 t, .int .i64 s], .int .i64 n] W (Ret W (.int .i64 (g 6))))
    (d7 : ∀ W, Calls Tryd.prog 20 #[.agg #[.int .i64 t, .int .i64 s], .int .i64 n] W (Ret W (.int .i64 (g 7))))
    (cA : ∀ (k : Nat), k < 8 → ∀ W, Calls Tryd.prog 21 #[.agg #[.int .i64 a, .int .i64 s, .int .i64 t], .int .i64 k, .int .i64 n] W (Ret W (.int .i64 (g k)))) :
    Calls Tryd.prog 3 #[.agg #[.int .i64 a, .int .i64 s, .int .i64 t], .int .i64 n] w (Ret w (.bool true)) := by
  have e1 : ∀ x : Int, (x != x) = false := fun x => by simp
  have HG : Hid (∀ k : Nat, k < 8 → (#[Value.int .i64 (g 0), .int .i64 (g 1), .int .i64 (g 2), .int .i64 (g 3), .int .i64 (g 4), .int .i64 (g 5), .int .i64 (g 6), .int .i64 (g 7)])[k]? = some (.int .i64 (g k))) := fun k hk => by
    match k, hk with
    | 0, _ | 1, _ | 2, _ | 3, _ | 4, _ | 5, _ | 6, _ | 7, _ => rfl
  generalize g 0 = g0 at d0 HG
  generalize g 1 = g1 at d1 HG
  generalize g 2 = g2 at d2 HG
  generalize g 3 = g3 at d3 HG
  generalize g 4 = g4 at d4 HG
  generalize g 5 = g5 at d5 HG
  generalize g 6 = g6 at d6 HG
  generalize g 7 = g7 at d7 HG
  go_enter Tryd.func3, Tryd.ntmps3
  go_wp2_with (go_at_call 9; (with_reducible refine (c1 _).mono ?_); rintro _ _ ⟨rfl, x1, rfl⟩)
  have hS := Two.begin (l0 := .int .i64 t) (l1 := .int .i64 s) (T2 := 25) x1
  generalize x1.at'.alloc (.cells #[.int .i64 t, .int .i64 s] 25) = W1 at hS ⊢
  generalize x1.at'.heap.size = b2 at hS ⊢
  clear x1 c1
  obtain ⟨p0, p1, p2, q0, q1, hT⟩ := hS
  have y1 := hT.s1
  have y2 := hT.s2
  refine wp_region_later (by kernel_rfl) (by kernel_rfl) ?_
  repeat (go_big_quiet_step (first
    | (go_at_call 10; (with_reducible exact later_of _ (c2 _)))
    | (go_at_call 11; (with_reducible exact later_of _ (c3 _)))
    | (go_at_call 12; (with_reducible exact later_of _ (c4 _)))))
  refine wpQuiet_nil ?_
  rintro _ ⟨x2, rfl⟩
  go_wp2_with fail
  have hS := Two.later ⟨p0, p1, p2, q0, q1, hT⟩ x2
  have hD := Two.drew hS
  clear p0 p1 p2 q0 q1 hT y1 y2 c2 c3 c4
  generalize x2.at' = W2 at hS hD ⊢
  clear x2 W1
  go_region_held3 (fun w' => w'.cell? ⟨w.heap.size, 0, none⟩ = some (.int .i64 a) ∧ w'.cell? ⟨w.heap.size, 1, none⟩ = some (.int .i64 s) ∧ w'.cell? ⟨w.heap.size, 2, none⟩ = some (.int .i64 t) ∧ w'.cell? ⟨b2, 0, none⟩ = some (.int .i64 t) ∧ w'.cell? ⟨b2, 1, none⟩ = some (.int .i64 s) ∧ Two w w.heap.size b2 w')
    (first | exact hD | assumption | exact Two.later ‹_ ∧ _› _ | exact Two.alloc ‹_ ∧ _› _) (first
    | (go_at_call 13; (with_reducible refine (d0 _).mono ?_); rintro _ _ ⟨rfl, y, rfl⟩)
    | (go_at_call 14; (with_reducible refine (d1 _).mono ?_); rintro _ _ ⟨rfl, y, rfl⟩)
    | (go_at_call 15; (with_reducible refine (d2 _).mono ?_); rintro _ _ ⟨rfl, y, rfl⟩)
    | (go_at_call 16; (with_reducible refine (d3 _).mono ?_); rintro _ _ ⟨rfl, y, rfl⟩)
    | (go_at_call 17; (with_reducible refine (d4 _).mono ?_); rintro _ _ ⟨rfl, y, rfl⟩)
    | (go_at_call 18; (with_reducible refine (d5 _).mono ?_); rintro _ _ ⟨rfl, y, rfl⟩)
    | (go_at_call 19; (with_reducible refine (d6 _).mono ?_); rintro _ _ ⟨rfl, y, rfl⟩)
    | (go_at_call 20; (with_reducible refine (d7 _).mono ?_); rintro _ _ ⟨rfl, y, rfl⟩))
  go_wp2_with fail
  obtain ⟨p0, p1, p2, q0, q1, hT⟩ := ‹_ ∧ _›
  have hC : Hid (∀ k : Nat, k < 8 → (y.at'.alloc (.cells #[.int .i64 g0, .int .i64 g1, .int .i64 g2, .int .i64 g3, .int .i64 g4, .int .i64 g5, .int .i64 g6, .int .i64 g7] 3)).cell? ⟨y.at'.heap.size, k, none⟩ = some (.int .i64 (g k))) := fun k hk => by
    rw [World.cell?_alloc_new]
    exact HG.out k hk
  have yg : y.at'.heap.size < (y.at'.alloc (.cells #[.int .i64 g0, .int .i64 g1, .int .i64 g2, .int .i64 g3, .int .i64 g4, .int .i64 g5, .int .i64 g6, .int .i64 g7] 3)).heap.size := by simp
  generalize y.at'.alloc (.cells #[.int .i64 g0, .int .i64 g1, .int .i64 g2, .int .i64 g3, .int .i64 g4, .int .i64 g5, .int .i64 g6, .int .i64 g7] 3) = W4 at p0 p1 p2 q0 q1 hT hC yg ⊢
  generalize y.at'.heap.size = gb at hC yg ⊢
  clear HG d0 d1 d2 d3 d4 d5 d6 d7 hS hD q0 q1
  have y1 := hT.s1
  go_loopw [8] (fun u wr => TlRel W4 u wr) (fun u _ => (8 - intOf u).toNat)
  case atStart => exact ⟨0, by omega, rfl, ⟨W4, Below.refl _ _⟩, rfl⟩
  case round =>
    obtain ⟨k, hk, rfl, y, rfl⟩ := hrel
    by_cases hk8 : k < 8
    · have hck := hC.out k hk8
      have cAk := cA k hk8
      generalize g k = v at hck cAk
      have i0 : (0 : Int) ≤ k := by omega
      have i1 : (k : Int) < 8 := by omega
      go_wp2_with fail
      refine wp_region_later' y (by kernel_rfl) (by kernel_rfl) ?_
      repeat (go_big_quiet_step ((go_at_call 21; (with_reducible exact later_of _ (cAk _)))))
      refine wpQuiet_nil ?_
      rintro _ ⟨z, rfl⟩
      go_wp2
      go_roundw
      case rel => exact ⟨k + 1, by omega, by go_num, z, rfl⟩
      case measure => simp [intOf]; omega
    · have hF4 : HasHead y.at' := (hF.below hT.bel).below y.below
      have hge : ¬ (k : Int) < 8 := by omega
      clear hk hk8 p0 p1 p2
      go_wp2_with (go_at_call 22; (with_reducible refine (hlive _ hF4).mono ?_); rintro _ _ ⟨rfl, z, rfl⟩)
      go_ret
      exact Ret.mk rfl ((y.on z.below).cat hT.bel hT.bel.size)
theorem tells_no (a s t n : Int) (w : World) (hlive : ∀ W, HasHead W → Calls Tryd.prog 22 #[] W (Ret W (.bool true))) (hF : HasHead w) (N : Int) (g : Nat → Int)
    (c1 : ∀ W, Calls Tryd.prog 9 #[.agg #[.int .i64 a, .int .i64 s, .int .i64 t]] W (Ret W (.tuple #[.agg #[.int .i64 0, .int .i64 0], .int .i64 1])))
    (c2 : ∀ W, Calls Tryd.prog 10 #[.agg #[.int .i64 a, .int .i64 s, .int .i64 t]] W (Ret W (.bool false)))
    (c3 : ∀ W, Calls Tryd.prog 11 #[.agg #[.int .i64 0, .int .i64 0]] W (Ret W (.int .i64 N)))
    (c4 : ∀ W, Calls Tryd.prog 12 #[.agg #[.int .i64 a, .int .i64 s, .int .i64 t]] W (Ret W (.int .i64 N)))
    (d0 : ∀ W, Calls Tryd.prog 13 #[.agg #[.int .i64 0, .int .i64 0]] W (Ret W (.int .i64 (g 0))))
    (d1 : ∀ W, Calls Tryd.prog 14 #[.agg #[.int .i64 0, .int .i64 0]] W (Ret W (.int .i64 (g 1))))
    (d2 : ∀ W, Calls Tryd.prog 15 #[.agg #[.int .i64 0, .int .i64 0]] W (Ret W (.int .i64 (g 2))))
    (d3 : ∀ W, Calls Tryd.prog 16 #[.agg #[.int .i64 0, .int .i64 0]] W (Ret W (.int .i64 (g 3))))
    (d4 : ∀ W, Calls Tryd.prog 17 #[.agg #[.int .i64 0, .int .i64 0], .int .i64 n] W (Ret W (.int .i64 (g 4))))
    (d5 : ∀ W, Calls Tryd.prog 18 #[.agg #[.int .i64 0, .int .i64 0], .int .i64 n] W (Ret W (.int .i64 (g 5))))
    (d6 : ∀ W, Calls Tryd.prog 19 #[.agg #[.int .i64 0, .int .i64 0], .int .i64 n] W (Ret W (.int .i64 (g 6))))
    (d7 : ∀ W, Calls Tryd.prog 20 #[.agg #[.int .i64 0, .int .i64 0], .int .i64 n] W (Ret W (.int .i64 (g 7))))
    (cA : ∀ (k : Nat), k < 8 → ∀ W, Calls Tryd.prog 21 #[.agg #[.int .i64 a, .int .i64 s, .int .i64 t], .int .i64 k, .int .i64 n] W (Ret W (.int .i64 (g k)))) :
    Calls Tryd.prog 3 #[.agg #[.int .i64 a, .int .i64 s, .int .i64 t], .int .i64 n] w (Ret w (.bool true)) := by
  have e1 : ∀ x : Int, (x != x) = false := fun x => by simp
  have HG : Hid (∀ k : Nat, k < 8 → (#[Value.int .i64 (g 0), .int .i64 (g 1), .int .i64 (g 2), .int .i64 (g 3), .int .i64 (g 4), .int .i64 (g 5), .int .i64 (g 6), .int .i64 (g 7)])[k]? = some (.int .i64 (g k))) := fun k hk => by
    match k, hk with
    | 0, _ | 1, _ | 2, _ | 3, _ | 4, _ | 5, _ | 6, _ | 7, _ => rfl
  generalize g 0 = g0 at d0 HG
  generalize g 1 = g1 at d1 HG
  generalize g 2 = g2 at d2 HG
  generalize g 3 = g3 at d3 HG
  generalize g 4 = g4 at d4 HG
  generalize g 5 = g5 at d5 HG
  generalize g 6 = g6 at d6 HG
  generalize g 7 = g7 at d7 HG
  go_enter Tryd.func3, Tryd.ntmps3
  go_wp2_with (go_at_call 9; (with_reducible refine (c1 _).mono ?_); rintro _ _ ⟨rfl, x1, rfl⟩)
  have hS := Two.begin (l0 := .int .i64 0) (l1 := .int .i64 0) (T2 := 25) x1
  generalize x1.at'.alloc (.cells #[.int .i64 0, .int .i64 0] 25) = W1 at hS ⊢
  generalize x1.at'.heap.size = b2 at hS ⊢
  clear x1 c1
  obtain ⟨p0, p1, p2, q0, q1, hT⟩ := hS
  have y1 := hT.s1
  have y2 := hT.s2
  refine wp_region_later (by kernel_rfl) (by kernel_rfl) ?_
  repeat (go_big_quiet_step (first
    | (go_at_call 10; (with_reducible exact later_of _ (c2 _)))
    | (go_at_call 11; (with_reducible exact later_of _ (c3 _)))
    | (go_at_call 12; (with_reducible exact later_of _ (c4 _)))))
  refine wpQuiet_nil ?_
  rintro _ ⟨x2, rfl⟩
  go_wp2_with fail
  have hS := Two.later ⟨p0, p1, p2, q0, q1, hT⟩ x2
  have hD := Two.drew hS
  clear p0 p1 p2 q0 q1 hT y1 y2 c2 c3 c4
  generalize x2.at' = W2 at hS hD ⊢
  clear x2 W1
  go_region_held3 (fun w' => w'.cell? ⟨w.heap.size, 0, none⟩ = some (.int .i64 a) ∧ w'.cell? ⟨w.heap.size, 1, none⟩ = some (.int .i64 s) ∧ w'.cell? ⟨w.heap.size, 2, none⟩ = some (.int .i64 t) ∧ w'.cell? ⟨b2, 0, none⟩ = some (.int .i64 0) ∧ w'.cell? ⟨b2, 1, none⟩ = some (.int .i64 0) ∧ Two w w.heap.size b2 w')
    (first | exact hD | assumption | exact Two.later ‹_ ∧ _› _ | exact Two.alloc ‹_ ∧ _› _) (first
    | (go_at_call 13; (with_reducible refine (d0 _).mono ?_); rintro _ _ ⟨rfl, y, rfl⟩)
    | (go_at_call 14; (with_reducible refine (d1 _).mono ?_); rintro _ _ ⟨rfl, y, rfl⟩)
    | (go_at_call 15; (with_reducible refine (d2 _).mono ?_); rintro _ _ ⟨rfl, y, rfl⟩)
    | (go_at_call 16; (with_reducible refine (d3 _).mono ?_); rintro _ _ ⟨rfl, y, rfl⟩)
    | (go_at_call 17; (with_reducible refine (d4 _).mono ?_); rintro _ _ ⟨rfl, y, rfl⟩)
    | (go_at_call 18; (with_reducible refine (d5 _).mono ?_); rintro _ _ ⟨rfl, y, rfl⟩)
    | (go_at_call 19; (with_reducible refine (d6 _).mono ?_); rintro _ _ ⟨rfl, y, rfl⟩)
    | (go_at_call 20; (with_reducible refine (d7 _).mono ?_); rintro _ _ ⟨rfl, y, rfl⟩))
  go_wp2_with fail
  obtain ⟨p0, p1, p2, q0, q1, hT⟩ := ‹_ ∧ _›
  have hC : Hid (∀ k : Nat, k < 8 → (y.at'.alloc (.cells #[.int .i64 g0, .int .i64 g1, .int .i64 g2, .int .i64 g3, .int .i64 g4, .int .i64 g5, .int .i64 g6, .int .i64 g7] 3)).cell? ⟨y.at'.heap.size, k, none⟩ = some (.int .i64 (g k))) := fun k hk => by
    rw [World.cell?_alloc_new]
    exact HG.out k hk
  have yg : y.at'.heap.size < (y.at'.alloc (.cells #[.int .i64 g0, .int .i64 g1, .int .i64 g2, .int .i64 g3, .int .i64 g4, .int .i64 g5, .int .i64 g6, .int .i64 g7] 3)).heap.size := by simp
  generalize y.at'.alloc (.cells #[.int .i64 g0, .int .i64 g1, .int .i64 g2, .int .i64 g3, .int .i64 g4, .int .i64 g5, .int .i64 g6, .int .i64 g7] 3) = W4 at p0 p1 p2 q0 q1 hT hC yg ⊢
  generalize y.at'.heap.size = gb at hC yg ⊢
  clear HG d0 d1 d2 d3 d4 d5 d6 d7 hS hD q0 q1
  have y1 := hT.s1
  go_loopw [8] (fun u wr => TlRel W4 u wr) (fun u _ => (8 - intOf u).toNat)
  case atStart => exact ⟨0, by omega, rfl, ⟨W4, Below.refl _ _⟩, rfl⟩
  case round =>
    obtain ⟨k, hk, rfl, y, rfl⟩ := hrel
    by_cases hk8 : k < 8
    · have hck := hC.out k hk8
      have cAk := cA k hk8
      generalize g k = v at hck cAk
      have i0 : (0 : Int) ≤ k := by omega
      have i1 : (k : Int) < 8 := by omega
      go_wp2_with fail
      refine wp_region_later' y (by kernel_rfl) (by kernel_rfl) ?_
      repeat (go_big_quiet_step ((go_at_call 21; (with_reducible exact later_of _ (cAk _)))))
      refine wpQuiet_nil ?_
      rintro _ ⟨z, rfl⟩
      go_wp2
      go_roundw
      case rel => exact ⟨k + 1, by omega, by go_num, z, rfl⟩
      case measure => simp [intOf]; omega
    · have hF4 : HasHead y.at' := (hF.below hT.bel).below y.below
      have hge : ¬ (k : Int) < 8 := by omega
      clear hk hk8 p0 p1 p2
      go_wp2_with (go_at_call 22; (with_reducible refine (hlive _ hF4).mono ?_); rintro _ _ ⟨rfl, z, rfl⟩)
      go_ret
      exact Ret.mk rfl ((y.on z.below).cat hT.bel hT.bel.size)

/-- What the kinds of places are, by number. -/
def tlG (t s n : Int) : Nat → Int
  | 0 => 0 | 1 => 1 | 2 => 2 | 3 => 3 | 4 => noteN t n | 5 => partN t s n 0 | 6 => partN t s n 1 | _ => partN t s n 2
theorem LayoutTells_walk {a s t n : Int} {w : World} (hlive : ∀ W, HasHead W → Calls Tryd.prog 22 #[] W (Ret W (.bool true))) (hF : HasHead w) :
    Calls Tryd.prog 3 #[.agg #[.int .i64 a, .int .i64 s, .int .i64 t], .int .i64 n] w (Ret w (.bool true)) := by
  cases h : mayC a s t
  · refine tells_no a s t n w hlive hF 0 (fun _ => -1) (fun W => Of_bad _ _ _ h W) (fun W => rMay_no h W) LWords_zero (fun W => rWords_no h W) LFrontier_zero LStack_zero LPending_zero LEpoch_zero ?_ ?_ ?_ ?_ (fun k _ W => rAt_no h k n W)
    · intro W
      have := LNote_any (t := 0) (s := 0) (by omega) (by omega) n W
      rwa [noteN_no (by omega)] at this
    · intro W
      have := LEntry_any (t := 0) (s := 0) (by omega) (by omega) (by omega) (by omega) n W
      rwa [partN_no (by omega)] at this
    · intro W
      have := LSize_any (t := 0) (s := 0) (by omega) (by omega) (by omega) (by omega) n W
      rwa [partN_no (by omega)] at this
    · intro W
      have := LLink_any (t := 0) (s := 0) (by omega) (by omega) (by omega) (by omega) n W
      rwa [partN_no (by omega)] at this
  · obtain ⟨-, -, -, h3, h4, h5, h6⟩ := mayC_iff.1 h
    refine tells_ok a s t n w hlive hF (wordsN t s) (tlG t s n) (fun W => Of_ok _ _ _ h W) (fun W => rMay_yes h W) (fun W => LWords_ok h5 h6 (by omega) h4 W) (fun W => rWords_yes h W)
      (fun W => LFrontier_ok h5 W) (fun W => LStack_ok h5 W) (fun W => LPending_ok h5 W) (fun W => LEpoch_ok h5 W) (fun W => LNote_any (by omega) h6 n W)
      (fun W => LEntry_any (by omega) h6 (by omega) h4 n W) (fun W => LSize_any (by omega) h6 (by omega) h4 n W) (fun W => LLink_any (by omega) h6 (by omega) h4 n W) ?_
    intro k hk W
    match k, hk with
    | 0, _ => exact rAt_once h 0 n (by omega) W
    | 1, _ => exact rAt_once h 1 n (by omega) W
    | 2, _ => exact rAt_once h 2 n (by omega) W
    | 3, _ => exact rAt_once h 3 n (by omega) W
    | 4, _ => exact rAt_note h n W
    | 5, _ => exact rAt_part h 0 n (by omega) (by omega) W
    | 6, _ => exact rAt_part h 1 n (by omega) (by omega) W
    | 7, _ => exact rAt_part h 2 n (by omega) (by omega) W
end Go.Proofs.YtjcndjfiogbdiaaDoor
