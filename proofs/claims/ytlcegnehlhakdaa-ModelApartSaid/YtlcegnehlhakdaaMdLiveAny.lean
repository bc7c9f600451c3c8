/-
  The sample of layer 7's statements: true in whatever world.
  Conditions: none.
-/
import Derived.Test.YtlcegnehlhakdaaMdLive
namespace Go.Proofs.Ytlcegnehlhakdaa
open Go.RowKit Go.Maps Go
attribute [local go_sem] Later.cell Later.frozen Later.lt Later.le
set_option linter.unusedVariables false
set_option linter.unusedSimpArgs false
set_option maxRecDepth 4000

theorem mdOpen {p : Prop} (h : Hid p) : p := h.out
/-- A map of the program's, which was made since w; the blocks B are no part of it. -/
def PM (w W : World) (g : Nat) (S : St) (B : List Nat) : Prop := ∃ bo bt, MapAt W g bo bt S ∧ Below w.heap.size w W ∧ (∀ b ∈ foot g bo bt, w.heap.size ≤ b) ∧ ∀ b ∈ B, b ∉ foot g bo bt ∧ b < W.heap.size
/-- The blocks B have not turned. -/
def Stay (B : List Nat) (W w' : World) : Prop := ∀ b ∈ B, w'.heap[b]? = W.heap[b]?
theorem PM.next {w W w' : World} {g : Nat} {bo bt : Option Nat} {S' : St} {B : List Nat} (hB : Below w.heap.size w W) (hF : ∀ b ∈ foot g bo bt, w.heap.size ≤ b) (hD : ∀ b ∈ B, b ∉ foot g bo bt ∧ b < W.heap.size) (h : MdPost W g bo bt S' w') : PM w w' g S' B ∧ Stay B W w' := by
  obtain ⟨bo', bt', hM, hK, hF'⟩ := h
  refine ⟨⟨bo', bt', hM, hK.below hB hF (Below.size hB), fun b hb => ?_, fun b hb => ⟨fun hb' => ?_, ?_⟩⟩, fun b hb => hK.block b (hD b hb).2 (hD b hb).1⟩
  · rcases hF' b hb with h | h
    · exact hF b h
    · exact Nat.le_trans (Below.size hB) h
  · rcases hF' b hb' with h | h
    · exact (hD b hb).1 h
    · have := (hD b hb).2; omega
  · exact Nat.lt_of_lt_of_le (hD b hb).2 hK.size
theorem PM.later {w W : World} {g : Nat} {S : St} {B : List Nat} (h : PM w W g S B) (y : Later W) : PM w y.at' g S B := by
  obtain ⟨bo, bt, hM, hB, hF, hD⟩ := h
  exact ⟨bo, bt, hM.later y, hB.trans (y.below.mono (Below.size hB)), hF, fun b hb => ⟨(hD b hb).1, Nat.lt_of_lt_of_le (hD b hb).2 y.below.size⟩⟩
theorem PM.alloc {w W : World} {g : Nat} {S : St} {B : List Nat} (h : PM w W g S B) (o : Obj) : PM w (W.alloc o) g S B := h.later ⟨_, (Below.refl _ _).alloc (Nat.le_refl _) o⟩
/-- A block that is laid behind it is no part of it. -/
theorem PM.guard {w W : World} {g : Nat} {S : St} {B : List Nat} (h : PM w W g S B) (o : Obj) : PM w (W.alloc o) g S (W.heap.size :: B) := by
  obtain ⟨bo, bt, hM, hB, hF, hD⟩ := h.alloc o
  obtain ⟨bo0, bt0, hM0, _⟩ := h
  have e0 : bo = bo0 ∧ bt = bt0 := by
    have h1 := (hM0.later ⟨_, (Below.refl _ _).alloc (Nat.le_refl _) o⟩).blk
    have h2 := hM.blk
    rw [h2] at h1
    simpa using h1
  obtain ⟨rfl, rfl⟩ := e0
  refine ⟨bo, bt, hM, hB, hF, fun b hb => ?_⟩
  rcases List.mem_cons.1 hb with rfl | hb
  · exact ⟨fun h => by have := hM0.foot_lt _ h; omega, by simp⟩
  · exact hD b hb
theorem PM.size {w W : World} {g : Nat} {S : St} {B : List Nat} (h : PM w W g S B) : Below w.heap.size w W := by
  obtain ⟨_, _, _, h, _⟩ := h
  exact h
theorem PM.try {w W : World} {g : Nat} {S : St} {B : List Nat} (h : PM w W g S B) (hG : Good S) (hN : S.L.length ≤ 1000 ∧ S.T.length ≤ 1000) (d hh off n c r : Int) (hw : (Lit.int .i64 hh).wf = true) (hwr : (Lit.int .i64 r).wf = true) :
    Calls Try.prog 16 #[.pointer (some ⟨g, 0, none⟩), .agg #[.int .i64 d, .int .i64 hh, .int .i64 off, .int .i64 n], .agg #[.int .i64 c, .int .i64 r]] W (fun en w' => en = .returned (.bool (tryB S d hh off n c r)) ∧ PM w w' g (tryS S d hh off n c r) B ∧ Stay B W w') := by
  obtain ⟨bo, bt, hM, hB, hF, hD⟩ := h
  refine (Try_any hM hG hN d hh off n c r hw hwr).mono ?_
  rintro en w' ⟨h1, h2⟩
  exact ⟨h1, PM.next hB hF hD h2⟩
theorem PM.answer {w W : World} {g : Nat} {S : St} {B : List Nat} (h : PM w W g S B) (hG : Good S) (d hh off n : Int) (hw : (Lit.int .i64 hh).wf = true) :
    Calls Try.prog 13 #[.pointer (some ⟨g, 0, none⟩), .agg #[.int .i64 d, .int .i64 hh, .int .i64 off, .int .i64 n]] W (Ret W (.tuple #[.agg #[.int .i64 (ansE S d hh off n), .int .i64 (ansN' S d hh off n)], .bool (ansH d n)])) := by
  obtain ⟨bo, bt, hM, hB, hF, hD⟩ := h
  exact Answer_any hM hG d hh off n hw
theorem PM.new (w : World) : PM w (w.alloc (.cells #[.map none, .map none] 59)) w.heap.size St.none [] :=
  ⟨none, none, New_at w, (Below.refl _ _).alloc (Nat.le_refl _) _, fun b hb => by simp [foot, mbl] at hb; omega, by simp⟩
/-- A copy: of the one and of the other nothing lies in both. -/
theorem PM.copy {w W : World} {g : Nat} {S : St} {B : List Nat} (h : PM w W g S B) : Calls Try.prog 11 #[.pointer (some ⟨g, 0, none⟩)] W (fun en w' => ∃ g' F', en = .returned (.pointer (some ⟨g', 0, none⟩)) ∧ (∃ bo bt, F' = foot g' bo bt ∧ MapAt w' g' bo bt S) ∧ PM w w' g S (F' ++ B) ∧ ∃ y : Later W, w' = y.at') := by
  obtain ⟨bo, bt, hM, hB, hF, hD⟩ := h
  refine (Copy_any hM).mono ?_
  rintro en w' ⟨g', bo', bt', rfl, hM', hB', hF'⟩
  refine ⟨g', _, rfl, ⟨bo', bt', rfl, hM'⟩, ⟨bo, bt, hM.below hB', hB.trans (hB'.mono (Below.size hB)), hF, fun b hb => ?_⟩, ⟨w', hB'⟩, rfl⟩
  rcases List.mem_append.1 hb with hb | hb
  · exact ⟨fun h => by have := hM.foot_lt b h; have := hF' b hb; omega, hM'.foot_lt b hb⟩
  · exact ⟨(hD b hb).1, Nat.lt_of_lt_of_le (hD b hb).2 hB'.size⟩
/-- What stays, stays a map. -/
theorem MapAt.stay {w w' : World} {g : Nat} {bo bt : Option Nat} {S : St} (h : MapAt w g bo bt S) (hS : Stay (foot g bo bt) w w') : MapAt w' g bo bt S := by
  refine ⟨(hS g (by simp [foot])).trans h.blk, ?_, ?_, h.both, h.apart, h.nos⟩
  · rcases h.objs with h1 | ⟨c, rfl, es, clock, hb, Ft, hs, hD⟩
    · exact .inl h1
    · exact .inr ⟨c, rfl, es, clock, (hS c (by simp [foot, mbl])).trans hb, Ft, hs, hD⟩
  · rcases h.told with h1 | ⟨c, rfl, es, clock, hb, Ft, hs, hD⟩
    · exact .inl h1
    · exact .inr ⟨c, rfl, es, clock, (hS c (by simp [foot, mbl])).trans hb, Ft, hs, hD⟩

/-! ### The sample's states -/
def hh0 : Int := 1099511627776
def lv1 : St := tryS St.none 0 0 0 4 0 1099511627776
def lv2 : St := tryS lv1 0 0 0 4 0 1099511627776
def lv3 : St := tryS lv2 3 1099511627776 3 261 0 0
def lv4 : St := tryS lv3 4 1099511627776 0 0 0 0
def lv5 : St := tryS lv4 1 1099511627776 0 0 6 0
def lv6 : St := tryS lv5 0 0 0 5 10 0
theorem gv1 : Good lv1 := Good.none.tryS _ _ _ _ _ _
theorem gv2 : Good lv2 := gv1.tryS _ _ _ _ _ _
theorem gv3 : Good lv3 := gv2.tryS _ _ _ _ _ _
theorem gv4 : Good lv4 := gv3.tryS _ _ _ _ _ _
theorem gv5 : Good lv5 := gv4.tryS _ _ _ _ _ _
theorem gv6 : Good lv6 := gv5.tryS _ _ _ _ _ _
theorem lvE : lv6.L = [⟨1099511627776, [0, 0, 0, 5], 1⟩] ∧ lv6.T = [1099511627776] := by decide +kernel
theorem lvE5 : sameB lv5 lv6 = true := by decide +kernel
theorem bv1 : tryB St.none 0 0 0 4 0 1099511627776 = true := by decide +kernel
theorem bv2 : tryB lv1 0 0 0 4 0 1099511627776 = false := by decide +kernel
theorem bv3 : tryB lv2 3 1099511627776 3 261 0 0 = true := by decide +kernel
theorem av3 : ansE lv3 2 1099511627776 3 0 = 0 ∧ ansN' lv3 2 1099511627776 3 0 = 5 ∧ ansH 2 0 = true := by decide +kernel
theorem av4 : ansE lv3 0 0 0 4 = 0 ∧ ansN' lv3 0 0 0 4 = 0 ∧ ansH 0 4 = false := by decide +kernel
theorem bv4 : tryB lv3 4 1099511627776 0 0 0 0 = true := by decide +kernel
theorem bv5 : tryB lv4 1 1099511627776 0 0 6 0 = true := by decide +kernel
theorem bv6 : tryB lv5 0 0 0 5 10 0 = true := by decide +kernel

theorem t1 {w : World} {B : List Nat} (W : World) (g : Nat) (h : PM w W g St.none B) : Calls Try.prog 16 #[.pointer (some ⟨g, 0, none⟩), .agg #[.int .i64 0, .int .i64 0, .int .i64 0, .int .i64 4], .agg #[.int .i64 0, .int .i64 1099511627776]] W (fun en w' => en = .returned (.bool true) ∧ PM w w' g lv1 B ∧ Stay B W w') := bv1 ▸ h.try Good.none (by decide) 0 0 0 4 0 1099511627776 rfl rfl
theorem t2 {w : World} {B : List Nat} (W : World) (g : Nat) (h : PM w W g lv1 B) : Calls Try.prog 16 #[.pointer (some ⟨g, 0, none⟩), .agg #[.int .i64 0, .int .i64 0, .int .i64 0, .int .i64 4], .agg #[.int .i64 0, .int .i64 1099511627776]] W (fun en w' => en = .returned (.bool false) ∧ PM w w' g lv2 B ∧ Stay B W w') := bv2 ▸ h.try gv1 (by decide +kernel) 0 0 0 4 0 1099511627776 rfl rfl
theorem t3 {w : World} {B : List Nat} (W : World) (g : Nat) (h : PM w W g lv2 B) : Calls Try.prog 16 #[.pointer (some ⟨g, 0, none⟩), .agg #[.int .i64 3, .int .i64 1099511627776, .int .i64 3, .int .i64 261], .agg #[.int .i64 0, .int .i64 0]] W (fun en w' => en = .returned (.bool true) ∧ PM w w' g lv3 B ∧ Stay B W w') := bv3 ▸ h.try gv2 (by decide +kernel) 3 1099511627776 3 261 0 0 rfl rfl
theorem t4 {w : World} {B : List Nat} (W : World) (g : Nat) (h : PM w W g lv3 B) : Calls Try.prog 16 #[.pointer (some ⟨g, 0, none⟩), .agg #[.int .i64 4, .int .i64 1099511627776, .int .i64 0, .int .i64 0], .agg #[.int .i64 0, .int .i64 0]] W (fun en w' => en = .returned (.bool true) ∧ PM w w' g lv4 B ∧ Stay B W w') := bv4 ▸ h.try gv3 (by decide +kernel) 4 1099511627776 0 0 0 0 rfl rfl
theorem t5 {w : World} {B : List Nat} (W : World) (g : Nat) (h : PM w W g lv4 B) : Calls Try.prog 16 #[.pointer (some ⟨g, 0, none⟩), .agg #[.int .i64 1, .int .i64 1099511627776, .int .i64 0, .int .i64 0], .agg #[.int .i64 6, .int .i64 0]] W (fun en w' => en = .returned (.bool true) ∧ PM w w' g lv5 B ∧ Stay B W w') := bv5 ▸ h.try gv4 (by decide +kernel) 1 1099511627776 0 0 6 0 rfl rfl
theorem t6 {w : World} {B : List Nat} (W : World) (g : Nat) (h : PM w W g lv5 B) : Calls Try.prog 16 #[.pointer (some ⟨g, 0, none⟩), .agg #[.int .i64 0, .int .i64 0, .int .i64 0, .int .i64 5], .agg #[.int .i64 10, .int .i64 0]] W (fun en w' => en = .returned (.bool true) ∧ PM w w' g lv6 B ∧ Stay B W w') := bv6 ▸ h.try gv5 (by decide +kernel) 0 0 0 5 10 0 rfl rfl
theorem a3 {w : World} {B : List Nat} (W : World) (g : Nat) (h : PM w W g lv3 B) : Calls Try.prog 13 #[.pointer (some ⟨g, 0, none⟩), .agg #[.int .i64 2, .int .i64 1099511627776, .int .i64 3, .int .i64 0]] W (Ret W (.tuple #[.agg #[.int .i64 0, .int .i64 5], .bool true])) := by
  have := h.answer gv3 2 1099511627776 3 0 rfl
  rw [av3.1, av3.2.1, av3.2.2] at this
  exact this
theorem a4 {w : World} {B : List Nat} (W : World) (g : Nat) (h : PM w W g lv3 B) : Calls Try.prog 13 #[.pointer (some ⟨g, 0, none⟩), .agg #[.int .i64 0, .int .i64 0, .int .i64 0, .int .i64 4]] W (Ret W (.tuple #[.agg #[.int .i64 0, .int .i64 0], .bool false])) := by
  have := h.answer gv3 0 0 0 4 rfl
  rw [av4.1, av4.2.1, av4.2.2] at this
  exact this

theorem MapAt.alloc {w : World} {g : Nat} {bo bt : Option Nat} {S : St} (h : MapAt w g bo bt S) (o : Obj) : MapAt (w.alloc o) g bo bt S := h.later ⟨_, (Below.refl _ _).alloc (Nat.le_refl _) o⟩
theorem live_q {w3 w4 w5 w7 : World} (y3 : Later w3) {B : List Nat} (y4 : Later (y3.at'.alloc (.cells #[.int .i64 0, .int .i64 5] 35))) (y6 : Later w5) {o : Obj}
    (s4 : Stay [y3.at'.heap.size] (y4.at'.alloc o) w4) (s5 : Stay [y3.at'.heap.size] w4 w5) (s7 : Stay (B ++ [y3.at'.heap.size]) y6.at' w7) :
    w7.cell? ⟨y3.at'.heap.size, 0, none⟩ = some (.int .i64 0) ∧ w7.cell? ⟨y3.at'.heap.size, 1, none⟩ = some (.int .i64 5) := by
  have h0 := heap_alloc_new y3.at' (.cells #[.int .i64 0, .int .i64 5] 35)
  have hlt : y3.at'.heap.size < (y3.at'.alloc (.cells #[.int .i64 0, .int .i64 5] 35)).heap.size := by simp
  have h1 := (y4.below.block _ hlt).trans h0
  have hlt1 : y3.at'.heap.size < y4.at'.heap.size := Nat.lt_of_lt_of_le hlt y4.below.size
  have h2 := (((Below.refl y4.at'.heap.size y4.at').alloc (Nat.le_refl _) o).block _ hlt1).trans h1
  have h5 := ((s5 _ (by simp)).trans (s4 _ (by simp))).trans h2
  have hlt5 : y3.at'.heap.size < w5.heap.size := (Array.getElem?_eq_some_iff.1 h5).1
  have h7 := ((s7 _ (by simp)).trans (y6.below.block _ hlt5)).trans h5
  exact ⟨by simp [World.cell?, h7], by simp [World.cell?, h7]⟩
theorem live_same {w : World} {g g' : Nat} {bo bt bo' bt' : Option Nat} (h : MapAt w g bo bt lv5) (h' : MapAt w g' bo' bt' lv6) : Calls Try.prog 25 #[.pointer (some ⟨g, 0, none⟩), .pointer (some ⟨g', 0, none⟩)] w (Ret w (.bool true)) := lvE5 ▸ Same_any h h' gv5 gv6
theorem lvL : liveL lv6 = [1099511627776] := by decide +kernel
theorem lvB : intsOf (obS (getO lv6.L 1099511627776)) = [0, 0, 0, 5] := by decide +kernel
theorem lvP : obP (getO lv6.L 1099511627776) = 1 := by decide +kernel
theorem live_live {w : World} {g : Nat} {bo bt : Option Nat} (h : MapAt w g bo bt lv6) : Calls Try.prog 19 #[.pointer (some ⟨g, 0, none⟩)] w (IntsRet w [1099511627776]) := lvL ▸ Live_any h gv6 (by decide +kernel)
theorem live_bytes {w : World} {g : Nat} {bo bt : Option Nat} (h : MapAt w g bo bt lv6) : Calls Try.prog 21 #[.pointer (some ⟨g, 0, none⟩), .int .i64 1099511627776] w (IntsRet w [0, 0, 0, 5]) := lvB ▸ Bytes_any h gv6 1099511627776 rfl
theorem live_pins {w : World} {g : Nat} {bo bt : Option Nat} (h : MapAt w g bo bt lv6) : Calls Try.prog 23 #[.pointer (some ⟨g, 0, none⟩), .int .i64 1099511627776] w (Ret w (.int .i64 1)) := lvP ▸ Pins_any h 1099511627776 rfl
theorem row1 (w : World) (T : TypeId) : IntsP (w.alloc (.cells #[.int .i64 1099511627776] T)) (some ⟨w.heap.size, 0, none⟩) [1099511627776] := fun j hj => by
  refine ⟨w.heap.size, rfl, by simp, ?_⟩
  rw [World.cell?_alloc_new]
  match j, hj with
  | 0, _ => rfl
theorem row4 (w : World) (T : TypeId) : IntsP (w.alloc (.cells #[.int .i64 0, .int .i64 0, .int .i64 0, .int .i64 5] T)) (some ⟨w.heap.size, 0, none⟩) [0, 0, 0, 5] := fun j hj => by
  refine ⟨w.heap.size, rfl, by simp, ?_⟩
  rw [World.cell?_alloc_new]
  match j, hj with
  | 0, _ | 1, _ | 2, _ | 3, _ => rfl
theorem Ints.slice'' {w : World} {base : Nat} {v : Value} {l : List Int} (n : Nat) (hn : l.length = n) (h : Ints w base v l) : ∃ p c, v = .slice p n c ∧ IntsP w p l := by
  subst hn
  exact h.slice
theorem iSame1 {p1 p2 : Option Addr} {c1 c2 : Nat} {w : World} {x : Int} (h1 : IntsP w p1 [x]) (h2 : IntsP w p2 [x]) : Calls Try.prog 18 #[.slice p1 1 c1, .slice p2 1 c2] w (Ret w (.bool true)) := iSame_any rfl (by omega) h1 h2
theorem iSame4' {p1 p2 : Option Addr} {c1 c2 : Nat} {w : World} {a b c d : Int} (h1 : IntsP w p1 [a, b, c, d]) (h2 : IntsP w p2 [a, b, c, d]) : Calls Try.prog 18 #[.slice p1 4 c1, .slice p2 4 c2] w (Ret w (.bool true)) := iSame_any rfl (by omega) h1 h2

set_option maxHeartbeats 4000000 in
theorem live_any (w : World) : Calls Try.prog 9 #[] w (Ret w (.bool true)) := by
  have cm := fun W => refMake_any 0 0 W
  have em : mkV 0 0 = 1099511627776 := by decide +kernel
  have ee : mkE 0 0 = 0 := by decide +kernel
  rw [em, ee] at cm
  clear em ee
  go_enter Try.func9, Try.ntmps9
  go_wp2_with (first
    | (go_at_call 10; (with_reducible refine (New_any _).mono ?_); rintro _ _ ⟨rfl, rfl⟩)
    | (go_at_call 27; (with_reducible refine (cm _).mono ?_); rintro _ _ ⟨rfl, rfl⟩; have P0 := PM.new w)
    | (go_at_call 16; (with_reducible refine (t1 _ _ (by assumption)).mono ?_); rintro _ w1 ⟨rfl, P1, _⟩)
    | (go_at_call 16; (with_reducible refine (t2 _ _ (by assumption)).mono ?_); rintro _ w2 ⟨rfl, P2, _⟩)
    | (go_at_call 16; (with_reducible refine (t3 _ _ (by assumption)).mono ?_); rintro _ w3 ⟨rfl, P3, _⟩)
    | (go_at_call 13; (with_reducible refine (a3 _ _ P3).mono ?_); rintro _ _ ⟨rfl, y3, rfl⟩; have P3a := (P3.later y3).guard (.cells #[.int .i64 0, .int .i64 5] 35))
    | (go_at_call 13; (with_reducible refine (a4 _ _ P3a).mono ?_); rintro _ _ ⟨rfl, y4, rfl⟩; have P3b := (P3a.later y4).alloc (.cells #[.int .i64 0, .int .i64 0] 35))
    | (go_at_call 16; (with_reducible refine (t4 _ _ P3b).mono ?_); rintro _ w4 ⟨rfl, P4, s4⟩)
    | (go_at_call 16; (with_reducible refine (t5 _ _ P4).mono ?_); rintro _ w5 ⟨rfl, P5, s5⟩)
    | (go_at_call 11; (with_reducible refine P5.copy.mono ?_); rintro _ _ ⟨gx, Fx, rfl, ⟨box, btx, rfl, Mx⟩, P6, y6, rfl⟩)
    | (go_at_call 16; (with_reducible refine (t6 _ _ P6).mono ?_); rintro _ w7 ⟨rfl, P7, s7⟩; have q7 := live_q y3 y4 y6 s4 s5 s7; obtain ⟨q70, q71⟩ := q7; obtain ⟨bo7, bt7, M7, B7, F7, D7⟩ := P7; have Mx7 := Mx.stay (fun b hb => s7 b (List.mem_append_left _ hb)))
    | (go_at_call 25; (with_reducible refine (live_same Mx7 M7).mono ?_); rintro _ _ ⟨rfl, y8, rfl⟩; have M8 := M7.later y8)
    | (go_at_call 19; (with_reducible refine (live_live M8).mono ?_); rintro _ _ ⟨v9, rfl, y9, rfl, hO9⟩; obtain ⟨p9, k9, rfl, hI9⟩ := hO9.slice'' 1 rfl; have M9 := (M8.later y9).alloc (.cells #[.int .i64 1099511627776] 3))
    | (go_at_call 18; (with_reducible refine (iSame1 (hI9.alloc _) (row1 _ _)).mono ?_); rintro _ _ ⟨rfl, y10, rfl⟩; have M10 := M9.later y10)
    | (go_at_call 21; (with_reducible refine (live_bytes M10).mono ?_); rintro _ _ ⟨v11, rfl, y11, rfl, hO11⟩; obtain ⟨p11, k11, rfl, hI11⟩ := hO11.slice'' 4 rfl; have M11 := (M10.later y11).alloc (.cells #[.int .i64 0, .int .i64 0, .int .i64 0, .int .i64 5] 3))
    | (go_at_call 18; (with_reducible refine (iSame4' (hI11.alloc _) (row4 _ _)).mono ?_); rintro _ _ ⟨rfl, y12, rfl⟩; have M12 := M11.later y12)
    | (go_at_call 23; (with_reducible refine (live_pins M12).mono ?_); rintro _ _ ⟨rfl, y13, rfl⟩))
  go_ret
  exact Ret.mk rfl (Snc.later (Snc.later (Snc.alloc (Snc.later (Snc.later (Snc.alloc (Snc.later (Snc.later (show Snc w w7 from B7) y8) y9) _) y10) y11) _) y12) y13)
end Go.Proofs.Ytlcegnehlhakdaa
