/-
  Copy of plain cells: other cells, like these.
  Conditions: that the cells lie in memory as a struct, its words and its bytes.
-/
import Derived.Test.YtnojemmpgaibkaaDoorPlain
import Derived.RegionTactic
import Derived.Deep.RegionHeld3
namespace Go.Proofs.YtnojemmpgaibkaaDoor
open Go.RowKit
attribute [local go_sem] Later.cell Later.frozen Later.lt Later.le Turned.cell_lo Turned.cell_hi Turned.frozen_lo Turned.frozen_hi Turned.lt Turned.le
set_option linter.unusedVariables false

/-- A copy into a whole row, as one step of a region that draws its order: of what was there nothing turns but that row, which is the source's then. -/
theorem step_copy_turn {P : Program} {ops : Array Oper} {o : Oper} {a : Act} {w : World} {K : Act → World → Prop} {Q : Exit → Act → World → Prop} {E : Prop} (hgd : o.guard = none) (d s : Operand) (dT sT : TypeId)
    (ho : o.op = .call { callee := .builtin .copy, args := #[d, s], argTypes := #[dT, sT] }) (elem : TypeId) (hu : P.underlying dT = some (.slice elem)) (hsz : (P.info? elem).map (·.size) = some 1)
    (g : Nat) (ad : Addr) (n : Nat) (hd : a.eval d = .slice (some ⟨g, 0, none⟩) n n) (hs : a.eval s = .slice (some ad) n n)
    (f0 f : Nat → Value) (t : TypeId) (hg : w.rowIs g t n f0) (hsrc : ∀ j, j < n → w.cell? (ad.add j) = some (f j)) (h1 : ∀ j, (f j).oneCell' = true)
    (h : ∀ x : Turned g (g + 1) w, x.at'.rowIs g t n f → K (a.put o.dst (goInt n)) x.at') :
    if Region.wanted o (yielded ops a.tmps) = true then Oper.wp P o a w K Q else E := by
  obtain ⟨c, hc, hcn, _⟩ := hg
  have hw : Region.wanted o (yielded ops a.tmps) = true := by simp [Region.wanted, hgd]
  rw [if_pos hw]
  obtain ⟨W', hrun, hT, hR⟩ : ∃ W', (Builtin.copy_ #[dT, sT] o.type #[.slice (some ⟨g, 0, none⟩) n n, .slice (some ad) n n]).run P w = .ok (goInt n) W' ∧ Touch g (g + 1) w W' ∧ W'.rowIs g t n f := by
    have hlen : ((List.range n).map f).length = n := by simp
    have hrun := run_copy_row (P := P) w dT sT o.type elem g 0 n n ad n n c t ((List.range n).map f) hu hsz hc (by simp) (fun j v hj => by
      have hjn : j < n := by have := (List.getElem?_eq_some_iff.1 hj).1; simpa using this
      rw [hsrc j hjn]
      simpa [hjn] using hj) (by simp [hcn]) (fun v hv => by
      obtain ⟨j, _, rfl⟩ := List.mem_map.1 hv
      exact h1 j)
    rw [hlen] at hrun
    exact ⟨_, hrun, ⟨rfl, rfl, rfl, by simp [World.setRow], fun k _ hs => setRow_other _ _ _ _ (by omega)⟩, ⟨_, setRow_heap w g c _ t (0, 0) hc, by simp [hcn], fun i hi => by
      have e : c.toList.drop n = [] := List.drop_eq_nil_of_le (by simp [hcn])
      simp [e, hi]⟩⟩
  have hk := h ⟨W', hT⟩ hR
  unfold Oper.wp
  simp [execOp, ho, resolve, invoke, builtin, hd, hs, hrun, Result.andThen]
  exact hk

/-- Three new blocks: a struct, words and bytes that are 0. -/
structure Three (w W : World) (p q r a b : Nat) (n : Int) : Prop where
  bel : Below w.heap.size w W
  hp : W.heap[p]? = some (.cells #[.slice (some ⟨q, 0, none⟩) a a, .slice (some ⟨r, 0, none⟩) b b, .int .i64 n] 90 (0, 0))
  hq : W.rowIs q 3 a (fun _ => .int .i64 0)
  hr : W.rowIs r 5 b (fun _ => .int .u8 0)
  lq : w.heap.size ≤ q
  lr : w.heap.size ≤ r
  qp : q < p
  rp : r < p
  qr : q ≠ r
  sp : p < W.heap.size

theorem Three.mk1 (w : World) (a b : Nat) (n : Int) : Three w (((w.alloc (.cells (madeCells #[.int .i64 0] a) 3)).alloc (.cells (madeCells #[.int .u8 0] b) 5)).alloc
        (.cells #[.slice (some ⟨w.heap.size, 0, none⟩) a a, .slice (some ⟨w.heap.size + 1, 0, none⟩) b b, .int .i64 n] 90)).drew (w.heap.size + 1 + 1) w.heap.size (w.heap.size + 1) a b n :=
  { bel := (((((Below.refl _ _).alloc (Nat.le_refl _) _).alloc (by simp) _).alloc (by simp; omega) _).drew)
    hp := by
      have := Go.Deep.blk_alloc_new ((w.alloc (.cells (madeCells #[.int .i64 0] a) 3)).alloc (.cells (madeCells #[.int .u8 0] b) 5)) (.cells #[.slice (some ⟨w.heap.size, 0, none⟩) a a, .slice (some ⟨w.heap.size + 1, 0, none⟩) b b, .int .i64 n] 90)
      simp only [World.size_alloc] at this
      exact this
    hq := ((World.rowIs_made w (.int .i64 0) a 3).alloc _).alloc _
    hr := by
      have := World.rowIs_made (w.alloc (.cells (madeCells #[.int .i64 0] a) 3)) (.int .u8 0) b 5
      simp only [World.size_alloc] at this
      exact this.alloc _
    lq := Nat.le_refl _, lr := Nat.le_succ _, qp := by omega, rp := by omega, qr := by omega, sp := by simp only [World.size_drew, World.size_alloc]; omega }
theorem Three.mk2 (w : World) (a b : Nat) (n : Int) : Three w (((w.alloc (.cells (madeCells #[.int .u8 0] b) 5)).alloc (.cells (madeCells #[.int .i64 0] a) 3)).alloc
        (.cells #[.slice (some ⟨w.heap.size + 1, 0, none⟩) a a, .slice (some ⟨w.heap.size, 0, none⟩) b b, .int .i64 n] 90)).drew (w.heap.size + 1 + 1) (w.heap.size + 1) w.heap.size a b n :=
  { bel := (((((Below.refl _ _).alloc (Nat.le_refl _) _).alloc (by simp) _).alloc (by simp; omega) _).drew)
    hp := by
      have := Go.Deep.blk_alloc_new ((w.alloc (.cells (madeCells #[.int .u8 0] b) 5)).alloc (.cells (madeCells #[.int .i64 0] a) 3)) (.cells #[.slice (some ⟨w.heap.size + 1, 0, none⟩) a a, .slice (some ⟨w.heap.size, 0, none⟩) b b, .int .i64 n] 90)
      simp only [World.size_alloc] at this
      exact this
    hq := by
      have := World.rowIs_made (w.alloc (.cells (madeCells #[.int .u8 0] b) 5)) (.int .i64 0) a 3
      simp only [World.size_alloc] at this
      exact this.alloc _
    hr := ((World.rowIs_made w (.int .u8 0) b 5).alloc _).alloc _
    lq := Nat.le_succ _, lr := Nat.le_refl _, qp := by omega, rp := by omega, qr := by omega, sp := by simp only [World.size_drew, World.size_alloc]; omega }

section
variable {A : PAt} {ws bs : List Int} {n : Int} {w : World}
theorem Copy_any (hM : Mem w A ws bs n) : Calls Tryd.prog 36 #[.pointer (some ⟨A.p, 0, none⟩)] w (Made w ws bs n) := by
  obtain ⟨p, q, r, lo, hi⟩ := A
  have c0 := hM.c0
  have c1 := hM.c1
  have c2 := hM.c2
  have hp : p < w.heap.size := Nat.lt_of_lt_of_le hM.up hM.hs
  have hm1 := run_make_row' (P := Tryd.prog) 22 3 (.int .i64 0) 8 Tryd.underlying22 info_int rfl .i64 .i64 ws.length (by have := hM.ml; omega) (by have := hM.ml; omega)
  have hm2 := run_make_row' (P := Tryd.prog) 88 5 (.int .u8 0) 1 Tryd.underlying88 info_u8 rfl .i64 .i64 bs.length (by have := hM.bl; omega) (by have := hM.bl; omega)
  dsimp only at c0 c1 c2
  go_enter Tryd.func36, Tryd.ntmps36
  go_wp2
  go_region
  · have hT := Three.mk1 w ws.length bs.length n
    go_wp2_with fail
    revert hT
    generalize (((w.alloc (.cells (madeCells #[.int .i64 0] ws.length) 3)).alloc (.cells (madeCells #[.int .u8 0] bs.length) 5)).alloc (.cells #[.slice (some ⟨w.heap.size, 0, none⟩) ws.length ws.length, .slice (some ⟨w.heap.size + 1, 0, none⟩) bs.length bs.length, .int .i64 n] 90)).drew = W
    generalize w.heap.size + 1 + 1 = p2
    generalize w.heap.size + 1 = r2
    generalize w.heap.size = q2
    intro hT
    have s0 : W.cell? ⟨p, 0, none⟩ = some (.slice (some ⟨q, 0, none⟩) ws.length ws.length) := (hT.bel.cell (p := ⟨p, 0, none⟩) hp).trans c0
    have s1 : W.cell? ⟨p, 1, none⟩ = some (.slice (some ⟨r, 0, none⟩) bs.length bs.length) := (hT.bel.cell (p := ⟨p, 1, none⟩) hp).trans c1
    have d0 : W.cell? ⟨p2, 0, none⟩ = some (.slice (some ⟨q2, 0, none⟩) ws.length ws.length) := by simp [World.cell?, hT.hp]
    have d1 : W.cell? ⟨p2, 1, none⟩ = some (.slice (some ⟨r2, 0, none⟩) bs.length bs.length) := by simp [World.cell?, hT.hp]
    have HT := Lib.hid hT
    have HM := Lib.hid (hM.below hT.bel hM.hs)
    have l1 : p < q2 := Nat.lt_of_lt_of_le hp hT.lq
    have l2 : p < r2 := Nat.lt_of_lt_of_le hp hT.lr
    have l3 : q2 < p2 := hT.qp
    have l4 : r2 < p2 := hT.rp
    have l5 : p2 < W.heap.size := hT.sp
    have l6 : p < W.heap.size := by omega
    have k5 : p2 < W.drew.heap.size := l5
    have k6 : p < W.drew.heap.size := l6
    have e0 : W.drew.cell? ⟨p, 0, none⟩ = some (.slice (some ⟨q, 0, none⟩) ws.length ws.length) := s0
    have e1 : W.drew.cell? ⟨p2, 0, none⟩ = some (.slice (some ⟨q2, 0, none⟩) ws.length ws.length) := d0
    clear hT c0 c1 c2 hm1 hm2
    go_region_held3 (fun w' => w'.cell? ⟨p, 0, none⟩ = some (.slice (some ⟨q, 0, none⟩) ws.length ws.length) ∧ w'.cell? ⟨p2, 0, none⟩ = some (.slice (some ⟨q2, 0, none⟩) ws.length ws.length))
      (first | exact ⟨s0, d0⟩ | exact ⟨(Turned.cell_lo _ _ _ _ k6 l1).trans e0, (Turned.cell_hi _ _ _ _ k5 l3).trans e1⟩)
      (first | (refine step_copy_turn rfl (.tmp 27) (.tmp 31) 22 22 rfl 3 Tryd.underlying22 (by kernel_rfl) q2 ⟨q, 0, none⟩ ws.length rfl rfl _ (fun i => .int .i64 (ws.getD i 0)) _ HT.out.hq (fun j hj => by rw [Addr.add_lit, Nat.zero_add]; exact HM.out.wordAt j hj) (fun _ => rfl) ?_; intro x hx))
    go_wp2_with fail
    have hiq : hi ≤ q2 := Nat.le_trans hM.hs HT.out.lq
    have HMx := HM.out.drew.touch x.turn (Or.inl hiq)
    have hrx : x.at'.rowIs r2 5 bs.length (fun _ => .int .u8 0) := HT.out.hr.of_block (x.turn.block r2 (by show r2 < W.heap.size; omega) (by have := HT.out.qr; omega))
    have n1 : p2 < x.at'.drew.heap.size := x.lt _ k5
    have n2 : p < x.at'.drew.heap.size := x.lt _ k6
    have x0 : x.at'.cell? ⟨p, 1, none⟩ = some (.slice (some ⟨r, 0, none⟩) bs.length bs.length) := (x.cell_lo _ _ _ k6 l1).trans s1
    have x1 : x.at'.cell? ⟨p2, 1, none⟩ = some (.slice (some ⟨r2, 0, none⟩) bs.length bs.length) := (x.cell_hi _ _ _ k5 l3).trans d1
    have y0 : x.at'.drew.cell? ⟨p, 1, none⟩ = some (.slice (some ⟨r, 0, none⟩) bs.length bs.length) := x0
    have y1 : x.at'.drew.cell? ⟨p2, 1, none⟩ = some (.slice (some ⟨r2, 0, none⟩) bs.length bs.length) := x1
    have HX := Lib.hid hx
    have HR := Lib.hid hrx
    have HMX := Lib.hid HMx
    clear s0 s1 d0 d1 e0 e1 HMx hrx hx
    go_region_held3 (fun w' => w'.cell? ⟨p, 1, none⟩ = some (.slice (some ⟨r, 0, none⟩) bs.length bs.length) ∧ w'.cell? ⟨p2, 1, none⟩ = some (.slice (some ⟨r2, 0, none⟩) bs.length bs.length))
      (first | exact ⟨x0, x1⟩ | exact ⟨(Turned.cell_lo _ _ _ _ n2 l2).trans y0, (Turned.cell_hi _ _ _ _ n1 l4).trans y1⟩)
      (first | (refine step_copy_turn rfl (.tmp 36) (.tmp 40) 88 88 rfl 5 Tryd.underlying88 (by kernel_rfl) r2 ⟨r, 0, none⟩ bs.length rfl rfl _ (fun i => .int .u8 (bs.getD i 0)) _ HR.out (fun j hj => by rw [Addr.add_lit, Nat.zero_add]; exact HMX.out.byteAt j hj) (fun _ => rfl) ?_; intro y hy))
    go_wp2
    go_ret
    have b1 : Touch q2 (q2 + 1) W x.at' := (Touch.refl _ _ _).drew.trans x.turn
    have b2 : Touch r2 (r2 + 1) x.at' y.at' := (Touch.refl _ _ _).drew.trans y.turn
    have hsz : p2 < y.at'.heap.size := Nat.lt_of_lt_of_le l5 (Nat.le_trans b1.size b2.size)
    have hbb : Below w.heap.size w y.at' := b2.below (b1.below HT.out.bel HT.out.lq HT.out.bel.size) HT.out.lr (Nat.le_trans HT.out.bel.size b1.size)
    refine ⟨⟨p2, q2, r2, w.heap.size, y.at'.heap.size⟩, rfl, Nat.le_refl _, ⟨_, hbb⟩, rfl, ?_⟩
    have q3 := HT.out.lq
    have q4 := HT.out.lr
    have q5 := HT.out.qr
    refine Mem.lay (t := 90) (kw := ws.length) (kb := bs.length) ?_ rfl rfl ?_ hy ⟨by omega, by omega, by omega, hsz, by omega, by omega, Nat.le_refl _, by omega, by omega, q5⟩ hM.ml hM.bl hM.br
    · rw [b2.block p2 (Nat.lt_of_lt_of_le l5 b1.size) (by omega), b1.block p2 l5 (by omega)]
      exact HT.out.hp
    · exact HX.out.of_block (b2.block q2 (Nat.lt_of_lt_of_le (by omega) b1.size) (by omega))
  · have hT := Three.mk2 w ws.length bs.length n
    go_wp2_with fail
    revert hT
    generalize (((w.alloc (.cells (madeCells #[.int .u8 0] bs.length) 5)).alloc (.cells (madeCells #[.int .i64 0] ws.length) 3)).alloc (.cells #[.slice (some ⟨w.heap.size + 1, 0, none⟩) ws.length ws.length, .slice (some ⟨w.heap.size, 0, none⟩) bs.length bs.length, .int .i64 n] 90)).drew = W
    generalize w.heap.size + 1 + 1 = p2
    generalize w.heap.size + 1 = q2
    generalize w.heap.size = r2
    intro hT
    have s0 : W.cell? ⟨p, 0, none⟩ = some (.slice (some ⟨q, 0, none⟩) ws.length ws.length) := (hT.bel.cell (p := ⟨p, 0, none⟩) hp).trans c0
    have s1 : W.cell? ⟨p, 1, none⟩ = some (.slice (some ⟨r, 0, none⟩) bs.length bs.length) := (hT.bel.cell (p := ⟨p, 1, none⟩) hp).trans c1
    have d0 : W.cell? ⟨p2, 0, none⟩ = some (.slice (some ⟨q2, 0, none⟩) ws.length ws.length) := by simp [World.cell?, hT.hp]
    have d1 : W.cell? ⟨p2, 1, none⟩ = some (.slice (some ⟨r2, 0, none⟩) bs.length bs.length) := by simp [World.cell?, hT.hp]
    have HT := Lib.hid hT
    have HM := Lib.hid (hM.below hT.bel hM.hs)
    have l1 : p < q2 := Nat.lt_of_lt_of_le hp hT.lq
    have l2 : p < r2 := Nat.lt_of_lt_of_le hp hT.lr
    have l3 : q2 < p2 := hT.qp
    have l4 : r2 < p2 := hT.rp
    have l5 : p2 < W.heap.size := hT.sp
    have l6 : p < W.heap.size := by omega
    have k5 : p2 < W.drew.heap.size := l5
    have k6 : p < W.drew.heap.size := l6
    have e0 : W.drew.cell? ⟨p, 0, none⟩ = some (.slice (some ⟨q, 0, none⟩) ws.length ws.length) := s0
    have e1 : W.drew.cell? ⟨p2, 0, none⟩ = some (.slice (some ⟨q2, 0, none⟩) ws.length ws.length) := d0
    clear hT c0 c1 c2 hm1 hm2
    go_region_held3 (fun w' => w'.cell? ⟨p, 0, none⟩ = some (.slice (some ⟨q, 0, none⟩) ws.length ws.length) ∧ w'.cell? ⟨p2, 0, none⟩ = some (.slice (some ⟨q2, 0, none⟩) ws.length ws.length))
      (first | exact ⟨s0, d0⟩ | exact ⟨(Turned.cell_lo _ _ _ _ k6 l1).trans e0, (Turned.cell_hi _ _ _ _ k5 l3).trans e1⟩)
      (first | (refine step_copy_turn rfl (.tmp 27) (.tmp 31) 22 22 rfl 3 Tryd.underlying22 (by kernel_rfl) q2 ⟨q, 0, none⟩ ws.length rfl rfl _ (fun i => .int .i64 (ws.getD i 0)) _ HT.out.hq (fun j hj => by rw [Addr.add_lit, Nat.zero_add]; exact HM.out.wordAt j hj) (fun _ => rfl) ?_; intro x hx))
    go_wp2_with fail
    have hiq : hi ≤ q2 := Nat.le_trans hM.hs HT.out.lq
    have HMx := HM.out.drew.touch x.turn (Or.inl hiq)
    have hrx : x.at'.rowIs r2 5 bs.length (fun _ => .int .u8 0) := HT.out.hr.of_block (x.turn.block r2 (by show r2 < W.heap.size; omega) (by have := HT.out.qr; omega))
    have n1 : p2 < x.at'.drew.heap.size := x.lt _ k5
    have n2 : p < x.at'.drew.heap.size := x.lt _ k6
    have x0 : x.at'.cell? ⟨p, 1, none⟩ = some (.slice (some ⟨r, 0, none⟩) bs.length bs.length) := (x.cell_lo _ _ _ k6 l1).trans s1
    have x1 : x.at'.cell? ⟨p2, 1, none⟩ = some (.slice (some ⟨r2, 0, none⟩) bs.length bs.length) := (x.cell_hi _ _ _ k5 l3).trans d1
    have y0 : x.at'.drew.cell? ⟨p, 1, none⟩ = some (.slice (some ⟨r, 0, none⟩) bs.length bs.length) := x0
    have y1 : x.at'.drew.cell? ⟨p2, 1, none⟩ = some (.slice (some ⟨r2, 0, none⟩) bs.length bs.length) := x1
    have HX := Lib.hid hx
    have HR := Lib.hid hrx
    have HMX := Lib.hid HMx
    clear s0 s1 d0 d1 e0 e1 HMx hrx hx
    go_region_held3 (fun w' => w'.cell? ⟨p, 1, none⟩ = some (.slice (some ⟨r, 0, none⟩) bs.length bs.length) ∧ w'.cell? ⟨p2, 1, none⟩ = some (.slice (some ⟨r2, 0, none⟩) bs.length bs.length))
      (first | exact ⟨x0, x1⟩ | exact ⟨(Turned.cell_lo _ _ _ _ n2 l2).trans y0, (Turned.cell_hi _ _ _ _ n1 l4).trans y1⟩)
      (first | (refine step_copy_turn rfl (.tmp 36) (.tmp 40) 88 88 rfl 5 Tryd.underlying88 (by kernel_rfl) r2 ⟨r, 0, none⟩ bs.length rfl rfl _ (fun i => .int .u8 (bs.getD i 0)) _ HR.out (fun j hj => by rw [Addr.add_lit, Nat.zero_add]; exact HMX.out.byteAt j hj) (fun _ => rfl) ?_; intro y hy))
    go_wp2
    go_ret
    have b1 : Touch q2 (q2 + 1) W x.at' := (Touch.refl _ _ _).drew.trans x.turn
    have b2 : Touch r2 (r2 + 1) x.at' y.at' := (Touch.refl _ _ _).drew.trans y.turn
    have hsz : p2 < y.at'.heap.size := Nat.lt_of_lt_of_le l5 (Nat.le_trans b1.size b2.size)
    have hbb : Below w.heap.size w y.at' := b2.below (b1.below HT.out.bel HT.out.lq HT.out.bel.size) HT.out.lr (Nat.le_trans HT.out.bel.size b1.size)
    refine ⟨⟨p2, q2, r2, w.heap.size, y.at'.heap.size⟩, rfl, Nat.le_refl _, ⟨_, hbb⟩, rfl, ?_⟩
    have q3 := HT.out.lq
    have q4 := HT.out.lr
    have q5 := HT.out.qr
    refine Mem.lay (t := 90) (kw := ws.length) (kb := bs.length) ?_ rfl rfl ?_ hy ⟨by omega, by omega, by omega, hsz, by omega, by omega, Nat.le_refl _, by omega, by omega, q5⟩ hM.ml hM.bl hM.br
    · rw [b2.block p2 (Nat.lt_of_lt_of_le l5 b1.size) (by omega), b1.block p2 l5 (by omega)]
      exact HT.out.hp
    · exact HX.out.of_block (b2.block q2 (Nat.lt_of_lt_of_le (by omega) b1.size) (by omega))
end
end Go.Proofs.YtnojemmpgaibkaaDoor
