/-
  Four machines on plain cells: rows that are read; what is known all along; each step; what holds at first, and what is free at last.
  Conditions: none; plain lemmas, and the contracts under them. (Four texts in one.)
-/
import Derived.Test.YtlidoicpfomfcaaDoorStSt
import Derived.Test.YtlidoicpfomfcaaDoorStInv
import Derived.Test.YtlidoicpfomfcaaDoorStRound
import Derived.Test.YtlidoicpfomfcaaDoorStArg
import Derived.Test.YtlidoicpfomfcaaDoorStStart
import Derived.Test.YtlidoicpfomfcaaDoorStSameRows
namespace Go.Proofs.YtlidoicpfomfcaaDoor
open Go.RowKit
attribute [local go_sem] Later.cell Later.frozen Later.lt Later.le
set_option linter.unusedVariables false

/-- Where the row lies behind an append: where it lay, or in a block that was not there. -/
theorem append_block {P : Program} {w w' : World} {base : Nat} {t ty e : TypeId} {i : TypeInfo} {z : Value} (ht : P.underlying t = some (.slice e)) (hi : P.info? e = some i) (hz : i.zero = some z) (hsize : i.size = 1) (hby : i.bytes = 8) (hzs : z.cells.size = 1)
    {v v' : Value} {n : Nat} {xs : List Value} (hown : w.ownsRow base e 1 v n xs) (a : Addr) (m c : Nat) (news : List Value) (hl : news.length = m * 1) (hnews : ∀ j u, news[j]? = some u → w.cell? (a.add j) = some u) (h1 : ∀ u ∈ news, u.oneCell' = true)
    (h63 : n + m ≤ 1000000) (hr : (Builtin.append_ #[t, t] ty #[v, .slice (some a) m c]).run P w = .ok v' w') : v'.ownBlock = v.ownBlock ∨ ∀ g, v'.ownBlock = some g → w.heap.size ≤ g := by
  rcases hown.2 with ⟨rfl, rfl⟩ | ⟨g, cap, cur, rfl, hbg, hg, hnc, hcm, hcs, htake⟩
  · obtain ⟨v2, w2, hr2, h2, _, _⟩ := run_append_own (P := P) w w.heap.size t ty e i z 1 8 ht hi hz hsize hby hzs (by omega) (.slice none 0 0) 0 [] (World.ownsRow_nil _ _ _ _) a m c news hl hnews h1 (by unfold maxLen; omega) (by omega) (Nat.le_refl _)
    rw [hr] at hr2
    injection hr2 with e1 e2
    subst e1
    subst e2
    exact Or.inr fun g hg => (World.ownsRow.lt h2 g hg).1
  · by_cases hroom : n + m ≤ cap
    · have hr2 := run_append_room (P := P) w t ty e i ht hi g n cap cur hg a m c news (by rw [hsize]; exact hl) hnews h1 hroom (by rw [hsize]; omega)
      rw [hr] at hr2
      injection hr2 with e1 e2
      exact Or.inl (by rw [e1]; rfl)
    · have holds : ∀ j u, xs[j]? = some u → w.cell? ((⟨g, 0, none⟩ : Addr).add j) = some u := hown.cells (g := g) rfl
      have hr2 := run_append_grow (P := P) w t ty e i z ht hi hz ⟨g, 0, none⟩ n cap xs (by rw [hsize]; exact hown.1) holds a m c news (by rw [hsize]; exact hl) hnews (by omega) (by omega) (growslice_fits (by omega) (by rw [hby]; omega))
      rw [hr] at hr2
      injection hr2 with e1 e2
      exact Or.inr fun g' hg' => by
        rw [e1] at hg'
        have : w.heap.size = g' := by simpa [Value.ownBlock] using hg'
        omega
/-- An append of one number to an own row, as one step of a walk; where it lies is told. -/
theorem wpList_append_told {P : Program} {ops : Array Oper} {rest : List Oper} {o : Oper} {a : Act} {w : World} {Q : Exit → Act → World → Prop} (hgd : o.guard = none) (s x : Operand) (t : TypeId)
    (ho : o.op = .call { callee := .builtin .append, args := #[s, x], argTypes := #[t, t] })
    (base : Nat) (e : TypeId) (i : TypeInfo) (z : Value) (ht : P.underlying t = some (.slice e)) (hi : P.info? e = some i) (hz : i.zero = some z) (hsize : i.size = 1) (hby : i.bytes = 8) (hzs : z.cells.size = 1)
    (v : Value) (n : Nat) (xs : List Value) (hs : a.eval s = v) (hown : w.ownsRow base e 1 v n xs)
    (ad : Addr) (m c : Nat) (news : List Value) (hx : a.eval x = .slice (some ad) m c) (hl : news.length = m * 1) (hnews : ∀ j u, news[j]? = some u → w.cell? (ad.add j) = some u) (h1 : ∀ u ∈ news, u.oneCell' = true)
    (h63 : n + m ≤ 1000000) (hbase : base ≤ w.heap.size)
    (h : ∀ v' w', w'.ownsRow base e 1 v' (n + m) (xs ++ news) → w.grownBy w' v.ownBlock → (v'.ownBlock = v.ownBlock ∨ ∀ g, v'.ownBlock = some g → w.heap.size ≤ g) → wpList P ops Q rest (a.put o.dst v') w') : wpList P ops Q (o :: rest) a w :=
  wpList_plain hgd fun _ hK => by
    obtain ⟨v', w', hr, h2, h3, h4⟩ := run_append_own (P := P) w base t o.type e i z 1 8 ht hi hz hsize hby hzs (by omega) v n xs hown ad m c news hl hnews h1 (by unfold maxLen; omega) (by omega) hbase
    have hb := append_block ht hi hz hsize hby hzs hown ad m c news hl hnews h1 h63 hr
    unfold Oper.wp execOp
    simp only [ho, resolve, invoke, builtin, Sem.run_bind, Sem.run_pure, Result.andThen_ok, List.map_toArray, List.map_cons, List.map_nil, hs, hx, hr]
    exact hK _ _ (h v' w' h2 h3 hb)

/-- A row that is read. -/
def RowV (w : World) (v : Value) (l : List Int) : Prop := ∃ p cap, v = .slice p l.length cap ∧ (l ≠ [] → ∃ g, p = some ⟨g, 0, none⟩ ∧ g < w.heap.size ∧ ∀ j, j < l.length → w.cell? ⟨g, j, none⟩ = some (.int .i64 (l.getD j 0)))
theorem RowV.of_ints {w : World} {base : Nat} {v : Value} {l : List Int} (h : Ints w base v l) : RowV w v l := by
  obtain ⟨p, cap, hv⟩ := ints_len h
  refine ⟨p, cap, hv, fun hl => ?_⟩
  obtain ⟨g, c, hv2, _, hlt, hc⟩ := h.open' hl
  rw [hv] at hv2
  injection hv2 with e1 _ _
  exact ⟨g, e1, hlt, hc⟩
theorem has_no {w : World} {v : Value} {l : List Int} {n : Int} (h : RowV w v l) (hn : n ∉ l) (hl : l.length ≤ 1000000) : Calls Tryd.prog 23 #[v, .int .i64 n] w (Ret w (.bool false)) := by
  obtain ⟨p, cap, rfl, hg⟩ := h
  go_enter Tryd.func23, Tryd.ntmps23
  go_wp2
  go_loopw [5] (fun u wr => ∃ k : Nat, k ≤ l.length ∧ u = .int .i64 k ∧ wr = w) (fun u _ => (l.length - intOf u).toNat)
  case atStart => exact ⟨0, by omega, rfl, rfl⟩
  case round =>
    obtain ⟨k, hk, rfl, rfl⟩ := hrel
    by_cases hkl : k < l.length
    · obtain ⟨g, rfl, hlt, hc⟩ := hg (fun e => by rw [e] at hkl; simp at hkl)
      have hck := hc k hkl
      have hne : l.getD k 0 ≠ n := fun e => hn (by rw [← e]; rw [show l.getD k 0 = l[k] from by simp [hkl]]; exact List.getElem_mem hkl)
      generalize l.getD k 0 = x at hck hne
      have hb : (x == n) = false := beq_false_of_ne hne
      have hk2 : (k : Int) < 1000000 := by omega
      clear hc hg
      go_wp2
      go_roundw
      case rel => exact ⟨k + 1, by omega, by go_num, by first | rfl | trivial⟩
      case measure => simp [intOf]; omega
    · clear hg hk
      go_wp2
      go_ret
      exact Ret.mk rfl (Below.refl _ _)
set_option maxRecDepth 8000 in
theorem without_any {w : World} {base : Nat} {v : Value} {x : Int} {l : List Int} (h : Ints w base v (x :: l)) (hl : l.length ≤ 900000) : Calls Tryd.prog 25 #[v] w fun e w' => ∃ v', e = .returned v' ∧ Below w.heap.size w w' ∧ Ints w' w.heap.size v' l := by
  obtain ⟨g, cap, rfl, hbg, hlt, hc⟩ := h.open' (by simp)
  have hcap : l.length + 1 ≤ cap := by
    rcases h.2 with ⟨h1, _⟩ | ⟨g', cap', cur, h1, _, _, hnc, _⟩
    · cases h1
    · injection h1 with _ _ e3
      subst e3
      simpa using hnc
  obtain ⟨i9, hi9, hz9, hz1, hz2⟩ := info_parts info_num
  have hne : ∀ (j : Nat) (u : Value), (l.map (Value.int .i64))[j]? = some u → w.cell? ((⟨g, 1, none⟩ : Addr).add j) = some u := fun j u hu => by
    have hj : j < l.length := by
      have := (List.getElem?_eq_some_iff.1 hu).1
      simpa using this
    have h2 := hc (j + 1) (by simpa using hj)
    rw [Addr.add_lit, Nat.add_comm]
    rw [h2]
    simpa [hj] using hu
  have hone : ∀ u ∈ l.map (Value.int .i64), u.oneCell' = true := fun u hu => by
    obtain ⟨y, _, rfl⟩ := List.mem_map.1 hu
    rfl
  have hb4 : ∀ w4, w.grownBy w4 (Value.ownBlock (.slice none 0 0)) → Below w.heap.size w w4 := fun w4 hg => ⟨hg.os, hg.tape, hg.output, hg.size, fun k hk => hg.block k hk (by simp [Value.ownBlock])⟩
  by_cases hc1 : cap = 1
  · have hl0 : l = [] := List.eq_nil_of_length_eq_zero (by omega)
    subst hl0 hc1
    clear hne hone hcap
    go_enter Tryd.func25, Tryd.ntmps25
    go_wp2_with fail
    go_ret
    exact ⟨_, rfl, Below.refl _ _, Ints.nil _ _⟩
  · have hc2 : 1 < cap := by omega
    go_enter Tryd.func25, Tryd.ntmps25
    go_wp2_with (first
      | (at_builtin; refine wpList_append_own _ rfl _ _ 48 rfl w.heap.size 3 i9 (.int .i64 0) 1 8 Tryd.underlying48 hi9 hz9 hz1 hz2 rfl (by decide) _ 0 [] rfl (World.ownsRow_nil _ _ _ _) ⟨g, 1, none⟩ l.length (cap - 1) (l.map (Value.int .i64)) rfl (by simp) hne hone (by unfold maxLen; simp; omega) (by simp; omega) (Nat.le_refl _) ?_; intro v' w4 hown' hgrow _))
    go_ret
    refine ⟨v', rfl, hb4 _ hgrow, ?_⟩
    simpa [Ints] using hown'
end Go.Proofs.YtlidoicpfomfcaaDoor

namespace Go.Proofs.YtlidoicpfomfcaaDoor
open Go.RowKit
set_option linter.unusedVariables false

/-- Where all lies. -/
structure Ap4 where
  A : PAt
  bs : List Int
  bc : Nat
  bl : Nat
  rp : Nat
  rq : Nat
  base : Nat
def ptrO (o : Option Int) (k : Nat) : Value := .pointer (if o = none then none else some ⟨k, 0, none⟩)
/-- What is known all along; of machine x nothing (4: of each one). -/
structure Ap (w : World) (X : Ap4) (a s t g : Int) (ws F T : List Int) (u : Nat → Option Int) (M : Nat → Mc) (kp : Nat → Nat) (pv : Nat → Value) (tv : Value) (R : List Int) (x : Nat) (W : World) : Prop where
  bel : Below w.heap.size w W
  hF : HasHead w
  mem : ∃ n, Mem W X.A ws X.bs n
  inv : Inv t s g ws F T u M
  fc : Fs W X.bc [.int .i64 a, .int .i64 s, .int .i64 t]
  fl : Fs W X.bl [.int .i64 t, .int .i64 s]
  fp : Fs W X.rp [pv 0, pv 1, pv 2, pv 3]
  fq : Fs W X.rq [ptrO (u 0) (kp 0), ptrO (u 1) (kp 1), ptrO (u 2) (kp 2), ptrO (u 3) (kp 3)]
  pp : ∀ n, n < 4 → n ≠ x → u n = none → pv n = .pointer (some ⟨kp n, 0, none⟩)
  xn : x < 4 → u x = none
  km : ∀ n, n < 4 → n ≠ x → Fs W (kp n) (if u n = none then popL t s (M n) else pushC t s (M n))
  kd : ∀ n m, n < 4 → m < 4 → n ≠ x → m ≠ x → n ≠ m → kp n ≠ kp m
  kf : ∀ n, n < 4 → n ≠ x → X.A.hi ≤ kp n ∧ kp n ≠ X.bc ∧ kp n ≠ X.bl ∧ kp n ≠ X.rp ∧ kp n ≠ X.rq ∧ w.heap.size ≤ kp n
  own : Ints W X.base tv R
  tg : ∀ b, tv.ownBlock = some b → ∀ n, n < 4 → n ≠ x → b ≠ kp n
  t0 : 1 ≤ t
  t4 : t ≤ 4
  s1 : 1 ≤ s
  s64 : s ≤ 64
  wA : w.heap.size ≤ X.A.lo
  lh : X.A.lo ≤ X.A.hi
  cA : X.bc < X.A.lo
  lA : X.A.hi ≤ X.bl
  pA : X.A.hi ≤ X.rp
  qA : X.A.hi ≤ X.rq
  lp : X.bl ≠ X.rp
  lq : X.bl ≠ X.rq
  pq : X.rp ≠ X.rq
  wp : w.heap.size ≤ X.rp
  wq : w.heap.size ≤ X.rq
  bA : X.A.hi ≤ X.base
  bl0 : X.bl < X.base
  bp0 : X.rp < X.base
  bq0 : X.rq < X.base

theorem Ints.moved {S : Nat → Prop} {w w' : World} {base : Nat} {v : Value} {l : List Int} (h : Ints w base v l) (m : Moved S w w') (hS : ∀ b, v.ownBlock = some b → ¬ S b) : Ints w' base v l := by
  refine ⟨h.1, ?_⟩
  rcases h.2 with hn | ⟨g, cap, cur, hv, hg, hh, r⟩
  · exact .inl hn
  · have hlt : g < w.heap.size := (Array.getElem?_eq_some_iff.1 hh).1
    exact .inr ⟨g, cap, cur, hv, hg, (m.block g hlt (hS g (by rw [hv]; rfl))).trans hh, r⟩

section
variable {w W W' : World} {X : Ap4} {a s t g : Int} {ws F T : List Int} {u : Nat → Option Int} {M : Nat → Mc} {kp : Nat → Nat} {pv : Nat → Value} {tv : Value} {R : List Int} {x : Nat}
theorem Ap.tlo (h : Ap w X a s t g ws F T u M kp pv tv R x W) {b : Nat} (hb : tv.ownBlock = some b) : X.base ≤ b ∧ b < W.heap.size := World.ownsRow.lt h.own b hb
/-- Machine n is let go of. -/
theorem Ap.hole (h : Ap w X a s t g ws F T u M kp pv tv R 4 W) {n : Nat} (hn : u n = none) : Ap w X a s t g ws F T u M kp pv tv R n W :=
  { h with
    pp := fun i hi _ => h.pp i hi (by omega)
    xn := fun _ => hn
    km := fun i hi _ => h.km i hi (by omega)
    kd := fun i j hi hj _ _ => h.kd i j hi hj (by omega) (by omega)
    kf := fun i hi _ => h.kf i hi (by omega)
    tg := fun b hb i hi _ => h.tg b hb i hi (by omega) }
/-- What makes memory alone. -/
theorem Ap.below (h : Ap w X a s t g ws F T u M kp pv tv R x W) (hb : Below W.heap.size W W') : Ap w X a s t g ws F T u M kp pv tv R x W' :=
  { h with
    bel := h.bel.trans (hb.mono h.bel.size)
    mem := h.mem.imp fun _ k => k.below hb k.hs
    fc := h.fc.below hb h.fc.lt
    fl := h.fl.below hb h.fl.lt
    fp := h.fp.below hb h.fp.lt
    fq := h.fq.below hb h.fq.lt
    km := fun i hi e => (h.km i hi e).below hb (h.km i hi e).lt
    own := h.own.later ⟨W', hb⟩ }
/-- A step of machine n, that lies there yet. -/
theorem Ap.step (h : Ap w X a s t g ws F T u M kp pv tv R 4 W) {n : Nat} (hn : n < 4) {g' : Int} {ws' F' : List Int} {M' : Mc} (m : Moved (spanS X.A (kp n)) W W') (hm : ∃ k, Mem W' X.A ws' X.bs k) (hf : Fs W' (kp n) (if u n = none then popL t s M' else pushC t s M')) (hi : Inv t s g' ws' F' T u (setU M n M')) :
    Ap w X a s t g' ws' F' T u (setU M n M') kp pv tv R 4 W' := by
  have kf := h.kf n hn (by omega)
  have lh := h.lh
  exact { h with
    bel := m.below h.bel h.bel.size fun b hb => spanS_not (Or.inl (by have := h.wA; omega)) (by omega)
    mem := hm
    inv := hi
    fc := h.fc.moved m (spanS_not (Or.inl h.cA) kf.2.1.symm)
    fl := h.fl.moved m (spanS_not (Or.inr h.lA) kf.2.2.1.symm)
    fp := h.fp.moved m (spanS_not (Or.inr h.pA) kf.2.2.2.1.symm)
    fq := h.fq.moved m (spanS_not (Or.inr h.qA) kf.2.2.2.2.1.symm)
    km := fun i hi e => by
      by_cases ei : i = n
      · subst ei; rw [setU_same]; exact hf
      · rw [setU_other _ _ ei]
        exact (h.km i hi e).moved m (spanS_not (Or.inr (h.kf i hi e).1) (h.kd i n hi hn e (by omega) ei))
    own := h.own.moved m fun b hb => spanS_not (Or.inr (by have := (h.tlo hb).1; have := h.bA; omega)) (h.tg b hb n hn (by omega)) }
/-- The last step of machine n: of it nothing is known any more. -/
theorem Ap.last (h : Ap w X a s t g ws F T u M kp pv tv R 4 W) {n : Nat} (hn : n < 4) {g' : Int} {ws' F' T' : List Int} {M' : Nat → Mc} (m : Moved (spanS X.A (kp n)) W W') (hm : ∃ k, Mem W' X.A ws' X.bs k) (hun : u n = none) (hM : ∀ i, i ≠ n → M' i = M i) (hi : Inv t s g' ws' F' T' u M') :
    Ap w X a s t g' ws' F' T' u M' kp pv tv R n W' := by
  have kf := h.kf n hn (by omega)
  have lh := h.lh
  exact { h with
    bel := m.below h.bel h.bel.size fun b hb => spanS_not (Or.inl (by have := h.wA; omega)) (by omega)
    mem := hm
    inv := hi
    fc := h.fc.moved m (spanS_not (Or.inl h.cA) kf.2.1.symm)
    fl := h.fl.moved m (spanS_not (Or.inr h.lA) kf.2.2.1.symm)
    fp := h.fp.moved m (spanS_not (Or.inr h.pA) kf.2.2.2.1.symm)
    fq := h.fq.moved m (spanS_not (Or.inr h.qA) kf.2.2.2.2.1.symm)
    pp := fun i hi _ => h.pp i hi (by omega)
    xn := fun _ => hun
    km := fun i hi e => by
      rw [hM i e]
      exact (h.km i hi (by omega)).moved m (spanS_not (Or.inr (h.kf i hi (by omega)).1) (h.kd i n hi hn (by omega) (by omega) e))
    kd := fun i j hi hj _ _ => h.kd i j hi hj (by omega) (by omega)
    kf := fun i hi _ => h.kf i hi (by omega)
    own := h.own.moved m fun b hb => spanS_not (Or.inr (by have := (h.tlo hb).1; have := h.bA; omega)) (h.tg b hb n hn (by omega))
    tg := fun b hb i hi _ => h.tg b hb i hi (by omega) }
theorem row_set {l0 l1 l2 l3 v : Value} {r n : Nat} (h : Fs W r [l0, l1, l2, l3]) (hn : n < 4) : Fs (W.setCell ⟨r, n, none⟩ v) r [if n = 0 then v else l0, if n = 1 then v else l1, if n = 2 then v else l2, if n = 3 then v else l3] := by
  have h4 : n = 0 ∨ n = 1 ∨ n = 2 ∨ n = 3 := by omega
  rcases h4 with rfl | rfl | rfl | rfl
  · exact h.set 0 (by simp) v
  · exact h.set 1 (by simp) v
  · exact h.set 2 (by simp) v
  · exact h.set 3 (by simp) v
/-- A new Pop in the place of machine n. -/
theorem Ap.fill (h : Ap w X a s t g ws F T u M kp pv tv R x W) {n k : Nat} (hn : n < 4) (hx : x = n) (hk : Fs W k (popL t s ⟨0, 0, 0, 0, 0⟩)) (hM : M n = ⟨0, 0, 0, 0, 0⟩) (kA : X.base ≤ k) (wk : w.heap.size ≤ k) (kd : ∀ i, i < 4 → i ≠ n → kp i ≠ k) (kt : ∀ b, tv.ownBlock = some b → b ≠ k) (kc : k ≠ X.bc) :
    Ap w X a s t g ws F T u M (setU kp n k) (setU pv n (.pointer (some ⟨k, 0, none⟩))) tv R 4 (W.setCell ⟨X.rp, n, none⟩ (.pointer (some ⟨k, 0, none⟩))) := by
  subst hx
  have hun := h.xn hn
  have hm : Moved (fun b => b = X.rp) W (W.setCell ⟨X.rp, x, none⟩ (.pointer (some ⟨k, 0, none⟩))) := (Moved.refl _ _).setCell _ _ rfl
  have lh := h.lh
  have hpA := h.pA
  have hbp := h.bp0
  have hfq : [ptrO (u 0) (setU kp x k 0), ptrO (u 1) (setU kp x k 1), ptrO (u 2) (setU kp x k 2), ptrO (u 3) (setU kp x k 3)] = [ptrO (u 0) (kp 0), ptrO (u 1) (kp 1), ptrO (u 2) (kp 2), ptrO (u 3) (kp 3)] := by
    have e : ∀ i, ptrO (u i) (setU kp x k i) = ptrO (u i) (kp i) := fun i => by
      by_cases c : i = x
      · subst c; unfold ptrO; rw [hun]; rfl
      · rw [setU_other _ _ c]
    rw [e, e, e, e]
  exact { h with
    bel := hm.below h.bel h.bel.size fun b hb e => by have := h.wp; omega
    mem := h.mem.imp fun _ q => q.moved hm fun b _ hb e => by omega
    fc := h.fc.moved hm (by have := h.cA; omega)
    fl := h.fl.moved hm h.lp
    fp := by
      have := row_set (v := .pointer (some ⟨k, 0, none⟩)) h.fp hn
      have e : ∀ i, setU pv x (.pointer (some ⟨k, 0, none⟩)) i = if x = i then .pointer (some ⟨k, 0, none⟩) else pv i := fun i => by
        unfold setU
        by_cases c : i = x
        · rw [if_pos c, if_pos c.symm]
        · rw [if_neg c, if_neg (Ne.symm c)]
      rw [e, e, e, e]
      exact this
    fq := by rw [hfq]; exact h.fq.moved hm h.pq.symm
    pp := fun i hi _ hu => by
      by_cases c : i = x
      · subst c; rw [setU_same, setU_same]
      · rw [setU_other _ _ c, setU_other _ _ c]; exact h.pp i hi c hu
    xn := fun hx => absurd hx (by omega)
    km := fun i hi _ => by
      by_cases c : i = x
      · subst c; rw [setU_same, hun, if_pos rfl, hM]
        exact hk.moved hm (by omega)
      · rw [setU_other _ _ c]
        exact (h.km i hi c).moved hm (h.kf i hi c).2.2.2.1
    kd := fun i j hi hj _ _ e => by
      by_cases c : i = x
      · subst c; rw [setU_same, setU_other _ _ (Ne.symm e)]; exact (kd j hj (Ne.symm e)).symm
      · rw [setU_other _ _ c]
        by_cases d : j = x
        · subst d; rw [setU_same]; exact kd i hi c
        · rw [setU_other _ _ d]; exact h.kd i j hi hj c d e
    kf := fun i hi _ => by
      by_cases c : i = x
      · subst c; rw [setU_same]
        have := h.bA; have := h.bl0; have := h.bq0
        exact ⟨by omega, kc, by omega, by omega, by omega, wk⟩
      · rw [setU_other _ _ c]; exact h.kf i hi c
    own := h.own.moved hm fun b hb e => by have := (h.tlo hb).1; omega
    tg := fun b hb i hi _ => by
      by_cases c : i = x
      · subst c; rw [setU_same]; exact kt b hb
      · rw [setU_other _ _ c]; exact h.tg b hb i hi c }
/-- What was taken grows. -/
theorem Ap.grow (h : Ap w X a s t g ws F T u M kp pv tv R x W) {o : Obj} {w4 : World} {tv' : Value} {y : Int} (hgr : (W.alloc o).grownBy w4 tv.ownBlock) (hO : w4.ownsRow X.base 3 1 tv' (R.length + 1) (R.map (Value.int .i64) ++ [Value.int .i64 y])) (hb : tv'.ownBlock = tv.ownBlock ∨ ∀ b, tv'.ownBlock = some b → (W.alloc o).heap.size ≤ b) :
    Ap w X a s t g ws F T u M kp pv tv' (R ++ [y]) x w4 := by
  have hm : Moved (fun b => tv.ownBlock = some b) W w4 := ((Moved.refl _ _).alloc o).trans ⟨hgr.os, hgr.tape, hgr.output, hgr.size, fun k hk hs => hgr.block k hk (fun e => hs e.symm)⟩
  have hlo : ∀ b, tv.ownBlock = some b → X.base ≤ b := fun b hb => (h.tlo hb).1
  have lh := h.lh
  have hbA := h.bA
  have nb : ∀ b, b < X.base → ¬ (tv.ownBlock = some b) := fun b hb e => by have := hlo b e; omega
  exact { h with
    bel := hm.below h.bel h.bel.size fun b hb => nb b (by have := h.wA; omega)
    mem := h.mem.imp fun _ q => q.moved hm fun b _ hb => nb b (by omega)
    fc := h.fc.moved hm (nb _ (by have := h.cA; omega))
    fl := h.fl.moved hm (nb _ h.bl0)
    fp := h.fp.moved hm (nb _ h.bp0)
    fq := h.fq.moved hm (nb _ h.bq0)
    km := fun i hi e => (h.km i hi e).moved hm fun c => h.tg _ c i hi e rfl
    own := Ints.more hO rfl
    tg := fun b hb' i hi e => by
      rcases hb with k | k
      · exact h.tg b (k ▸ hb') i hi e
      · have := k b hb'
        have h2 := (h.km i hi e).lt
        rw [World.size_alloc] at this
        omega }
/-- What was taken is another row. -/
theorem Ap.row (h : Ap w X a s t g ws F T u M kp pv tv R x W) {tv' : Value} {R' : List Int} (hb : Below W.heap.size W W') (hi : Ints W' W.heap.size tv' R') (hbs : X.base ≤ W.heap.size) : Ap w X a s t g ws F T u M kp pv tv' R' x W' :=
  { h.below hb with
    own := hi.low hbs
    tg := fun b hb' i hj e => by
      have h1 := (World.ownsRow.lt hi b hb').1
      have h2 := (h.km i hj e).lt
      omega }
/-- A Push in the place of machine n. -/
theorem Ap.give {y : Int} {T' : List Int} (h : Ap w X a s t g ws F (y :: T') u M kp pv tv R 4 W) {n k : Nat} (hn : n < 4) (hun : u n = none) (hk : Fs W k (pushC t s ⟨y, 0, 0, 0, 0⟩)) (kA : X.base ≤ k) (wk : w.heap.size ≤ k) (kd : ∀ i, i < 4 → i ≠ n → kp i ≠ k) (kt : ∀ b, tv.ownBlock = some b → b ≠ k) :
    Ap w X a s t g ws F T' (setU u n (some y)) (setU M n ⟨y, 0, 0, 0, 0⟩) (setU kp n k) pv tv R 4 (W.setCell ⟨X.rq, n, none⟩ (.pointer (some ⟨k, 0, none⟩))) := by
  have hm : Moved (fun b => b = X.rq) W (W.setCell ⟨X.rq, n, none⟩ (.pointer (some ⟨k, 0, none⟩))) := (Moved.refl _ _).setCell _ _ rfl
  have lh := h.lh
  have hqA := h.qA
  have hbq := h.bq0
  exact { h with
    bel := hm.below h.bel h.bel.size fun b hb e => by have := h.wq; omega
    mem := h.mem.imp fun _ q => q.moved hm fun b _ hb e => by omega
    inv := h.inv.give hn hun
    fc := h.fc.moved hm (by have := h.cA; omega)
    fl := h.fl.moved hm h.lq
    fp := h.fp.moved hm h.pq
    fq := by
      have := row_set (v := .pointer (some ⟨k, 0, none⟩)) h.fq hn
      have e : ∀ i, ptrO (setU u n (some y) i) (setU kp n k i) = if n = i then .pointer (some ⟨k, 0, none⟩) else ptrO (u i) (kp i) := fun i => by
        by_cases c : i = n
        · subst c; rw [if_pos rfl, setU_same, setU_same]; rfl
        · rw [if_neg (Ne.symm c), setU_other _ _ c, setU_other _ _ c]
      rw [e, e, e, e]
      exact this
    pp := fun i hi _ hu => by
      by_cases c : i = n
      · subst c; rw [setU_same] at hu; cases hu
      · rw [setU_other _ _ c] at hu
        rw [setU_other _ _ c]
        exact h.pp i hi (by omega) hu
    xn := fun hx => absurd hx (by omega)
    km := fun i hi _ => by
      by_cases c : i = n
      · subst c; rw [setU_same, setU_same, setU_same, if_neg (by simp)]
        exact hk.moved hm (by omega)
      · rw [setU_other _ _ c, setU_other _ _ c, setU_other _ _ c]
        exact (h.km i hi (by omega)).moved hm (h.kf i hi (by omega)).2.2.2.2.1
    kd := fun i j hi hj _ _ e => by
      by_cases c : i = n
      · subst c; rw [setU_same, setU_other _ _ (Ne.symm e)]; exact (kd j hj (Ne.symm e)).symm
      · rw [setU_other _ _ c]
        by_cases d : j = n
        · subst d; rw [setU_same]; exact kd i hi c
        · rw [setU_other _ _ d]; exact h.kd i j hi hj (by omega) (by omega) e
    kf := fun i hi _ => by
      by_cases c : i = n
      · subst c; rw [setU_same]
        have := h.bA; have := h.bl0; have := h.bp0; have := h.cA
        exact ⟨by omega, by omega, by omega, by omega, by omega, wk⟩
      · rw [setU_other _ _ c]; exact h.kf i hi (by omega)
    own := h.own.moved hm fun b hb e => by have := (h.tlo hb).1; omega
    tg := fun b hb i hi _ => by
      by_cases c : i = n
      · subst c; rw [setU_same]; exact kt b hb
      · rw [setU_other _ _ c]; exact h.tg b hb i hi (by omega) }
/-- The last step of a Push, and its place made none. -/
theorem Ap.lastPush (h : Ap w X a s t g ws F T u M kp pv tv R 4 W) {n : Nat} (hn : n < 4) {g' : Int} {ws' F' : List Int} {M' : Nat → Mc} (m : Moved (spanS X.A (kp n)) W W') (hm : ∃ k, Mem W' X.A ws' X.bs k) (hM : ∀ i, i ≠ n → M' i = M i) (hi : Inv t s g' ws' F' T (setU u n none) M') :
    Fs W' X.rq [ptrO (u 0) (kp 0), ptrO (u 1) (kp 1), ptrO (u 2) (kp 2), ptrO (u 3) (kp 3)] ∧ Ap w X a s t g' ws' F' T (setU u n none) M' kp pv tv R n (W'.setCell ⟨X.rq, n, none⟩ (.pointer none)) := by
  have kf := h.kf n hn (by omega)
  have lh := h.lh
  have hqA := h.qA
  have hbq := h.bq0
  have f1 : Fs W' X.rq [ptrO (u 0) (kp 0), ptrO (u 1) (kp 1), ptrO (u 2) (kp 2), ptrO (u 3) (kp 3)] := h.fq.moved m (spanS_not (Or.inr h.qA) kf.2.2.2.2.1.symm)
  have h2 : Moved (fun b => b = X.rq) W' (W'.setCell ⟨X.rq, n, none⟩ (.pointer none)) := (Moved.refl _ _).setCell _ _ rfl
  have bel1 : Below w.heap.size w W' := m.below h.bel h.bel.size fun b hb => spanS_not (Or.inl (by have := h.wA; omega)) (by omega)
  refine ⟨f1, { h with
    bel := h2.below bel1 bel1.size fun b hb e => by have := h.wq; omega
    mem := hm.imp fun _ q => q.moved h2 fun b _ hb e => by omega
    inv := hi
    fc := (h.fc.moved m (spanS_not (Or.inl h.cA) kf.2.1.symm)).moved h2 (by have := h.cA; omega)
    fl := (h.fl.moved m (spanS_not (Or.inr h.lA) kf.2.2.1.symm)).moved h2 h.lq
    fp := (h.fp.moved m (spanS_not (Or.inr h.pA) kf.2.2.2.1.symm)).moved h2 h.pq
    fq := by
      have := row_set (v := .pointer none) f1 hn
      have e : ∀ i, ptrO (setU u n none i) (kp i) = if n = i then .pointer none else ptrO (u i) (kp i) := fun i => by
        by_cases c : i = n
        · subst c; rw [if_pos rfl, setU_same]; rfl
        · rw [if_neg (Ne.symm c), setU_other _ _ c]
      rw [e, e, e, e]
      exact this
    pp := fun i hi c hu => by
      rw [setU_other _ _ c] at hu
      exact h.pp i hi (by omega) hu
    xn := fun _ => setU_same _ _ _
    km := fun i hi e => by
      rw [hM i e, setU_other _ _ e]
      exact ((h.km i hi (by omega)).moved m (spanS_not (Or.inr (h.kf i hi (by omega)).1) (h.kd i n hi hn (by omega) (by omega) e))).moved h2 (h.kf i hi (by omega)).2.2.2.2.1
    kd := fun i j hi hj _ _ => h.kd i j hi hj (by omega) (by omega)
    kf := fun i hi _ => h.kf i hi (by omega)
    own := (h.own.moved m fun b hb => spanS_not (Or.inr (by have := (h.tlo hb).1; have := h.bA; omega)) (h.tg b hb n hn (by omega))).moved h2 fun b hb e => by have := (h.tlo hb).1; omega
    tg := fun b hb i hi _ => h.tg b hb i hi (by omega) }⟩

theorem Ap.seat (h : Ap w X a s t g ws F T u M kp pv tv R x W) {n : Nat} (hn : n < 4) (e : n ≠ x) : Seat W X.A (kp n) t s := by
  have kf := h.kf n hn e
  have := h.hF.lt0; have := h.hF.lt1; have := h.wA; have := kf.2.2.2.2.2
  exact ⟨h.hF.below h.bel, by omega, by omega, by omega, by omega, kf.1, h.t0, h.t4, h.s1, h.s64⟩
theorem Ap.wd (h : Ap w X a s t g ws F T u M kp pv tv R x W) (hg : g ≤ 1000) : atI ws 1 ≤ 9223372036854775807 := by
  have := h.inv.cur
  have := h.inv.top
  have := h.s64
  omega
end
section
variable {A : PAt} {ws bs : List Int} {n : Int} {w : World} {k : Nat} {t s : Int} {M : Mc}
theorem popStep_w (hS : Seat w A k t s) (hM : Mem w A ws bs n) (hP : Fs w k (popL t s M)) (hx : atI ws 1 ≤ 9223372036854775807) (hw : M.step = 1 → M.word ≤ 9223372036854775807) :
    Calls Tryd.prog 22 #[.pointer (some ⟨k, 0, none⟩), ifc A] w (SRet A k w (.tuple #[.int .i64 (popO t s M ws).slot, .int .i64 (popO t s M ws).err, .bool (popO t s M ws).done]) (popL t s (popO t s M ws).m) (popO t s M ws).ws bs) := by
  have c2 : w.cell? ⟨k, 2, none⟩ = some (.int .i64 M.step) := hP.at' 2 rfl
  by_cases h0 : M.step = 0
  · rw [popO_0 h0]
    have hc := popLoad_any _ rfl hS hM hP hx
    rw [h0] at c2
    generalize pop1 (atI ws 1) M ws = o at hc ⊢
    clear hP hM hS h0
    unfold ifc at *
    go_enter Tryd.func22, Tryd.ntmps22
    go_wp2_with (go_at_call 47; (with_reducible refine hc.mono ?_); rintro _ w1 ⟨rfl, hV, hM1, hP1⟩)
    go_ret3
    exact ⟨rfl, hV, hM1, hP1⟩
  · by_cases h1 : M.step = 1
    · rw [popO_1 h1]
      have hc := popLink_any _ rfl hS hM hP (hw h1)
      rw [h1] at c2
      generalize pop2 (atI ws (partN t s M.slot 2)) M ws = o at hc ⊢
      clear hP hM hS h0 h1
      unfold ifc at *
      go_enter Tryd.func22, Tryd.ntmps22
      go_wp2_with (go_at_call 48; (with_reducible refine hc.mono ?_); rintro _ w1 ⟨rfl, hV, hM1, hP1⟩)
      go_ret3
      exact ⟨rfl, hV, hM1, hP1⟩
    · by_cases h2 : M.step = 2
      · rw [popO_2 h2]
        have hc := popCas_any hS hM hP
        rw [h2] at c2
        generalize pop3 M ws = o at hc ⊢
        clear hP hM hS h0 h1 h2
        unfold ifc at *
        go_enter Tryd.func22, Tryd.ntmps22
        go_wp2_with (go_at_call 49; (with_reducible refine hc.mono ?_); rintro _ w1 ⟨rfl, hV, hM1, hP1⟩)
        go_ret3
        exact ⟨rfl, hV, hM1, hP1⟩
      · rw [popO_3 h0 h1 h2]
        have hd0 : decide (M.step = 0) = false := decide_eq_false h0
        have hd1 : decide (M.step = 1) = false := decide_eq_false h1
        have hd2 : decide (M.step = 2) = false := decide_eq_false h2
        have hM1 : ∃ n, Mem w A ws bs n := ⟨n, hM⟩
        unfold ifc
        clear hM hS
        go_enter Tryd.func22, Tryd.ntmps22
        go_wp2
        go_ret3
        exact ⟨rfl, Moved.refl _ _, hM1, hP⟩
end
section
variable {w W W' : World} {X : Ap4} {a s t g : Int} {ws F T : List Int} {u : Nat → Option Int} {M : Nat → Mc} {kp : Nat → Nat} {pv : Nat → Value} {tv : Value} {R : List Int} {x : Nat}
/-- A step of a Pop: not its last one; its last one with an error, or with a slot. -/
theorem ap_pop (h : Ap w X a s t g ws F T u M kp pv tv T 4 W) (hg : g ≤ 1000) {n : Nat} (hn : n < 4) (hun : u n = none) :
    Calls Tryd.prog 22 #[.pointer (some ⟨kp n, 0, none⟩), ifc X.A] W fun e W' =>
      ∃ (sl er : Int) (d : Bool), e = .returned (.tuple #[.int .i64 sl, .int .i64 er, .bool d]) ∧
        ((d = false ∧ ∃ ws' M', Ap w X a s t g ws' F T u M' kp pv tv T 4 W') ∨
         (d = true ∧ er = 11 ∧ ∃ ws' M', M' n = ⟨0, 0, 0, 0, 0⟩ ∧ Ap w X a s t g ws' F T u M' kp pv tv T n W') ∨
         (d = true ∧ er = 0 ∧ sl ∉ T ∧ ∃ ws' M' F', M' n = ⟨0, 0, 0, 0, 0⟩ ∧ Ap w X a s t (g + 1) ws' F' (T ++ [sl]) u M' kp pv tv T n W')) := by
  obtain ⟨k, hM⟩ := h.mem
  have hk := h.km n hn (by omega)
  rw [if_pos hun] at hk
  have hwm : (M n).step = 1 → (M n).word ≤ 9223372036854775807 := fun c => by
    have hmc := h.inv.mc n hn
    rw [hun] at hmc
    obtain ⟨tw, gw, e1, b1, b2, b3, b4, -⟩ := hmc.2 (by omega)
    have := h.s64
    rw [e1]; omega
  refine (popStep_w (h.seat hn (by omega)) hM hk (h.wd hg) hwm).mono fun e W' ⟨he, m, hm, hf⟩ => ⟨_, _, _, he, ?_⟩
  rcases inv_pop h.inv h.t0 h.s64 hg hn hun with ⟨hd, hi⟩ | ⟨hd, her, hi⟩ | ⟨hd, her, x, F', rfl, hsl, hi⟩
  · exact Or.inl ⟨hd, _, _, h.step hn m hm (by rw [if_pos hun]; exact hf) hi⟩
  · exact Or.inr (Or.inl ⟨hd, her, _, _, setU_same _ _ _, h.last hn m hm hun (fun i e => setU_other _ _ e) hi⟩)
  · refine Or.inr (Or.inr ⟨hd, her, ?_, (popO t s (M n) ws).ws, setU M n ⟨0, 0, 0, 0, 0⟩, F', setU_same _ _ _, ?_⟩)
    · rw [hsl]
      intro hmem
      have h1 := h.inv.one x
      have h2 := List.count_pos_iff.2 hmem
      simp only [List.count_cons_self] at h1
      omega
    · rw [hsl]
      exact h.last hn m hm hun (fun i e => setU_other _ _ e) hi
/-- A step of a Push: not its last one, or its last one. -/
theorem ap_push (h : Ap w X a s t g ws F T u M kp pv tv T 4 W) (hg : g ≤ 1000) {n : Nat} (hn : n < 4) {σ : Int} (hun : u n = some σ) :
    Calls Tryd.prog 21 #[.pointer (some ⟨kp n, 0, none⟩), ifc X.A] W fun e W' =>
      ∃ (er : Int) (d : Bool), e = .returned (.tuple #[.int .i64 er, .bool d]) ∧
        ((d = false ∧ ∃ ws' M', Ap w X a s t g ws' F T u M' kp pv tv T 4 W') ∨
         (d = true ∧ er = 0 ∧ ∃ ws' M', M' n = ⟨0, 0, 0, 0, 0⟩ ∧ Fs W' X.rq [ptrO (u 0) (kp 0), ptrO (u 1) (kp 1), ptrO (u 2) (kp 2), ptrO (u 3) (kp 3)] ∧ Ap w X a s t (g + 1) ws' (σ :: F) T (setU u n none) M' kp pv tv T n (W'.setCell ⟨X.rq, n, none⟩ (.pointer none)))) := by
  obtain ⟨k, hM⟩ := h.mem
  have hk := h.km n hn (by omega)
  rw [if_neg (by rw [hun]; simp)] at hk
  refine (pushStep_any (h.seat hn (by omega)) hM hk (h.wd hg)).mono fun e W' ⟨he, m, hm, hf⟩ => ⟨_, _, he, ?_⟩
  rcases inv_push h.inv h.t0 h.s64 hg hn hun with ⟨hd, hi⟩ | ⟨hd, her, hi⟩
  · exact Or.inl ⟨hd, _, _, h.step hn m hm (by rw [if_neg (by rw [hun]; simp)]; exact hf) hi⟩
  · obtain ⟨f1, f2⟩ := h.lastPush hn m hm (fun i e => setU_other _ _ e) hi
    exact Or.inr ⟨hd, her, _, _, setU_same _ _ _, f1, f2⟩
end
end Go.Proofs.YtlidoicpfomfcaaDoor

namespace Go.Proofs.YtlidoicpfomfcaaDoor
open Go.RowKit
set_option linter.unusedVariables false

def seqF : Nat → Nat → List Int
  | _, 0 => []
  | k, m + 1 => (k : Int) :: seqF (k + 1) m
theorem seqF_len : ∀ m k, (seqF k m).length = m
  | 0, _ => rfl
  | m + 1, k => by simp [seqF, seqF_len m (k + 1)]
theorem seqF_count (x : Int) : ∀ m k, (seqF k m).count x = if (k : Int) ≤ x ∧ x < k + m then 1 else 0
  | 0, k => by
    have : ¬ ((k : Int) ≤ x ∧ x < k + (0 : Nat)) := by omega
    rw [if_neg this]; rfl
  | m + 1, k => by
    show ((k : Int) :: seqF (k + 1) m).count x = _
    rw [List.count_cons, seqF_count x m (k + 1)]
    by_cases e : (k : Int) = x
    · have p1 : ¬ (((k + 1 : Nat) : Int) ≤ x ∧ x < ((k + 1 : Nat) : Int) + m) := by omega
      have p2 : (k : Int) ≤ x ∧ x < k + ((m + 1 : Nat) : Int) := by omega
      rw [if_neg p1, if_pos p2]
      simp [e]
    · rw [show ((k : Int) == x) = false from beq_false_of_ne e]
      by_cases c : ((k + 1 : Nat) : Int) ≤ x ∧ x < ((k + 1 : Nat) : Int) + m
      · have p2 : (k : Int) ≤ x ∧ x < k + ((m + 1 : Nat) : Int) := by omega
        rw [if_pos c, if_pos p2]
        simp
      · have p2 : ¬ ((k : Int) ≤ x ∧ x < k + ((m + 1 : Nat) : Int)) := by omega
        rw [if_neg c, if_neg p2]
        simp
theorem seqF_top (s : Int) : ∀ m k : Nat, (k : Int) + m = s → topOf (seqF k m) = frTop s k
  | 0, k, h => by unfold frTop; rw [if_neg (by omega)]; rfl
  | m + 1, k, h => by unfold frTop; rw [if_pos (by omega)]; rfl
theorem seqF_chain {t s : Int} {ws : List Int} (hG : GiW t s 0 0 ws) (t0 : 1 ≤ t) : ∀ m k : Nat, (k : Int) + m = s → Chain t ws (seqF k m)
  | 0, _, _ => trivial
  | m + 1, k, h => ⟨by
      show lk t ws (k : Int) = topOf (seqF (k + 1) m)
      rw [seqF_top s m (k + 1) (by omega)]
      exact gi_link_new hG t0 (by omega) (Nat.zero_le _), seqF_chain hG t0 m (k + 1) (by omega)⟩
theorem inv_start {t s : Int} {ws : List Int} (hG : GiW t s 0 0 ws) (t0 : 1 ≤ t) (s1 : 1 ≤ s) (s64 : s ≤ 64) : Inv t s 0 ws (seqF 0 s.toNat) [] (fun _ => none) (fun _ => ⟨0, 0, 0, 0, 0⟩) where
  len := hG.1
  cur := by
    rw [gi_top hG, if_pos rfl, seqF_top s s.toNat 0 (by omega)]
    simp
  ch := seqF_chain hG t0 s.toNat 0 (by omega)
  lb := fun x h0 h1 => by
    obtain ⟨k, rfl⟩ := Int.eq_ofNat_of_zero_le h0
    have := gi_link_new hG t0 h1 (Nat.zero_le k)
    show 0 ≤ atI ws (4 + t + k * 3 + 2) ∧ atI ws (4 + t + k * 3 + 2) ≤ 64
    rw [this]
    exact frTop_bd _ s64
  wb := fun y hy => by
    rw [hG.2]
    unfold giV
    rw [if_neg hy, if_neg (by omega)]
    exact stV_bd t0 s1 s64 y
  pm := fun x => by
    rw [seqF_count]
    simp only [List.count_nil, cu, c1]
    by_cases c : 0 ≤ x ∧ x < s
    · rw [if_pos c, if_pos (by omega)]; simp
    · rw [if_neg c, if_neg (by omega)]; simp
  ln := by
    rw [seqF_len]
    simp only [List.length_nil, nu, n1]
    simp
    omega
  g0 := Int.le_refl 0
  mc := fun n _ => mok_new _ _ (fun x hx => by cases hx)

section
variable {w W W' : World} {X : Ap4} {a s t g : Int} {ws F T : List Int} {u : Nat → Option Int} {M : Nat → Mc} {kp : Nat → Nat} {pv : Nat → Value} {tv : Value} {R : List Int} {x : Nat}
theorem Ap.nodup (h : Ap w X a s t g ws F T u M kp pv tv R x W) {i : Nat} (hi : i < F.length) : F.getD i 0 ∉ T ∧ F.getD i 0 ∉ F.take i := by
  have e : F.getD i 0 = F[i] := by simp [hi]
  rw [e]
  have h1 := h.inv.one F[i]
  have h2 : 0 < F.count F[i] := List.count_pos_iff.2 (List.getElem_mem hi)
  refine ⟨fun hm => ?_, fun hm => ?_⟩
  · have := List.count_pos_iff.2 hm
    omega
  · have h3 := List.count_pos_iff.2 hm
    have h4 : (F.take i ++ F.drop i).count F[i] = F.count F[i] := by rw [List.take_append_drop]
    rw [List.count_append] at h4
    have h5 : 0 < (F.drop i).count F[i] := List.count_pos_iff.2 (by rw [List.mem_drop_iff_getElem]; exact ⟨0, by omega, by simp⟩)
    omega
theorem Ap.lens (h : Ap w X a s t g ws F T u M kp pv tv R x W) : F.length + T.length + nu u = s.toNat ∧ s.toNat ≤ 64 := by
  have := h.inv.ln
  have := h.s64
  omega
theorem ints_cap {w : World} {base : Nat} {v : Value} {l : List Int} (h : Ints w base v l) : ∃ p cap, v = .slice p l.length cap ∧ l.length ≤ cap := by
  rcases h.2 with ⟨rfl, h0⟩ | ⟨g, cap, cur, rfl, _, _, hnc, _⟩
  · exact ⟨_, 0, by rw [h0], by omega⟩
  · exact ⟨_, _, rfl, by simpa using hnc⟩
theorem nu_le (u : Nat → Option Int) : nu u ≤ 4 := by
  unfold nu n1
  split <;> split <;> split <;> split <;> omega
/-- What Free tells at last. -/
theorem ap_free (h : Ap w X a s t g ws F T u M kp pv tv T 4 W) (hg : g ≤ 1000) : Calls Tryd.prog 18 #[ifc X.A, .agg #[.int .i64 t, .int .i64 s]] W fun e W' => ∃ v, e = .returned v ∧ Below w.heap.size w W' ∧ Fs W' X.bc [.int .i64 a, .int .i64 s, .int .i64 t] ∧ RowV W' tv T ∧ RowV W' v F ∧ ∃ p cap, v = .slice p F.length cap ∧ F.length ≤ cap := by
  obtain ⟨n, hM⟩ := h.mem
  have hwd : Wd ws := fun y => by
    by_cases e : y = 1
    · subst e
      have := h.wd hg
      have := h.inv.cur
      have := h.inv.top
      have := h.inv.g0
      omega
    · have := h.inv.wb y e
      omega
  have hF0 : HasHead W := h.hF.below h.bel
  have := h.hF.lt0; have := h.hF.lt1; have := h.wA
  refine (Free_any hF0 (by omega) (by omega) hM h.t0 h.t4 h.s1 h.s64 hwd).mono fun e W' ⟨v, he, ht, hm, hi⟩ => ⟨v, he, ?_, h.fc.touch ht (Or.inl h.cA), RowV.of_ints (h.own.touch ht h.bA), ?_⟩
  · exact ht.below h.bel h.wA h.bel.size
  · rw [inv_free h.inv h.t0 h.s64 hg] at hi
    exact ⟨RowV.of_ints hi, ints_cap hi⟩
end
theorem RowV.later {w : World} {v : Value} {l : List Int} (h : RowV w v l) (y : Later w) : RowV y.at' v l := by
  obtain ⟨p, cap, hv, hc⟩ := h
  exact ⟨p, cap, hv, fun hl => by
    obtain ⟨g, e, hlt, hcell⟩ := hc hl
    exact ⟨g, e, y.lt _ hlt, fun j hj => (y.cell _ _ _ hlt).trans (hcell j hj)⟩⟩
/-- The first i of a row. -/
theorem RowV.take {w : World} {g cap : Nat} {l : List Int} (hlt : g < w.heap.size) (hc : ∀ j, j < l.length → w.cell? ⟨g, j, none⟩ = some (.int .i64 (l.getD j 0))) {i : Nat} (hi : i ≤ l.length) : RowV w (.slice (some ⟨g, 0, none⟩) i cap) (l.take i) :=
  ⟨_, cap, by rw [List.length_take, Nat.min_eq_left hi], fun _ => ⟨g, rfl, hlt, fun j hj => by
    rw [List.length_take, Nat.min_eq_left hi] at hj
    rw [hc j (by omega)]
    simp [hj, Nat.lt_of_lt_of_le hj hi]⟩⟩
end Go.Proofs.YtlidoicpfomfcaaDoor

namespace Go.Proofs.YtlidoicpfomfcaaDoor
open Go.RowKit
set_option linter.unusedVariables false

theorem apUn {p : Prop} (h : Hid p) : p := h.out
theorem info_pq : (Tryd.prog.info? 56).map (fun i => (i.zero, i.size, i.bytes)) = some (some (.pointer none), 1, 8) := by kernel_rfl
theorem made4 : madeCells #[Value.pointer none] 4 = #[.pointer none, .pointer none, .pointer none, .pointer none] := by first | kernel_rfl | simp [madeCells, Array.range]
def fourN (k0 k1 k2 k3 : Nat) : Nat → Nat
  | 0 => k0
  | 1 => k1
  | 2 => k2
  | _ => k3
theorem four_cell {W : World} {r : Nat} (f : Nat → Value) (h : Fs W r [f 0, f 1, f 2, f 3]) {n : Nat} (hn : n < 4) : W.cell? ⟨r, n, none⟩ = some (f n) := by
  have h4 : n = 0 ∨ n = 1 ∨ n = 2 ∨ n = 3 := by omega
  rcases h4 with rfl | rfl | rfl | rfl
  · exact h.at' 0 rfl
  · exact h.at' 1 rfl
  · exact h.at' 2 rfl
  · exact h.at' 3 rfl
section
variable {w W W' : World} {X : Ap4} {a s t g : Int} {ws F T : List Int} {u : Nat → Option Int} {M : Nat → Mc} {kp : Nat → Nat} {pv : Nat → Value} {tv : Value} {R : List Int} {x : Nat}
theorem Ap.rowp (h : Ap w X a s t g ws F T u M kp pv tv R x W) {n : Nat} (hn : n < 4) : W.cell? ⟨X.rp, n, none⟩ = some (pv n) := four_cell pv h.fp hn
theorem Ap.rowq (h : Ap w X a s t g ws F T u M kp pv tv R x W) {n : Nat} (hn : n < 4) : W.cell? ⟨X.rq, n, none⟩ = some (ptrO (u n) (kp n)) := four_cell (fun n => ptrO (u n) (kp n)) h.fq hn
/-- A new Pop. -/
theorem Ap.anew (h : Ap w X a s t g ws F T u M kp pv tv R x W) {n k : Nat} (hn : n < 4) (hx : x = n) (hM : M n = ⟨0, 0, 0, 0, 0⟩) (hbase : X.base = X.rq + 1) (hk : W.heap.size ≤ k) (hb : Below W.heap.size W W') (hf : Fs W' k (popL t s ⟨0, 0, 0, 0, 0⟩)) :
    Ap w X a s t g ws F T u M (setU kp n k) (setU pv n (.pointer (some ⟨k, 0, none⟩))) tv R 4 (W'.setCell ⟨X.rp, n, none⟩ (.pointer (some ⟨k, 0, none⟩))) := by
  have hq := h.fq.lt
  have hc := h.fc.lt
  have hw := h.bel.size
  subst hx
  exact (h.below hb).fill hn rfl hf hM (by omega) (by omega) (fun i hi e => by have := (h.km i hi e).lt; omega) (fun b hb => by have := (h.tlo hb).2; omega) (by omega)
/-- A new Push, of the first of what is taken. -/
theorem Ap.push {y : Int} {T' : List Int} (h : Ap w X a s t g ws F (y :: T') u M kp pv tv R 4 W) {n k : Nat} (hn : n < 4) (hun : u n = none) (hbase : X.base = X.rq + 1) (hk : W.heap.size ≤ k) (hb : Below W.heap.size W W') (hf : Fs W' k (pushC t s ⟨y, 0, 0, 0, 0⟩)) :
    Ap w X a s t g ws F T' (setU u n (some y)) (setU M n ⟨y, 0, 0, 0, 0⟩) (setU kp n k) pv tv R 4 (W'.setCell ⟨X.rq, n, none⟩ (.pointer (some ⟨k, 0, none⟩))) := by
  have hq := h.fq.lt
  have hw := h.bel.size
  exact (h.below hb).give hn hun hf (by omega) (by omega) (fun i hi e => by have := (h.km i hi (by omega)).lt; omega) (fun b hb => by have := (h.tlo hb).2; omega)
theorem Ap.less {l : List Int} (h : Ap w X a s t g ws F T u M kp pv tv R x W) {tv' : Value} (hbase : X.base = X.rq + 1) (hb : Below W.heap.size W W') (hi : Ints W' W.heap.size tv' l) : Ap w X a s t g ws F T u M kp pv tv' l x W' :=
  h.row hb hi (by have := h.fq.lt; omega)
theorem nu_take {n : Nat} (hn : n < 4) (hun : u n = none) (y : Int) : (nu (setU u n (some y)) : Int) = nu u + 1 := by
  have := nu_set u hn (some y)
  rw [hun] at this
  simp [n1] at this
  omega
theorem nu_give {n : Nat} {y : Int} (hn : n < 4) (hun : u n = some y) : (nu (setU u n none) : Int) = nu u - 1 := by
  have := nu_set u hn none
  rw [hun] at this
  simp [n1] at this
  omega
end
end Go.Proofs.YtlidoicpfomfcaaDoor

