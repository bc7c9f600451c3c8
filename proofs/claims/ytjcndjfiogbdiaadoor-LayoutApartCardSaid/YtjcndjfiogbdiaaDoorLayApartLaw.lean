/-
  LayoutApart, walked: it answers true at every config.
  Conditions: that live answers true; that the package's two fields of heads read as they are laid.
-/
import Derived.Test.YtjcndjfiogbdiaaDoorLayRef
import Derived.Test.YtjcndjfiogbdiaaDoorHeadPack
import Derived.Test.YtjcndjfiogbdiaaDoorOwned
import Derived.Test.YtjcndjfiogbdiaaDoorTwo
import Derived.Deep.RegionHeld3
namespace Go.Proofs.YtjcndjfiogbdiaaDoor
open Go.RowKit
attribute [local go_sem] Later.cell Later.frozen Later.lt Later.le Turned.cell_lo Turned.cell_hi Turned.frozen_lo Turned.frozen_hi Turned.lt Turned.le
set_option linter.unusedVariables false

/-- The first k numbers. -/
def upto (k : Nat) : List Int := (List.range k).map Int.ofNat
theorem upto_len (k : Nat) : (upto k).length = k := by simp [upto]
theorem upto_succ (k : Nat) : upto (k + 1) = upto k ++ [(k : Int)] := by simp [upto, List.range_succ]
theorem upto_three (k : Nat) : upto (k + 3) = upto k ++ [(k : Int), (k : Int) + 1, (k : Int) + 2] := by
  rw [upto_succ (k + 2), upto_succ (k + 1), upto_succ k]
  simp
theorem upto_get (k j : Nat) (h : j < k) : (upto k).getD j 0 = j := by simp [upto, h]

theorem Ints.more {w : World} {base k m : Nat} {v : Value} {l : List Int} {xs : List Int} (h : w.ownsRow base 3 1 v (k + m) (l.map (Value.int .i64) ++ xs.map (Value.int .i64))) (hl : l.length = k) (hm : xs.length = m) : Ints w base v (l ++ xs) := by
  unfold Ints
  rw [List.length_append, List.map_append, hl, hm]
  exact h
theorem grown_late {V w4 : World} {l xs : List Int} {m : Nat} {v v' : Value} {o : Obj} (X : Later V) (hown : Ints X.at' V.heap.size v l) (hm : xs.length = m) (hg : (X.at'.alloc o).grownBy w4 v.ownBlock)
    (hO : w4.ownsRow V.heap.size 3 1 v' (l.length + m) (l.map (Value.int .i64) ++ xs.map (Value.int .i64))) : ∃ y : Later V, w4 = y.at' ∧ Ints y.at' V.heap.size v' (l ++ xs) := by
  have hr : ∀ k, v.ownBlock = some k → V.heap.size ≤ k := fun k hk => (World.ownsRow.lt hown k hk).1
  exact ⟨⟨w4, (X.below.alloc X.below.size o).grown hg (by have := X.below.size; simp; omega) hr⟩, rfl, Ints.more hO rfl hm⟩
/-- Below the base nothing has turned. -/
def Same' (V w' : World) : Prop := Below V.heap.size V w'
section
variable {V W : World} {b2 : Nat} {f0 f1 : Value}
theorem Same'.later (hb : b2 < V.heap.size) (h : W.cell? ⟨b2, 0, none⟩ = some f0 ∧ W.cell? ⟨b2, 1, none⟩ = some f1 ∧ Same' V W) (y : Later W) : y.at'.cell? ⟨b2, 0, none⟩ = some f0 ∧ y.at'.cell? ⟨b2, 1, none⟩ = some f1 ∧ Same' V y.at' :=
  have hz : b2 < W.heap.size := Nat.lt_of_lt_of_le hb h.2.2.size
  ⟨(y.cell _ _ _ hz).trans h.1, (y.cell _ _ _ hz).trans h.2.1, h.2.2.trans (y.below.mono h.2.2.size)⟩
theorem Same'.alloc (hb : b2 < V.heap.size) (h : W.cell? ⟨b2, 0, none⟩ = some f0 ∧ W.cell? ⟨b2, 1, none⟩ = some f1 ∧ Same' V W) (o : Obj) : (W.alloc o).cell? ⟨b2, 0, none⟩ = some f0 ∧ (W.alloc o).cell? ⟨b2, 1, none⟩ = some f1 ∧ Same' V (W.alloc o) :=
  Same'.later hb h ⟨_, (Below.refl _ _).alloc (Nat.le_refl _) o⟩
theorem Same'.grown {w4 : World} {l : List Int} {v : Value} (hb : b2 < V.heap.size) (h : W.cell? ⟨b2, 0, none⟩ = some f0 ∧ W.cell? ⟨b2, 1, none⟩ = some f1 ∧ Same' V W) (hown : Ints W V.heap.size v l) (hg : W.grownBy w4 v.ownBlock) : w4.cell? ⟨b2, 0, none⟩ = some f0 ∧ w4.cell? ⟨b2, 1, none⟩ = some f1 ∧ Same' V w4 := by
  have hr : ∀ k, v.ownBlock = some k → V.heap.size ≤ k := fun k hk => (World.ownsRow.lt hown k hk).1
  have hb4 : Below V.heap.size V w4 := Below.grown h.2.2 hg h.2.2.size hr
  have hb5 : Below V.heap.size W w4 := Below.grown (Below.refl _ _) hg h.2.2.size hr
  exact ⟨(hb5.cell (p := ⟨b2, 0, none⟩) hb).trans h.1, (hb5.cell (p := ⟨b2, 1, none⟩) hb).trans h.2.1, hb4⟩
theorem same'Of {c0 c1 : Prop} (h : c0 ∧ c1 ∧ Same' V W) : Below V.heap.size V W := h.2.2
end
theorem cell_three {w : World} {T : TypeId} {a b c : Value} : ∀ j u, [a, b, c][j]? = some u → (w.alloc (.cells #[a, b, c] T)).cell? ((⟨w.heap.size, 0, none⟩ : Addr).add j) = some u := by
  intro j u hu
  rw [Addr.add_lit, Nat.zero_add, World.cell?_alloc_new]
  match j, hu with
  | 0, hu | 1, hu | 2, hu => simpa using hu

/-- append to a row of the call's own, as one step of a region that draws its order. -/
theorem step_append_own {P : Program} {ops : Array Oper} {o : Oper} {a : Act} {w : World} {K : Act → World → Prop} {Q : Exit → Act → World → Prop} {E : Prop} (hgd : o.guard = none) (s x : Operand) (t : TypeId)
    (ho : o.op = .call { callee := .builtin .append, args := #[s, x], argTypes := #[t, t] })
    (base : Nat) (e : TypeId) (i : TypeInfo) (z : Value) (size bytes : Nat) (ht : P.underlying t = some (.slice e)) (hi : P.info? e = some i) (hz : i.zero = some z)
    (hsize : i.size = size) (hby : i.bytes = bytes) (hzs : z.cells.size = size) (hsz : 0 < size)
    (v : Value) (n : Nat) (xs : List Value) (hs : a.eval s = v) (hown : w.ownsRow base e size v n xs)
    (ad : Addr) (m c : Nat) (news : List Value) (hx : a.eval x = .slice (some ad) m c) (hl : news.length = m * size) (hnews : ∀ j u, news[j]? = some u → w.cell? (ad.add j) = some u) (h1 : ∀ u ∈ news, u.oneCell' = true)
    (h63 : n + m ≤ maxLen) (hbytes : (n + m) * bytes ≤ 140737488355328) (hbase : base ≤ w.heap.size)
    (h : ∀ v' w', w'.ownsRow base e size v' (n + m) (xs ++ news) → w.grownBy w' v.ownBlock → K (a.put o.dst v') w') :
    if Region.wanted o (yielded ops a.tmps) = true then Oper.wp P o a w K Q else E := by
  have hw : Region.wanted o (yielded ops a.tmps) = true := by simp [Region.wanted, hgd]
  rw [if_pos hw]
  obtain ⟨v', w', hrun, h2, h3, _⟩ := run_append_own (P := P) w base t o.type e i z size bytes ht hi hz hsize hby hzs hsz v n xs hown ad m c news hl hnews h1 h63 hbytes hbase
  unfold Oper.wp
  simp [execOp, ho, resolve, invoke, builtin, hs, hx, hrun, Result.andThen]
  exact h v' w' h2 h3

set_option maxHeartbeats 2000000 in
theorem apart_no (a s t : Int) (w : World) (hlive : ∀ W, HasHead W → Calls Tryd.prog 22 #[] W (Ret W (.bool true))) (hF : HasHead w) (hmay : mayC a s t = false) :
    Calls Tryd.prog 5 #[.agg #[.int .i64 a, .int .i64 s, .int .i64 t]] w (Ret w (.bool true)) := by
  have cOf := fun W => Of_bad a s t hmay W
  clear hmay
  go_enter Tryd.func5, Tryd.ntmps5
  go_wp2_with (go_at_call 9; (with_reducible refine (cOf _).mono ?_); rintro _ _ ⟨rfl, x1, rfl⟩)
  have hS := Two.begin (l0 := .int .i64 0) (l1 := .int .i64 0) (T2 := 25) x1
  generalize x1.at'.alloc (.cells #[.int .i64 0, .int .i64 0] 25) = W1 at hS ⊢
  generalize x1.at'.heap.size = b2 at hS ⊢
  clear x1 cOf
  obtain ⟨p0, p1, p2, q0, q1, hT⟩ := hS
  have y1 := hT.s1
  have y2 := hT.s2
  have HT := Lib.hid hT
  clear hT
  go_wp2_with (first
    | (go_at_call 11; (with_reducible refine (LWords_zero _).mono ?_); rintro _ _ ⟨rfl, x1, rfl⟩)
    | (go_at_call 13; (with_reducible refine (later_of x1 (LFrontier_zero _)).mono ?_); rintro _ _ ⟨rfl, x1, rfl⟩)
    | (go_at_call 22; (with_reducible refine (later_of x1 (hlive _ (x1.heads (hF.below HT.out.bel)))).mono ?_); rintro _ _ ⟨rfl, x1, rfl⟩))
  go_ret
  exact Ret.mk rfl (x1.cat HT.out.bel HT.out.bel.size)

/-- The relation of the loops that gather: so many places, all in a row. -/
def ApRel (w : World) (base c n : Nat) (d : Nat) (v i : Value) (wr : World) : Prop :=
  ∃ k : Nat, k ≤ n ∧ i = .int .i64 k ∧ ∃ x : Later w, wr = x.at' ∧ Ints x.at' base v (upto (c + d * k))

/-- The relation of the loop that counts: the first i places were seen once. -/
def SnRel (g n : Nat) (w : World) (u : Value) (wr : World) : Prop :=
  ∃ i : Nat, i ≤ n ∧ u = .int .i64 i ∧ ∃ x : Turned g (g + 1) w, wr = x.at' ∧ x.at'.rowIs g 3 n (fun j => .int .i64 (if j < i then 1 else 0))

set_option maxHeartbeats 4000000 in
theorem apart_yes (a : Int) (s t : Nat) (w : World) (hlive : ∀ W, HasHead W → Calls Tryd.prog 22 #[] W (Ret W (.bool true))) (hF : HasHead w) (hmay : mayC a s t = true) :
    Calls Tryd.prog 5 #[.agg #[.int .i64 a, .int .i64 s, .int .i64 t]] w (Ret w (.bool true)) := by
  have cOf := fun W => Of_ok a s t hmay W
  obtain ⟨i0, hi, hz0, hz1, hz2⟩ := info_parts info_num
  obtain ⟨-, m1, m2, m3, m4, m5, m6⟩ := mayC_iff.1 hmay
  have cW := fun W => LWords_ok (t := t) (s := s) m5 m6 (by omega) m4 W
  have hN : wordsN t s = ((4 + t + 3 * s : Nat) : Int) := by unfold wordsN; omega
  rw [hN] at cW
  have d0 := fun W => LFrontier_ok (t := t) (s := s) m5 W
  have d1 := fun W => LStack_ok (t := t) (s := s) m5 W
  have d2 := fun W => LPending_ok (t := t) (s := s) m5 W
  have d3 := fun W => LEpoch_ok (t := t) (s := s) m5 W
  have cNo := fun (k : Int) W => LNote_any (t := t) (s := s) (by omega) m6 k W
  have cEn := fun (k : Int) W => LEntry_any (t := t) (s := s) (by omega) m6 (by omega) m4 k W
  have cSi := fun (k : Int) W => LSize_any (t := t) (s := s) (by omega) m6 (by omega) m4 k W
  have cLi := fun (k : Int) W => LLink_any (t := t) (s := s) (by omega) m6 (by omega) m4 k W
  clear hmay hN
  have t1 : decide (((4 + t + 3 * s : Nat) : Int) < t) = false := by simp; omega
  have t2 : decide (((4 + t + 3 * s : Nat) : Int) < s) = false := by simp; omega
  have t3 : ¬ (4 + t + 3 * s < t) := by omega
  have t4 : ¬ (4 + t + 3 * s < s) := by omega
  generalize hNN : 4 + t + 3 * s = N at cW t1 t2 t3 t4
  have HN := Lib.hid hNN
  clear hNN
  go_enter Tryd.func5, Tryd.ntmps5
  go_wp2_with (go_at_call 9; (with_reducible refine (cOf _).mono ?_); rintro _ _ ⟨rfl, x1, rfl⟩)
  have hS := Two.begin (l0 := .int .i64 t) (l1 := .int .i64 s) (T2 := 25) x1
  generalize x1.at'.alloc (.cells #[.int .i64 t, .int .i64 s] 25) = W1 at hS ⊢
  generalize x1.at'.heap.size = b2 at hS ⊢
  clear x1 cOf
  obtain ⟨p0, p1, p2, q0, q1, hT⟩ := hS
  have y1 := hT.s1
  have y2 := hT.s2
  refine wp_region_later (by kernel_rfl) (by kernel_rfl) ?_
  repeat (go_big_quiet_step ((go_at_call 11; (with_reducible exact later_of _ (cW _)))))
  refine wpQuiet_nil ?_
  rintro _ ⟨x2, rfl⟩
  go_wp2_with fail
  have hS := Two.later ⟨p0, p1, p2, q0, q1, hT⟩ x2
  have hD := Two.drew hS
  clear p0 p1 p2 q0 q1 hT y1 y2 t1 t2
  generalize x2.at' = V at hS hD ⊢
  clear x2 W1
  go_region_held3 (fun w' => w'.cell? ⟨w.heap.size, 0, none⟩ = some (.int .i64 a) ∧ w'.cell? ⟨w.heap.size, 1, none⟩ = some (.int .i64 s) ∧ w'.cell? ⟨w.heap.size, 2, none⟩ = some (.int .i64 t) ∧ w'.cell? ⟨b2, 0, none⟩ = some (.int .i64 t) ∧ w'.cell? ⟨b2, 1, none⟩ = some (.int .i64 s) ∧ Two w w.heap.size b2 w')
    (first | exact hD | assumption | exact Two.later ‹_ ∧ _› _ | exact Two.alloc ‹_ ∧ _› _) (first
    | (go_at_call 13; (with_reducible refine (d0 _).mono ?_); rintro _ _ ⟨rfl, ya, rfl⟩)
    | (go_at_call 14; (with_reducible refine (d1 _).mono ?_); rintro _ _ ⟨rfl, yb, rfl⟩)
    | (go_at_call 15; (with_reducible refine (d2 _).mono ?_); rintro _ _ ⟨rfl, yc, rfl⟩)
    | (go_at_call 16; (with_reducible refine (d3 _).mono ?_); rintro _ _ ⟨rfl, yd, rfl⟩))
  go_wp2_with fail
  obtain ⟨p0, p1, p2, q0, q1, hT⟩ := hS
  have z1 : Below V.heap.size V ya.at' := (Below.refl _ _).drew.trans ya.below
  have z2 := z1.trans (yb.below.mono z1.size)
  have z3 := z2.trans (yc.below.mono z2.size)
  have z4 := z3.trans (yd.below.mono z3.size)
  have z5 : Below V.heap.size V (yd.at'.alloc (.cells #[.int .i64 0, .int .i64 1, .int .i64 2, .int .i64 3] 3)) := z4.alloc z4.size _
  have hI : Ints (yd.at'.alloc (.cells #[.int .i64 0, .int .i64 1, .int .i64 2, .int .i64 3] 3)) V.heap.size (.slice (some ⟨yd.at'.heap.size, 0, none⟩) 4 4) (upto (4 + 1 * 0)) :=
    World.ownsRow_lit yd.at' #[.int .i64 0, .int .i64 1, .int .i64 2, .int .i64 3] 4 z4.size (by unfold maxLen; omega) rfl
  have v0 := hT.s1
  have v2 := hT.s2
  have hFV : HasHead V := hF.below hT.bel
  have HT := Lib.hid hT
  clear hT hD d0 d1 d2 d3 z1 z2 z3 z4
  go_loopw [5, 6] (fun v i wr => ApRel V V.heap.size 4 t 1 v i wr) (fun _ i _ => t - (intOf i).toNat)
  case atStart => exact ⟨0, by omega, rfl, ⟨_, z5⟩, rfl, hI⟩
  case round =>
    obtain ⟨k, hk, rfl, x, rfl, hown⟩ := hrel
    have hxz := x.below.size
    by_cases hkt : k < t
    · have hno := cNo k
      rw [noteN_in (by omega), show (4 : Int) + (k : Int) = ((4 + 1 * k : Nat) : Int) by omega] at hno
      have hkt' : (k : Int) < t := by omega
      have c1 : 4 + 1 * k ≤ 1000 := by omega
      generalize hq : 4 + 1 * k = q at hno hown c1
      have HQ := Lib.hid hq
      clear hI z5 hq
      go_wp2_with (first
        | (go_at_call 17; (with_reducible refine (hno _).mono ?_); rintro _ _ ⟨rfl, y, rfl⟩; have hyz := y.below.size)
        | (at_builtin; refine wpList_append_own _ rfl _ _ 33 rfl V.heap.size 3 i0 (.int .i64 0) 1 8 Tryd.underlying33 hi hz0 hz1 hz2 rfl (by decide) _ _ _ rfl ((hown.later y).alloc _) ⟨y.at'.heap.size, 0, none⟩ 1 1 [.int .i64 q] rfl rfl (cell_one_new _ _ _) (fun u hu => by simp at hu; subst hu; rfl) (by rw [upto_len]; unfold maxLen; omega) (by rw [upto_len]; omega) (by simp; omega) ?_; intro v' w4 hown' hgrow _; obtain ⟨y2, rfl, hO3⟩ := grown_late (xs := [(q : Int)]) (x.on y.below) (hown.later y) rfl hgrow hown'; clear hgrow hown'))
      go_roundw
      case rel => exact ⟨k + 1, by omega, by go_num, y2, rfl, by rw [show 4 + 1 * (k + 1) = q + 1 by have := HQ.out; omega, upto_succ]; exact hO3⟩
      case measure => simp [intOf]; omega
    · have ek : k = t := by omega
      subst ek
      clear hI z5 cNo
      go_wp2_with fail
      go_loopw [5, 7] (fun v i wr => ApRel V V.heap.size (4 + k) s 3 v i wr) (fun _ i _ => s - (intOf i).toNat)
      case atStart => exact ⟨0, by omega, rfl, x, rfl, by rw [show 4 + k + 3 * 0 = 4 + 1 * k by omega]; exact hown⟩
      case round =>
        obtain ⟨j, hj, rfl, x, rfl, hown⟩ := hrel
        have hxz := x.below.size
        by_cases hjs : j < s
        · have h1 := cEn j
          have h2 := cSi j
          have h3 := cLi j
          rw [partN_in (by omega), show (4 : Int) + (k : Int) + (j : Int) * 3 + 0 = ((4 + k + 3 * j : Nat) : Int) by omega] at h1
          rw [partN_in (by omega), show (4 : Int) + (k : Int) + (j : Int) * 3 + 1 = ((4 + k + 3 * j : Nat) : Int) + 1 by omega] at h2
          rw [partN_in (by omega), show (4 : Int) + (k : Int) + (j : Int) * 3 + 2 = ((4 + k + 3 * j : Nat) : Int) + 2 by omega] at h3
          have hjs' : (j : Int) < s := by omega
          have e0 : x.at'.cell? ⟨b2, 0, none⟩ = some (.int .i64 k) := (x.cell _ _ _ v2).trans q0
          have e1 : x.at'.cell? ⟨b2, 1, none⟩ = some (.int .i64 s) := (x.cell _ _ _ v2).trans q1
          have hSx : x.at'.drew.cell? ⟨b2, 0, none⟩ = some (.int .i64 k) ∧ x.at'.drew.cell? ⟨b2, 1, none⟩ = some (.int .i64 s) ∧ Same' V x.at'.drew := ⟨e0, e1, x.below.drew⟩
          have hownd : Ints x.at'.drew V.heap.size u5 (upto (4 + k + 3 * j)) := hown
          have c1 : 4 + k + 3 * j ≤ 1000 := by omega
          generalize hq : 4 + k + 3 * j = q at h1 h2 h3 hownd c1
          have HQ := Lib.hid hq
          clear hq e0 e1 hown
          go_wp2_with fail
          go_region_held3 (fun w' => w'.cell? ⟨b2, 0, none⟩ = some (.int .i64 k) ∧ w'.cell? ⟨b2, 1, none⟩ = some (.int .i64 s) ∧ Same' V w')
            (first | exact hSx | assumption | exact Same'.later v2 ‹_ ∧ _› _ | exact Same'.alloc v2 ‹_ ∧ _› _ | exact Same'.grown v2 ‹_ ∧ _› (Ints.alloc (by assumption) _) (by assumption)) (first
            | (go_at_call 18; (with_reducible refine (h1 _).mono ?_); rintro _ _ ⟨rfl, ya, rfl⟩; have hoa := Ints.later hownd ya)
            | (go_at_call 19; (with_reducible refine (h2 _).mono ?_); rintro _ _ ⟨rfl, yb, rfl⟩; have hob := Ints.later hoa yb)
            | (go_at_call 20; (with_reducible refine (h3 _).mono ?_); rintro _ _ ⟨rfl, yc, rfl⟩; have hoc := Ints.later hob yc)
            | (refine step_append_own rfl (.tmp 68) (.tmp 78) 33 rfl V.heap.size 3 i0 (.int .i64 0) 1 8 Tryd.underlying33 hi hz0 hz1 hz2 rfl (by decide) _ _ _ rfl (hoc.alloc _) ⟨yc.at'.heap.size, 0, none⟩ 3 3 [.int .i64 q, .int .i64 ((q : Int) + 1), .int .i64 ((q : Int) + 2)] rfl rfl cell_three (fun u hu => by simp at hu; rcases hu with rfl | rfl | rfl <;> rfl) (by rw [upto_len]; unfold maxLen; omega) (by rw [upto_len]; omega) ((same'Of ‹_ ∧ _›).size) ?_; intro v' w4 hown' hgrow))
          all_goals
            obtain ⟨y2, rfl, hO3⟩ := grown_late (xs := [(q : Int), (q : Int) + 1, (q : Int) + 2]) ⟨yc.at', same'Of (Same'.later v2 (Same'.later v2 (Same'.later v2 hSx ya) yb) yc)⟩ hoc rfl hgrow hown'
            go_wp2
            go_roundw
            case rel => exact ⟨j + 1, by omega, by go_num, y2, rfl, by rw [show 4 + k + 3 * (j + 1) = q + 3 by have := HQ.out; omega, upto_three]; exact hO3⟩
            case measure => simp [intOf]; omega
        · have ej : j = s := by omega
          subst ej
          have hown' : Ints x.at' V.heap.size u5 (upto N) := by rw [← HN.out]; exact hown
          have hne : upto N ≠ [] := fun h => by
            have h2 := congrArg List.length h
            rw [upto_len, List.length_nil] at h2
            omega
          obtain ⟨ga, ca, rfl, hga, hla, hca⟩ := hown'.open' hne
          rw [upto_len] at hca ⊢
          have hbx : Below w.heap.size w x.at' := HT.out.bel.trans (x.below.mono HT.out.bel.size)
          have e0 : x.at'.cell? ⟨b2, 0, none⟩ = some (.int .i64 k) := (x.cell _ _ _ v2).trans q0
          have e1 : x.at'.cell? ⟨b2, 1, none⟩ = some (.int .i64 j) := (x.cell _ _ _ v2).trans q1
          have e2 : x.at'.cell? ⟨w.heap.size, 1, none⟩ = some (.int .i64 j) := (x.cell _ _ _ v0).trans p1
          have HBX := Lib.hid hbx
          have hN1 : N ≤ 400 := by have := HN.out; omega
          have hN2 : 1 ≤ N := by have := HN.out; omega
          have hxb := x.lt _ v2
          have hxw := x.lt _ v0
          have hm := run_make_row' (P := Tryd.prog) 33 3 (.int .i64 0) 8 Tryd.underlying33 info_num rfl .i64 .i64 N (by omega) (by omega)
          have HC : Hid (∀ i : Nat, i < N → x.at'.cell? ⟨ga, i, none⟩ = some (.int .i64 i)) := fun i hi => by rw [hca i hi, upto_get N i hi]
          clear hown hown' hca cEn cSi cLi hbx p0 p1 p2 q0 q1
          generalize x.at' = V2 at *
          go_wp2_with (go_at_call 11; (with_reducible refine (cW _).mono ?_); rintro _ _ ⟨rfl, y, rfl⟩)
          have hrow : (y.at'.alloc (.cells (madeCells #[.int .i64 0] N) 3)).rowIs y.at'.heap.size 3 N (fun i => .int .i64 (if i < 0 then 1 else 0)) := (World.rowIs_made y.at' (.int .i64 0) N 3).congr fun i _ => by simp
          have hb3 : Below w.heap.size w (y.at'.alloc (.cells (madeCells #[.int .i64 0] N) 3)) := (HBX.out.trans (y.below.mono HBX.out.size)).alloc (Nat.le_trans HBX.out.size y.below.size) _
          have hlg : ga < y.at'.heap.size := y.lt _ hla
          have hls : y.at'.heap.size < (y.at'.alloc (.cells (madeCells #[.int .i64 0] N) 3)).heap.size := by simp
          have HC3 : Hid (∀ i : Nat, i < N → (y.at'.alloc (.cells (madeCells #[.int .i64 0] N) 3)).cell? ⟨ga, i, none⟩ = some (.int .i64 i)) := fun i hi => by
            rw [World.cell?_alloc_past _ _ _ hlg, y.cell _ _ _ hla]
            exact HC.out i hi
          have HB3 := Lib.hid hb3
          have hgs : w.heap.size ≤ y.at'.heap.size := Nat.le_trans HBX.out.size y.below.size
          have hFs := hF.below hb3
          clear hm cW hb3 HC HBX e0 e1 e2
          generalize hgsn : y.at'.heap.size = gs at *
          generalize y.at'.alloc (.cells (madeCells #[.int .i64 0] N) 3) = V3 at *
          clear hgsn
          go_loopw [9] (fun i wr => SnRel gs N V3 i wr) (fun i _ => N - (intOf i).toNat)
          case atStart => exact ⟨0, by omega, rfl, Turned.none _ _ _, rfl, hrow⟩
          case round =>
            obtain ⟨i, hiN, rfl, x, rfl, hr⟩ := hrel
            clear hrow
            have hlt2 := hr.lt
            by_cases hi2 : i < N
            · have k1 : x.at'.cell? ⟨ga, i, none⟩ = some (.int .i64 i) := (x.cell_lo _ _ _ (by omega) hlg).trans (HC3.out i hi2)
              have k2 := hr.cell hi2
              have k3 := hr.frozen i
              simp only [Nat.lt_irrefl, if_false] at k2
              have i1 : (i : Int) < N := by omega
              have i2 : ¬ (i : Int) < 0 := by omega
              have i3 : ¬ N ≤ i := by omega
              go_wp2
              go_roundw
              case rel =>
                refine ⟨i + 1, by omega, by go_num, x.on ((Touch.refl _ _ _).setCell _ _ (Nat.le_refl _) (Nat.lt_succ_self _)), rfl, (hr.set i (.int .i64 1)).congr fun q hq => ?_⟩
                by_cases e : q = i
                · subst e; simp
                · rw [if_neg e]
                  by_cases c : q < i
                  · rw [if_pos c, if_pos (by omega)]
                  · rw [if_neg c, if_neg (by omega)]
              case measure => simp [intOf]; omega
            · have eN : i = N := by omega
              subst eN
              have hb4 : Below w.heap.size w x.at' := x.turn.below HB3.out hgs HB3.out.size
              have hF4 := hF.below hb4
              have HB4 := Lib.hid hb4
              have HR : Hid (∀ q : Nat, q < i → x.at'.cell? ⟨gs, q, none⟩ = some (.int .i64 1)) := fun q hq => by
                have := hr.cell hq
                rwa [if_pos hq] at this
              clear hb4 hr HC3 hFs
              go_wp2_with fail
              generalize x.at' = V4 at *
              go_loop [10] (fun u => ∃ q : Nat, q ≤ i ∧ u = .int .i64 q) (fun u => i - (intOf u).toNat)
              case atStart => exact ⟨0, by omega, rfl⟩
              case round =>
                obtain ⟨q, hq, rfl⟩ := hrel
                by_cases hqi : q < i
                · have k1 := HR.out q hqi
                  have i1 : (q : Int) < i := by omega
                  go_wp2
                  go_round
                  case rel => exact ⟨q + 1, by omega, by go_num⟩
                  case measure => simp [intOf]; omega
                · have i1 : ¬ (q : Int) < i := by omega
                  clear hq
                  go_wp2_with (go_at_call 22; (with_reducible refine (hlive _ hF4).mono ?_); rintro _ _ ⟨rfl, y9, rfl⟩)
                  go_ret
                  exact Ret.mk rfl (y9.cat HB4.out HB4.out.size)
theorem LayoutApart_walk {a s t : Int} {w : World} (hlive : ∀ W, HasHead W → Calls Tryd.prog 22 #[] W (Ret W (.bool true))) (hF : HasHead w) :
    Calls Tryd.prog 5 #[.agg #[.int .i64 a, .int .i64 s, .int .i64 t]] w (Ret w (.bool true)) := by
  cases h : mayC a s t
  · exact apart_no a s t w hlive hF h
  · obtain ⟨-, -, -, h3, -, h5, -⟩ := mayC_iff.1 h
    obtain ⟨s, rfl⟩ := Int.eq_ofNat_of_zero_le (show 0 ≤ s by omega)
    obtain ⟨t, rfl⟩ := Int.eq_ofNat_of_zero_le (show 0 ≤ t by omega)
    exact apart_yes a s t w hlive hF h
end Go.Proofs.YtjcndjfiogbdiaaDoor
