/-
  What the library's maps.Equal comes to at the program's two map types, for layer 7.
  Conditions: none but that the maps are owned, or nil.
-/
import Derived.Test.YtlcegnehlhakdaaMdCopy
import Derived.Lib.SlMapEqual
import Derived.Maps.Ext
import Derived.Maps.RangeWalk
import Derived.Laws.IdiomRangeMap
import Derived.Deep.LoopGhost
import Derived.Shelf.SlMaps.Copy
namespace Go.Proofs.Ytlcegnehlhakdaa
open Go.RowKit Go.Maps Go.Shelf Go
attribute [local go_sem] Later.cell Later.frozen Later.lt Later.le
set_option linter.unusedVariables false
set_option linter.unusedSimpArgs false
set_option maxRecDepth 100000

/-- Whether two objects are alike, on data. -/
def eqO : DataW Unit → DataW Unit → Bool
  | .agg [.lit (.string s), .lit (.int .i64 p)], .agg [.lit (.string s'), .lit (.int .i64 p')] => (s == s') && (p == p')
  | _, _ => false
def eqU : DataW Unit → DataW Unit → Bool := fun _ _ => true
theorem toList_eq (s s' : ByteArray) : (s.toList == s'.toList) = (s.data.toList == s'.data.toList) := by
  rw [ByteArray.toList_eq, ByteArray.toList_eq]

set_option maxHeartbeats 4000000 in
theorem equal_O {b1 b2 n1 n2 : Nat} {D1 D2 : DataW Unit} (w : World) (h1 : w.ownsMap Try.prog 3 objR b1 n1 D1) (h2 : w.ownsMap Try.prog 3 objR b2 n2 D2) :
    Calls Try.prog 42 #[.map (some b1), .map (some b2)] w fun e w' => e = .returned (.bool (Lib.equalFuncD eqO D1 D2)) ∧ w.grownBy w' none := by
  have l1 := fun ty => h1.len (t := 56) Try.underlying56 ty
  have l2 := fun ty => h2.len (t := 56) Try.underlying56 ty
  obtain ⟨es1, rfl, hap, hkeys⟩ := h1.entries kInt
  have hb2 := h2.lt
  generalize hres : Lib.equalFuncD eqO (.map es1) D2 = res
  have RES : Aside (Lib.equalFuncD eqO (.map es1) D2 = res) := hres
  clear hres
  by_cases hsz : Maps.size (.map es1 : DataW Unit) = Maps.size D2
  · go_enter Try.func42, Try.ntmps42
    go_wp2_with (first
      | (at_range; refine wpList_range_own _ rfl _ 56 rfl 3 62 kInt Try.underlying56 objR b1 n1 _ rfl h1 ?_; intro w0 hrg0 hg0 hs0)
      | go_in)
    go_frame
    go_loopw [18] (fun _ wr => ∃ (left : Lit → Bool) (cnt : Nat), wr.ranges Try.prog 3 objR b1 w.heap.size n1 (.map es1) left cnt ∧ wr.ownsMap Try.prog 3 objR b2 n2 D2 ∧ w.grownBy wr none ∧ Aside (GoodAt eqO es1 D2 left))
      (fun _ wr => wr.rangeLeft b1 w.heap.size)
    case atStart => exact ⟨_, _, hrg0, h2.kept hg0 (by simp), hg0, good_start hkeys D2⟩
    case round =>
      obtain ⟨left, cnt, hrg, h2r, hgw, G⟩ := hrel
      go_wp2_with (first
        | (at_next; refine wpList_next_ranges _ rfl _ rfl 3 kInt objR id id (fun key _ _ => ⟨key, rfl⟩) (fun v _ _ => ⟨v, rfl⟩) b1 w.heap.size n1 _ _ _ rfl hrg ?_ ?_)
        | go_in)
      · intro _ hl0
        go_wp2
        go_ret
        exact ⟨by rw [← RES.out, all_good G.out hl0 hsz]; rfl, hgw⟩
      · intro x c kl yd yp w1 cnt1 hkey hlx hv hat hrg1 hlt hg1 hs1 hen
        have hgw1 : w.grownBy w1 none := hgw.andThen hg1 (fun j hj => by cases hj; exact Or.inl (Nat.le_refl _))
        have h2w1 := h2r.kept hg1 (fun e => by have := Option.some.inj e; omega)
        have HAT : Aside (∀ zd, (DataW.map es1).atKey kl zd = yd) := hat
        clear hat
        obtain ⟨s, p, rfl, ez⟩ := objR_inv hv
        rw [Prod.mk.injEq] at ez
        obtain ⟨rfl, rfl⟩ := ez
        cases hh : Maps.has D2 kl
        · have hbad : Lib.goodD eqO D2 (kl, .agg [.lit (.string s.data.toList), .lit (.int .i64 p)]) = false := by unfold Lib.goodD; rw [hh]; rfl
          go_wp2_with (first
            | (at_lookup; refine wpList_lookup_own_ok _ rfl _ _ 56 rfl 3 62 kInt Try.underlying56 objR (Try.zeroValue62 _) obD0 [] rfl b2 n2 D2 rfl (h2w1.alloc _) _ kl rfl hkey ?_; intro v2 ps2 hv2; rw [hh]; obtain ⟨s', p', rfl, ez⟩ := objR_inv hv2; rw [Prod.mk.injEq] at ez; obtain ⟨ez1, rfl⟩ := ez; go_frame)
            | go_in)
          go_ret
          exact ⟨by rw [← RES.out, bad_false hap hkeys HAT.out hbad]; rfl, (hgw1.andThen (World.grownBy_alloc _ _ none) (fun j hj => by cases hj)).andThen (World.grownBy_alloc _ _ none) (fun j hj => by cases hj)⟩
        · have h2a := h2w1.alloc (.cells #[.string s, .int .i64 p] 62)
          obtain ⟨v2, ps2, hrun, hv2⟩ := h2a.look_ok kInt Try.underlying56 (Try.zeroValue62 _) (zd := obD0) (zp := []) rfl hkey
          rw [hh] at hrun
          obtain ⟨s', p', rfl, ez⟩ := objR_inv hv2
          rw [Prod.mk.injEq] at ez
          obtain ⟨ez1, rfl⟩ := ez
          have hge : eqO (.agg [.lit (.string s.data.toList), .lit (.int .i64 p)]) (D2.atKey kl .nil) = ((s.toList == s'.toList) && (p == p')) := by
            rw [atKey_indep hh .nil obD0, ez1, toList_eq]; rfl
          have hgo : Lib.goodD eqO D2 (kl, (.agg [.lit (.string s.data.toList), .lit (.int .i64 p)])) = ((s.toList == s'.toList) && (p == p')) := by unfold Lib.goodD; rw [hh, ← hge]; rfl
          clear ez1 hge
          cases hs : (s.toList == s'.toList)
          · have hbad : Lib.goodD eqO D2 (kl, (.agg [.lit (.string s.data.toList), .lit (.int .i64 p)])) = false := by rw [hgo, hs]; rfl
            go_wp2_with go_in
            go_ret
            exact ⟨by rw [← RES.out, bad_false hap hkeys HAT.out hbad]; rfl, (hgw1.andThen (World.grownBy_alloc _ _ none) (fun j hj => by cases hj)).andThen (World.grownBy_alloc _ _ none) (fun j hj => by cases hj)⟩
          · cases hp : (p == p')
            · have hbad : Lib.goodD eqO D2 (kl, (.agg [.lit (.string s.data.toList), .lit (.int .i64 p)])) = false := by rw [hgo, hs, hp]; rfl
              go_wp2_with go_in
              go_ret
              exact ⟨by rw [← RES.out, bad_false hap hkeys HAT.out hbad]; rfl, (hgw1.andThen (World.grownBy_alloc _ _ none) (fun j hj => by cases hj)).andThen (World.grownBy_alloc _ _ none) (fun j hj => by cases hj)⟩
            · have hgood : Lib.goodD eqO D2 (kl, (.agg [.lit (.string s.data.toList), .lit (.int .i64 p)])) = true := by rw [hgo, hs, hp]; rfl
              go_wp2_with go_in
              have hg2 : w1.grownBy ((w1.alloc (.cells #[.string s, .int .i64 p] 62)).alloc (.cells #[.string s', .int .i64 p'] 62)) none := (World.grownBy_alloc w1 _ none).andThen (World.grownBy_alloc _ _ none) (fun j hj => by cases hj)
              have hrg2 := hrg1.kept hg2 (by simp) (by simp)
              go_roundw
              case rel => exact ⟨_, cnt1, hrg2, h2w1.kept hg2 (by simp), hgw1.andThen hg2 (fun j hj => by cases hj), good_step hap hkeys HAT.out G.out hgood⟩
              case measure => rw [hrg2.left_eq, hrg.left_eq]; exact hlt
  · have hne : ¬ ((Maps.size (.map es1 : DataW Unit) : Int) = (Maps.size D2 : Int)) := fun e => hsz (by exact_mod_cast e)
    go_enter Try.func42, Try.ntmps42
    go_wp2
    go_ret
    exact ⟨by rw [← RES.out, sizes_false hsz]; rfl, World.grownBy.refl _ _⟩

set_option maxHeartbeats 4000000 in
theorem equal_U {b1 b2 n1 n2 : Nat} {D1 D2 : DataW Unit} (w : World) (h1 : w.ownsMap Try.prog 3 unitElem b1 n1 D1) (h2 : w.ownsMap Try.prog 3 unitElem b2 n2 D2) :
    Calls Try.prog 43 #[.map (some b1), .map (some b2)] w fun e w' => e = .returned (.bool (Lib.equalFuncD eqU D1 D2)) ∧ w.grownBy w' none := by
  have l1 := fun ty => h1.len (t := 57) Try.underlying57 ty
  have l2 := fun ty => h2.len (t := 57) Try.underlying57 ty
  obtain ⟨es1, rfl, hap, hkeys⟩ := h1.entries kInt
  have hb2 := h2.lt
  generalize hres : Lib.equalFuncD eqU (.map es1) D2 = res
  have RES : Aside (Lib.equalFuncD eqU (.map es1) D2 = res) := hres
  clear hres
  by_cases hsz : Maps.size (.map es1 : DataW Unit) = Maps.size D2
  · go_enter Try.func43, Try.ntmps43
    go_wp2_with (first
      | (at_range; refine wpList_range_own _ rfl _ 57 rfl 3 64 kInt Try.underlying57 unitElem b1 n1 _ rfl h1 ?_; intro w0 hrg0 hg0 hs0)
      | go_in)
    go_frame
    go_loopw [18] (fun _ wr => ∃ (left : Lit → Bool) (cnt : Nat), wr.ranges Try.prog 3 unitElem b1 w.heap.size n1 (.map es1) left cnt ∧ wr.ownsMap Try.prog 3 unitElem b2 n2 D2 ∧ w.grownBy wr none ∧ Aside (GoodAt eqU es1 D2 left))
      (fun _ wr => wr.rangeLeft b1 w.heap.size)
    case atStart => exact ⟨_, _, hrg0, h2.kept hg0 (by simp), hg0, good_start hkeys D2⟩
    case round =>
      obtain ⟨left, cnt, hrg, h2r, hgw, G⟩ := hrel
      go_wp2_with (first
        | (at_next; refine wpList_next_ranges _ rfl _ rfl 3 kInt unitElem id id (fun key _ _ => ⟨key, rfl⟩) (fun v _ _ => ⟨v, rfl⟩) b1 w.heap.size n1 _ _ _ rfl hrg ?_ ?_)
        | go_in)
      · intro _ hl0
        go_wp2
        go_ret
        exact ⟨by rw [← RES.out, all_good G.out hl0 hsz]; rfl, hgw⟩
      · intro x c kl yd yp w1 cnt1 hkey hlx hv hat hrg1 hlt hg1 hs1 hen
        have hgw1 : w.grownBy w1 none := hgw.andThen hg1 (fun j hj => by cases hj; exact Or.inl (Nat.le_refl _))
        have h2w1 := h2r.kept hg1 (fun e => by have := Option.some.inj e; omega)
        have HAT : Aside (∀ zd, (DataW.map es1).atKey kl zd = yd) := hat
        clear hat
        obtain ⟨rfl, ez⟩ := unitElem_inv hv
        rw [Prod.mk.injEq] at ez
        obtain ⟨rfl, rfl⟩ := ez
        cases hh : Maps.has D2 kl
        · have hbad : Lib.goodD eqU D2 (kl, .agg []) = false := by unfold Lib.goodD; rw [hh]; rfl
          go_wp2_with (first
            | (at_lookup; refine wpList_lookup_own_ok _ rfl _ _ 57 rfl 3 64 kInt Try.underlying57 unitElem (Try.zeroValue64 _) (.agg []) [] rfl b2 n2 D2 rfl (h2w1.alloc _) _ kl rfl hkey ?_; intro v2 ps2 hv2; rw [hh]; obtain ⟨rfl, ez⟩ := unitElem_inv hv2; rw [Prod.mk.injEq] at ez; obtain ⟨ez1, rfl⟩ := ez; go_frame)
            | go_in)
          go_ret
          exact ⟨by rw [← RES.out, bad_false hap hkeys HAT.out hbad]; rfl, (hgw1.andThen (World.grownBy_alloc _ _ none) (fun j hj => by cases hj)).andThen (World.grownBy_alloc _ _ none) (fun j hj => by cases hj)⟩
        · have h2a := h2w1.alloc (.cells #[] 64)
          obtain ⟨v2, ps2, hrun, hv2⟩ := h2a.look_ok kInt Try.underlying57 (Try.zeroValue64 _) (zd := (.agg [])) (zp := []) rfl hkey
          rw [hh] at hrun
          obtain ⟨rfl, ez⟩ := unitElem_inv hv2
          have hgood : Lib.goodD eqU D2 (kl, .agg []) = true := by unfold Lib.goodD; rw [hh]; rfl
          go_wp2_with go_in
          have hg2 : w1.grownBy ((w1.alloc (.cells #[] 64)).alloc (.cells #[] 64)) none := (World.grownBy_alloc w1 _ none).andThen (World.grownBy_alloc _ _ none) (fun j hj => by cases hj)
          have hrg2 := hrg1.kept hg2 (by simp) (by simp)
          go_roundw
          case rel => exact ⟨_, cnt1, hrg2, h2w1.kept hg2 (by simp), hgw1.andThen hg2 (fun j hj => by cases hj), good_step hap hkeys HAT.out G.out hgood⟩
          case measure => rw [hrg2.left_eq, hrg.left_eq]; exact hlt
  · have hne : ¬ ((Maps.size (.map es1 : DataW Unit) : Int) = (Maps.size D2 : Int)) := fun e => hsz (by exact_mod_cast e)
    go_enter Try.func43, Try.ntmps43
    go_wp2
    go_ret
    exact ⟨by rw [← RES.out, sizes_false hsz]; rfl, World.grownBy.refl _ _⟩
end Go.Proofs.Ytlcegnehlhakdaa
