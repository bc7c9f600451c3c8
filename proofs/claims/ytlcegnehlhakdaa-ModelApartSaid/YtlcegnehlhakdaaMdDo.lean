/-
  What the program's own do comes to for layer 7.
  Conditions: that the map stands in memory and is a good one, and that the op is answered by OK.
-/
import Derived.Test.YtlcegnehlhakdaaMdBytes
import Derived.StillTailTactics
import Derived.Test.YtlcegnehlhakdaaHeldLast
namespace Go.Proofs.Ytlcegnehlhakdaa
open Go.RowKit Go.Maps
attribute [local go_sem] Later.cell Later.frozen Later.lt Later.le
set_option linter.unusedVariables false
set_option linter.unusedSimpArgs false
set_option maxRecDepth 4000

/-- A region whose last operations stand in one forced order behind others that only read. -/
theorem region_tail {P : Program} {id : Nat} {Q : Exit → Act → World → Prop} {a : Act} {w : World} {l : List Oper} (n : Nat) (hm : P.follows .mixedOrders = true) (hB : Region.lexTailB .any l.toArray n = true)
    (h : wpStill P l.toArray w.drew (fun a' => wpList P l.toArray Q (l.drop n) a' w.drew) (l.take n) a) : (Code.region id l.toArray true).wp P Q a w := wp_region_still_tail n hm hB h
/-- What stands behind a call that may have turned the map. -/
def MdPost (w : World) (g : Nat) (bo bt : Option Nat) (S' : St) (w' : World) : Prop :=
  ∃ bo' bt', MapAt w' g bo' bt' S' ∧ Kept (foot g bo bt) w w' ∧ ∀ b ∈ foot g bo' bt', b ∈ foot g bo bt ∨ w.heap.size ≤ b
/-- The objects are turned, in their block. -/
theorem MapAt.turn {w W W' : World} {g b : Nat} {bt : Option Nat} {S S' : St} {n : Nat} (hM : MapAt w g (some b) bt S) (hB : Below w.heap.size w W) (hT : S'.T = S.T)
    (ho : W'.ownsMap Try.prog 3 objR b n (objD S'.L)) (hg : W.grownBy W' (some b)) : MapAt W' g (some b) bt S' ∧ Kept (foot g (some b) bt) w W' := by
  have hW := hM.below hB
  have hk : Kept [b] W W' := Kept.grown hg (by simp)
  have hgb : g ≠ b := fun e => by
    rcases hM.objs with ⟨c, _⟩ | ⟨c, e', h'⟩
    · cases c
    · obtain rfl := Option.some.inj e'
      obtain ⟨es, clock, hb, _⟩ := h'
      rw [← e, hM.blk] at hb
      cases hb
  refine ⟨⟨(hk.block g hW.lt (by simpa using hgb)).trans hW.blk, .inr ⟨b, rfl, ownsObj ho⟩, ?_, hW.both, hW.apart, fun c => by cases c⟩, ?_⟩
  · rw [hT]
    rcases hW.told with h1 | ⟨c, rfl, h2⟩
    · exact .inl h1
    · exact .inr ⟨c, rfl, hk.owns h2 (by have := hW.apart b rfl; simp; intro e; exact this (by rw [e]))⟩
  · exact (Kept.of_below _ hB).trans hk fun x hx => .inl (by simp at hx; subst hx; simp [foot, mbl])

set_option maxHeartbeats 1000000 in
theorem do_del {w : World} {g b : Nat} {bt : Option Nat} {S : St} (hM : MapAt w g (some b) bt S) (h off n : Int) (hw : (Lit.int .i64 h).wf = true) :
    Calls Try.prog 36 #[.pointer (some ⟨g, 0, none⟩), .agg #[.int .i64 1, .int .i64 h, .int .i64 off, .int .i64 n]] w
      (fun en w' => en = .returned (.tuple #[]) ∧ MapAt w' g (some b) bt (doS S 1 h off n) ∧ Kept (foot g (some b) bt) w w') := by
  have hg := hM.lt
  have c0 := hM.cell0
  go_enter Try.func36, Try.ntmps36
  go_wp2_with fail
  obtain ⟨W, hW⟩ : ∃ W, W = (w.alloc (.cells #[.int .i64 1, .int .i64 h, .int .i64 off, .int .i64 n] 39)) := ⟨_, rfl⟩
  have hwW : Below w.heap.size w W.drew := by rw [hW]; exact ((Below.refl _ w).alloc (Nat.le_refl _) _).drew
  have k0 : W.drew.cell? ⟨g, 0, none⟩ = some (.map (some b)) := (hwW.cell (p := ⟨g, 0, none⟩) hg).trans c0
  have k1 : W.drew.cell? ⟨w.heap.size, 1, none⟩ = some (.int .i64 h) := by rw [hW]; simp [go_sem]
  rw [← hW]
  clear hW
  refine region_tail 6 (by kernel_rfl) (by kernel_rfl) ?_
  generalize W.drew = W at hwW k0 k1 ⊢
  simp only [List.take_succ_cons, List.take_zero, List.drop_succ_cons, List.drop_zero]
  repeat still_step
  refine wpStill_nil ?_
  have hob : W.ownsMap Try.prog 3 objR b S.L.length (objD S.L) := by
    rcases (hM.below hwW).objs with ⟨c, _⟩ | ⟨c, e', h'⟩
    · cases c
    · obtain rfl := Option.some.inj e'
      exact h'
  refine wpList_delete_own _ rfl _ _ 56 3 rfl 62 kInt Try.underlying56 objR b _ _ rfl hob _ _ rfl (key_int hw) ?_
  intro w1 hown1 hturn1
  rw [objD_del] at hown1
  have hfin := MapAt.turn (S' := doS S 1 h off n) hM hwW (by simp [doS]) (by simpa [doS] using hown1) hturn1.grown
  clear hob k0 k1 hM c0 hown1 hturn1 hwW
  go_wp2
  refine bodyPost_ret (v := .tuple #[]) (by simp [results, Try.results36, go_sem]) rfl ?_
  exact ⟨rfl, hfin⟩

/-- What the region that puts an object asks of the world. -/
structure PutS (w : World) (g b : Nat) (h : Int) (v : Value) (cs : Array Value) (V : World) : Prop where
  k : V.cell? ⟨g, 0, none⟩ = some (.map (some b))
  k0 : V.cell? ⟨w.heap.size, 0, none⟩ = cs[0]?
  k1 : V.cell? ⟨w.heap.size, 1, none⟩ = cs[1]?
  k2 : V.cell? ⟨w.heap.size, 2, none⟩ = cs[2]?
  k3 : V.cell? ⟨w.heap.size, 3, none⟩ = cs[3]?
  hl : (Instr.lookup 56 (.map (some b)) (.int .i64 h) false).run Try.prog V = .ok v V
  hw : Below w.heap.size w V

set_option maxHeartbeats 4000000 in
theorem do_put {w : World} {g b : Nat} {bt : Option Nat} {S : St} (hM : MapAt w g (some b) bt S) (hG : Good S) (hN : S.L.length ≤ 1000) (d h off n : Int) (hw : (Lit.int .i64 h).wf = true) (hd : ¬ d = 1)
    {x : Ob} (hx : getO S.L h = some x) (hr : d = 3 → 0 ≤ off ∧ off < x.bs.length) :
    Calls Try.prog 36 #[.pointer (some ⟨g, 0, none⟩), .agg #[.int .i64 d, .int .i64 h, .int .i64 off, .int .i64 n]] w
      (fun en w' => en = .returned (.tuple #[]) ∧ MapAt w' g (some b) bt (doS S d h off n) ∧ Kept (foot g (some b) bt) w w') := by
  have hg := hM.lt
  have c0 := hM.cell0
  have hgx := hG.live x (getO_some hx).1
  have cb := fun W => behind_any x hgx.2.1 ⟨hgx.2.2.1, hgx.2.2.2.1⟩ d h off n hr W
  have ed : (d == 1) = false := by simpa using hd
  have eS : doS S d h off n = { S with L := putO S.L (obB x d off n) } := by simp [doS, hd, hx]
  have ekey : (obB x d off n).h = h := by rw [obB_h]; exact (getO_some hx).2
  have hlk : ∀ W, Below w.heap.size w W → (Instr.lookup 56 (.map (some b)) (.int .i64 h) false).run Try.prog W = .ok (obV x) W := fun W y => by
    have := look_plain hM hw W y
    rw [hx] at this
    exact this
  unfold obV at hlk
  unfold obV opV at cb
  go_enter Try.func36, Try.ntmps36
  go_wp2_with fail
  obtain ⟨W, hW⟩ : ∃ W, W = (w.alloc (.cells #[.int .i64 d, .int .i64 h, .int .i64 off, .int .i64 n] 39)) := ⟨_, rfl⟩
  have hwW : Below w.heap.size w W.drew := by rw [hW]; exact ((Below.refl _ w).alloc (Nat.le_refl _) _).drew
  have hwS : W.drew.heap.size = w.heap.size + 1 := by rw [hW]; simp
  have hk : ∀ V, Below W.drew.heap.size W.drew V → PutS w g b h (.agg #[.string (bsV x.bs), .int .i64 x.pins]) #[.int .i64 d, .int .i64 h, .int .i64 off, .int .i64 n] V := fun V hV => by
    have hwV : Below w.heap.size w V := hwW.trans (hV.mono (Below.size hwW))
    have hc : ∀ o, V.cell? ⟨w.heap.size, o, none⟩ = W.drew.cell? ⟨w.heap.size, o, none⟩ := fun o => hV.cell (p := ⟨w.heap.size, o, none⟩) (by rw [hwS]; simp)
    refine ⟨(hwV.cell (p := ⟨g, 0, none⟩) hg).trans c0, ?_, ?_, ?_, ?_, hlk V hwV, hwV⟩
    · rw [hc 0, hW]; simp [go_sem]
    · rw [hc 1, hW]; simp [go_sem]
    · rw [hc 2, hW]; simp [go_sem]
    · rw [hc 3, hW]; simp [go_sem]
  rw [← hW]
  clear hW hlk
  have hS0 := hk _ (Below.refl _ _)
  refine wp_region_T (n := 15) (S := PutS w g b h (.agg #[.string (bsV x.bs), .int .i64 x.pins]) #[.int .i64 d, .int .i64 h, .int .i64 off, .int .i64 n]) (by kernel_rfl) ⟨by kernel_rfl, by kernel_rfl, by kernel_rfl, rfl⟩ ?_
  intro hL inv
  refine wpAnyT_take 0 (v := .pointer (some ⟨g, 0, none⟩)) hL inv rfl (by decide) (by kernel_rfl) (by kernel_rfl) (fun _ _ _ h => h) (.inl ⟨rfl, fun V hS => ?_⟩) hS0 ?_
  · obtain ⟨k, k0, k1, k2, k3, hl, _⟩ := hS
    go_simp
  clear inv
  intro inv
  refine wpAnyT_take 1 (v := .pointer (some ⟨g, 0, none⟩)) hL inv rfl (by decide) (by kernel_rfl) (by kernel_rfl) (fun _ _ _ h => h) (.inl ⟨rfl, fun V hS => ?_⟩) hS0 ?_
  · obtain ⟨k, k0, k1, k2, k3, hl, _⟩ := hS
    go_simp
  clear inv
  intro inv
  refine wpAnyT_take 2 (v := .pointer (some ⟨g, 0, none⟩)) hL inv rfl (by decide) (by kernel_rfl) (by kernel_rfl) (fun _ _ _ h => h) (.inl ⟨rfl, fun V hS => ?_⟩) hS0 ?_
  · obtain ⟨k, k0, k1, k2, k3, hl, _⟩ := hS
    go_simp
  clear inv
  intro inv
  refine wpAnyT_take 3 (v := .map (some b)) hL inv rfl (by decide) (by kernel_rfl) (by kernel_rfl) (fun _ _ _ h => h) (.inl ⟨rfl, fun V hS => ?_⟩) hS0 ?_
  · obtain ⟨k, k0, k1, k2, k3, hl, _⟩ := hS
    go_simp
  clear inv
  intro inv
  refine wpAnyT_take 4 (v := .pointer (some ⟨w.heap.size, 1, none⟩)) hL inv rfl (by decide) (by kernel_rfl) (by kernel_rfl) (fun _ _ _ h => h) (.inl ⟨rfl, fun V hS => ?_⟩) hS0 ?_
  · obtain ⟨k, k0, k1, k2, k3, hl, _⟩ := hS
    go_simp
  clear inv
  intro inv
  refine wpAnyT_take 5 (v := .int .i64 h) hL inv rfl (by decide) (by kernel_rfl) (by kernel_rfl) (fun _ _ _ h => h) (.inl ⟨rfl, fun V hS => ?_⟩) hS0 ?_
  · obtain ⟨k, k0, k1, k2, k3, hl, _⟩ := hS
    go_simp
  clear inv
  intro inv
  refine wpAnyT_take 6 (v := .pointer (some ⟨g, 0, none⟩)) hL inv rfl (by decide) (by kernel_rfl) (by kernel_rfl) (fun _ _ _ h => h) (.inl ⟨rfl, fun V hS => ?_⟩) hS0 ?_
  · obtain ⟨k, k0, k1, k2, k3, hl, _⟩ := hS
    go_simp
  clear inv
  intro inv
  refine wpAnyT_take 7 (v := .pointer (some ⟨g, 0, none⟩)) hL inv rfl (by decide) (by kernel_rfl) (by kernel_rfl) (fun _ _ _ h => h) (.inl ⟨rfl, fun V hS => ?_⟩) hS0 ?_
  · obtain ⟨k, k0, k1, k2, k3, hl, _⟩ := hS
    go_simp
  clear inv
  intro inv
  refine wpAnyT_take 8 (v := .pointer (some ⟨g, 0, none⟩)) hL inv rfl (by decide) (by kernel_rfl) (by kernel_rfl) (fun _ _ _ h => h) (.inl ⟨rfl, fun V hS => ?_⟩) hS0 ?_
  · obtain ⟨k, k0, k1, k2, k3, hl, _⟩ := hS
    go_simp
  clear inv
  intro inv
  refine wpAnyT_take 9 (v := .map (some b)) hL inv rfl (by decide) (by kernel_rfl) (by kernel_rfl) (fun _ _ _ h => h) (.inl ⟨rfl, fun V hS => ?_⟩) hS0 ?_
  · obtain ⟨k, k0, k1, k2, k3, hl, _⟩ := hS
    go_simp
  clear inv
  intro inv
  refine wpAnyT_take 10 (v := .pointer (some ⟨w.heap.size, 1, none⟩)) hL inv rfl (by decide) (by kernel_rfl) (by kernel_rfl) (fun _ _ _ h => h) (.inl ⟨rfl, fun V hS => ?_⟩) hS0 ?_
  · obtain ⟨k, k0, k1, k2, k3, hl, _⟩ := hS
    go_simp
  clear inv
  intro inv
  refine wpAnyT_take 11 (v := .int .i64 h) hL inv rfl (by decide) (by kernel_rfl) (by kernel_rfl) (fun _ _ _ h => h) (.inl ⟨rfl, fun V hS => ?_⟩) hS0 ?_
  · obtain ⟨k, k0, k1, k2, k3, hl, _⟩ := hS
    go_simp
  clear inv
  intro inv
  refine wpAnyT_take 12 (v := .agg #[.string (bsV x.bs), .int .i64 x.pins]) hL inv rfl (by decide) (by kernel_rfl) (by kernel_rfl) (fun _ _ _ h => h) (.inl ⟨rfl, fun V hS => ?_⟩) hS0 ?_
  · obtain ⟨k, k0, k1, k2, k3, hl, _⟩ := hS
    go_simp
  clear inv
  intro inv
  refine wpAnyT_take 13 (v := .agg #[.int .i64 d, .int .i64 h, .int .i64 off, .int .i64 n]) hL inv rfl (by decide) (by kernel_rfl) (by kernel_rfl) (fun _ _ _ h => h) (.inl ⟨rfl, fun V hS => ?_⟩) hS0 ?_
  · obtain ⟨k, k0, k1, k2, k3, hl, _⟩ := hS
    go_simp
  clear inv
  intro inv
  have hV0 : Below w.heap.size w W.drew := hwW
  generalize W.drew = V at hS0 hV0 hk ⊢
  refine wpAnyT_one 14 rfl (by kernel_rfl) ?_
  go_wp2_with (first
    | (go_at_call 47; (with_reducible refine (cb _).mono ?_); rintro _ _ ⟨rfl, y, rfl⟩))
  refine ⟨.inr (hk _ y.below), ?_⟩
  refine wpAnyT_one 15 rfl (by kernel_rfl) ?_
  have hVy : Below w.heap.size w y.at' := hV0.trans (y.below.mono (Below.size hV0))
  have hob : y.at'.ownsMap Try.prog 3 objR b S.L.length (objD S.L) := by
    rcases (hM.below hVy).objs with ⟨c, _⟩ | ⟨c, e', h'⟩
    · cases c
    · obtain rfl := Option.some.inj e'
      exact h'
  refine wpList_mapUpdate_own _ rfl _ _ _ 56 rfl 3 62 kInt Try.underlying56 objR b _ _ rfl hob (by unfold maxLen; omega) _ _ _ rfl rfl (key_int hw) _ [] (objR_mk (obB x d off n)) ?_
  intro w1 hown1 hgrow1
  rw [← ekey, objD_put] at hown1
  have hfin := MapAt.turn (S' := doS S d h off n) hM hVy (by rw [eS]) (by rw [eS]; exact hown1) hgrow1
  refine ⟨.inl rfl, wpAnyT_done (by kernel_rfl) ?_⟩
  clear hob hS0 hk hL inv hown1 hgrow1 cb
  go_wp2
  refine ⟨rfl, .tuple #[], ?_, rfl, hfin⟩
  simp [results, Try.results36, go_sem]
end Go.Proofs.Ytlcegnehlhakdaa
