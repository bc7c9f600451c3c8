/-
  What the program's own tell comes to for layer 7.
  Conditions: that the map stands in memory and is a good one; at most 1000 objects.
-/
import Derived.Test.YtlcegnehlhakdaaMdDo
namespace Go.Proofs.Ytlcegnehlhakdaa
open Go.RowKit Go.Maps
attribute [local go_sem] Later.cell Later.frozen Later.lt Later.le
set_option linter.unusedVariables false
set_option linter.unusedSimpArgs false
set_option maxRecDepth 4000

theorem info_u8 : (Try.prog.info? 5).map (fun i => (i.zero, i.size, i.bytes)) = some (some (.int .u8 0), 1, 1) := by kernel_rfl
theorem make_u8 (n : Nat) (hn : n ≤ 1000) (W : World) :
    ∃ w', (Instr.makeSlice 89 (.int .i64 n) (.int .i64 n)).run Try.prog W = .ok (.slice (some ⟨W.heap.size, 0, none⟩) n n) w' ∧ (∀ j, j < n → w'.cell? ⟨W.heap.size, 0 + j, none⟩ = some (.int .u8 ((List.replicate n (0 : Int)).getD j 0))) ∧ W.grownBy w' none := by
  have hin := info_u8
  cases hi : Try.prog.info? 5 with
  | none => rw [hi] at hin; simp at hin
  | some i =>
  rw [hi] at hin
  simp only [Option.map_some, Option.some.injEq, Prod.mk.injEq] at hin
  obtain ⟨hz, hsz, hby⟩ := hin
  obtain ⟨w', e, h, g⟩ := run_makeSlice_full (P := Try.prog) W W.heap.size 89 5 i (.int .u8 0) 1 Try.underlying89 hi hz hsz .i64 .i64 n (by omega) (by rw [hby]; omega) (by unfold maxLen; omega) (Nat.le_refl _)
  refine ⟨w', e, fun j hj => ?_, g⟩
  have hx : (madeCells (Value.int .u8 0).cells (n * 1)).toList = List.replicate n (Value.int .u8 0) := by rw [Nat.mul_one]; exact toList_madeCells_one _ _
  rw [hx] at h
  have := World.ownsRow.cells h (g := W.heap.size) rfl j (.int .u8 0) (by simp [hj])
  rw [Addr.add_lit] at this
  rw [this]
  simp [hj]
theorem text_zeros (n : Nat) (W : World) (g cap : Nat) (hc : ∀ j, j < n → W.cell? ⟨g, 0 + j, none⟩ = some (.int .u8 ((List.replicate n (0 : Int)).getD j 0))) :
    (convert 89 9 (.slice (some ⟨g, 0, none⟩) n cap)).run Try.prog W = .ok (.string (bsV (List.replicate n 0))) W := by
  rw [run_convert_bytes_arg W 89 5 Try.underlying89 Try.underlying5 g 0 n cap (List.replicate n 0) (by simp) hc 9 Try.underlying9]
  congr 2
  unfold strOfNums bsV
  rw [List.map_replicate]
  rfl

theorem tell_no {w : World} {g : Nat} {bo bt : Option Nat} {S : St} (hM : MapAt w g bo bt S) (r n : Int) (hw : (Lit.int .i64 r).wf = true) (hr : newB S r = false) :
    Calls Try.prog 46 #[.pointer (some ⟨g, 0, none⟩), .int .i64 r, .int .i64 n] w (Ret w (.bool false)) := by
  have hg := hM.lt
  have c1 := hM.cell1
  have cs := fun W => Split_any r W
  have hlk : ∀ y : Later w, (Instr.lookup 57 (.map bt) (.int .i64 r) true).run Try.prog y.at' = .ok (.tuple #[.agg #[], .bool (S.T.contains r)]) y.at' := fun y => look_told hM hw y.at' y.below
  cases k : isH r
  · rw [k] at cs
    go_enter Try.func46, Try.ntmps46
    go_wp2_with (first
      | (go_at_call 52; (with_reducible refine (cs _).mono ?_); rintro _ _ ⟨rfl, y, rfl⟩))
    go_ret
    exact Ret.mk rfl y.below
  · have kt : S.T.contains r = true := by
      simp only [newB, k, Bool.true_and, Bool.not_eq_false'] at hr
      exact hr
    rw [k] at cs
    rw [kt] at hlk
    go_enter Try.func46, Try.ntmps46
    go_wp2_with (first
      | (go_at_call 52; (with_reducible refine (cs _).mono ?_); rintro _ _ ⟨rfl, y, rfl⟩))
    go_ret
    exact Ret.mk rfl (Below.alloc y.below (Below.size y.below) _)
/-- What the region that lays a new object asks of the world. -/
structure TellS (B : World) (g b : Nat) (V : World) : Prop where
  k : V.cell? ⟨g, 0, none⟩ = some (.map (some b))
  hw : Below B.heap.size B V
/-- The handles that were told are turned, in their block. -/
theorem MapAt.turnT {w W' : World} {g t : Nat} {bo : Option Nat} {S S' : St} {n : Nat} (hM : MapAt w g bo (some t) S) (hL : S'.L = S.L)
    (ho : W'.ownsMap Try.prog 3 unitElem t n (setD S'.T)) (hg : w.grownBy W' (some t)) : MapAt W' g bo (some t) S' ∧ Kept (foot g bo (some t)) w W' := by
  have hk : Kept [t] w W' := Kept.grown hg (by simp)
  have hgb : g ≠ t := fun e => by
    rcases hM.told with ⟨c, _⟩ | ⟨c, e', h'⟩
    · cases c
    · obtain rfl := Option.some.inj e'
      obtain ⟨es, clock, hb, _⟩ := h'
      rw [← e, hM.blk] at hb
      cases hb
  refine ⟨⟨(hk.block g hM.lt (by simpa using hgb)).trans hM.blk, ?_, .inr ⟨t, rfl, ownsSet ho⟩, hM.both, hM.apart, fun c => (by have := hM.both.1 c; cases this)⟩, ?_⟩
  · rw [hL]
    rcases hM.objs with h1 | ⟨c, rfl, h2⟩
    · exact .inl h1
    · exact .inr ⟨c, rfl, hk.owns h2 (by have := hM.apart c rfl; simp; intro e; exact this (by rw [e]))⟩
  · exact hk.mono fun x hx => by simp at hx; subst hx; simp [foot, mbl]

set_option maxHeartbeats 4000000 in
theorem tell_nil {w : World} {g : Nat} {S : St} (hM : MapAt w g none none S) (hN : S.L.length ≤ 1000 ∧ S.T.length ≤ 1000) (r n : Int) (hn : 1 ≤ n ∧ n ≤ 256) (hw : (Lit.int .i64 r).wf = true) (hr : newB S r = true) :
    Calls Try.prog 46 #[.pointer (some ⟨g, 0, none⟩), .int .i64 r, .int .i64 n] w (fun en w' => en = .returned (.bool true) ∧ MdPost w g none none (newS S n r) w') := by
  obtain ⟨m, rfl⟩ : ∃ m : Nat, n = (m : Int) := ⟨n.toNat, by omega⟩
  have hm : m ≤ 256 := by omega
  have hg := hM.lt
  have c0 := hM.cell0
  have c1 := hM.cell1
  have f0 := hM.frozen 0
  have f1 := hM.frozen 1
  have cs := fun W => Split_any r W
  have k : isH r = true := by simp only [newB, Bool.and_eq_true] at hr; exact hr.1
  have kt : S.T.contains r = false := by simp only [newB, Bool.and_eq_true, Bool.not_eq_true'] at hr; exact hr.2
  rw [k] at cs
  have hlk : ∀ y : Later w, (Instr.lookup 57 (.map none) (.int .i64 r) true).run Try.prog y.at' = .ok (.tuple #[.agg #[], .bool false]) y.at' := fun y => by
    have := look_told hM hw y.at' y.below
    rw [kt] at this
    exact this
  have hq : ∀ W, (binOp .eql 57 (.map none) (.map none)).run Try.prog W = .ok (.bool true) W := fun _ => by kernel_rfl
  have hmm := @run_makeMap Try.prog
  have hb3 : ∀ y : Later w, Below w.heap.size w (((y.at'.alloc (.cells #[] 64)).alloc (.map #[] 0)).alloc (.map #[] 0)) := fun y => ((y.below.alloc (Below.size y.below) _).alloc (by have := y.below.size; simp; omega) _).alloc (by have := y.below.size; simp; omega) _
  have z0 : ∀ y : Later w, (((y.at'.alloc (.cells #[] 64)).alloc (.map #[] 0)).alloc (.map #[] 0)).cell? ⟨g, 0, none⟩ = some (.map none) := fun y => ((hb3 y).cell (p := ⟨g, 0, none⟩) hg).trans c0
  have z1 : ∀ y : Later w, (((y.at'.alloc (.cells #[] 64)).alloc (.map #[] 0)).alloc (.map #[] 0)).cell? ⟨g, 1, none⟩ = some (.map none) := fun y => ((hb3 y).cell (p := ⟨g, 1, none⟩) hg).trans c1
  have q0 : ∀ y : Later w, (((y.at'.alloc (.cells #[] 64)).alloc (.map #[] 0)).alloc (.map #[] 0)).frozen? ⟨g, 0, none⟩ = false := fun y => ((hb3 y).frozen (p := ⟨g, 0, none⟩) hg).trans f0
  have q1 : ∀ y : Later w, (((y.at'.alloc (.cells #[] 64)).alloc (.map #[] 0)).alloc (.map #[] 0)).frozen? ⟨g, 1, none⟩ = false := fun y => ((hb3 y).frozen (p := ⟨g, 1, none⟩) hg).trans f1
  go_enter Try.func46, Try.ntmps46
  go_wp2_with (first
    | (go_at_call 52; (with_reducible refine (cs _).mono ?_); rintro _ _ ⟨rfl, y, rfl⟩))
  obtain ⟨b, hb⟩ : ∃ b, b = y.at'.heap.size + 1 := ⟨_, rfl⟩
  obtain ⟨t, ht⟩ : ∃ t, t = y.at'.heap.size + 1 + 1 := ⟨_, rfl⟩
  have hst := hM.nos rfl
  subst hst
  have hys := y.below.size
  generalize hV : (((((y.at'.alloc (.cells #[] 64)).alloc (.map #[] 0)).alloc (.map #[] 0)).setCell ⟨g, 0, none⟩ (.map (some (y.at'.heap.size + 1)))).setCell ⟨g, 1, none⟩ (.map (some (y.at'.heap.size + 1 + 1)))) = V
  have hMV : MapAt V g (some b) (some t) St.none := by
    have hne : ¬ g = y.at'.heap.size + 1 := by omega
    have hne2 : ¬ g = y.at'.heap.size + 1 + 1 := by omega
    have hby := (y.below.block g hg).trans hM.blk
    have hgy : g < y.at'.heap.size := by omega
    have h1 := World.ownsMap_made (H := Unit) (y.at'.alloc (.cells #[] 64)) Try.prog 3 objR
    have h2 := World.ownsMap_made (H := Unit) ((y.at'.alloc (.cells #[] 64)).alloc (.map #[] 0)) Try.prog 3 unitElem
    have e1 : (y.at'.alloc (.cells #[] 64)).heap.size = b := by rw [hb]; simp
    have e2 : ((y.at'.alloc (.cells #[] 64)).alloc (.map #[] 0)).heap.size = t := by rw [ht]; simp
    rw [e1] at h1
    rw [e2] at h2
    refine ⟨?_, .inr ⟨b, rfl, ?_⟩, .inr ⟨t, rfl, ?_⟩, by simp, fun c h h' => by simp at h h'; omega, fun c => by cases c⟩
    · rw [← hV, hb, ht]
      simp [World.setCell, Array.getElem?_modify, Array.getElem?_push, hby, hgy, Nat.ne_of_lt, hne, hne2]
      exact ⟨_, ((hb3 y).block g hg).trans hM.blk, rfl⟩
    · rw [← hV]
      exact ((h1.alloc _).setCell (by simp; omega) _).setCell (by simp; omega) _
    · rw [← hV]
      exact (h2.setCell (by simp; omega) _).setCell (by simp; omega) _
  have hKV : Kept [g] w V := by
    rw [← hV]
    have k0 : Kept [g] w (((y.at'.alloc (.cells #[] 64)).alloc (.map #[] 0)).alloc (.map #[] 0)) := Kept.of_below _ ((((y.below.alloc (by omega) _).alloc (by simp; omega) _).alloc (by simp; omega) _))
    exact (k0.trans (Kept.setCell (F := [g]) _ (by simp) _) (fun b hb => .inl hb)).trans (Kept.setCell (F := [g]) _ (by simp) _) (fun b hb => .inl hb)
  have hFoot : ∀ c ∈ foot g (some b) (some t), c ∈ foot g none none ∨ w.heap.size ≤ c := by
    intro c hc
    simp [foot, mbl] at hc ⊢
    omega
  have hN1 : St.none.L.length ≤ 1000 := hN.1
  have hN2 : St.none.T.length ≤ 1000 := hN.2
  have hK1 : ∀ W', Kept (foot g (some b) (some t)) V W' → Kept (foot g none none) w W' := fun W' k => hKV.trans k (fun c hc => by simpa [foot, mbl] using hFoot c hc)
  rw [← hb]
  clear hb ht hV hys hlk z0 z1 q0 q1 hb3
  obtain ⟨S, hS⟩ : ∃ S, S = St.none := ⟨_, rfl⟩
  rw [← hS] at hMV hN1 hN2
  have HS := Lib.hid hS
  clear hS
  have hVd : Below V.heap.size V V.drew := (Below.refl _ _).drew
  have hMd := hMV.below hVd
  have hk : ∀ X, Below V.drew.heap.size V.drew X → TellS V.drew g b X := fun X hX => ⟨(hX.cell (p := ⟨g, 0, none⟩) hMd.lt).trans hMd.cell0, hX⟩
  have hS0 := hk _ (Below.refl _ _)
  refine wp_region_T (n := 9) (S := TellS V.drew g b) (by kernel_rfl) ⟨by kernel_rfl, by kernel_rfl, by kernel_rfl, rfl⟩ ?_
  intro hL inv
  refine wpAnyT_take 0 (v := .pointer (some ⟨g, 0, none⟩)) hL inv rfl (by decide) (by kernel_rfl) (by kernel_rfl) (fun _ _ _ h => h) (.inl ⟨rfl, fun V hS => ?_⟩) hS0 ?_
  · obtain ⟨k, _⟩ := hS
    go_simp
  clear inv
  intro inv
  refine wpAnyT_take 1 (v := .pointer (some ⟨g, 0, none⟩)) hL inv rfl (by decide) (by kernel_rfl) (by kernel_rfl) (fun _ _ _ h => h) (.inl ⟨rfl, fun V hS => ?_⟩) hS0 ?_
  · obtain ⟨k, _⟩ := hS
    go_simp
  clear inv
  intro inv
  refine wpAnyT_take 2 (v := .pointer (some ⟨g, 0, none⟩)) hL inv rfl (by decide) (by kernel_rfl) (by kernel_rfl) (fun _ _ _ h => h) (.inl ⟨rfl, fun V hS => ?_⟩) hS0 ?_
  · obtain ⟨k, _⟩ := hS
    go_simp
  clear inv
  intro inv
  refine wpAnyT_take 3 (v := .map (some b)) hL inv rfl (by decide) (by kernel_rfl) (by kernel_rfl) (fun _ _ _ h => h) (.inl ⟨rfl, fun V hS => ?_⟩) hS0 ?_
  · obtain ⟨k, _⟩ := hS
    go_simp
  clear inv
  intro inv
  refine wpAnyT_take 4 (v := .int .i64 r) hL inv rfl (by decide) (by kernel_rfl) (by kernel_rfl) (fun _ _ _ h => h) (.inl ⟨rfl, fun V hS => ?_⟩) hS0 ?_
  · obtain ⟨k, _⟩ := hS
    go_simp
  clear inv
  intro inv
  refine wpAnyT_take 5 (v := .int .i64 m) hL inv rfl (by decide) (by kernel_rfl) (by kernel_rfl) (fun _ _ _ h => h) (.inl ⟨rfl, fun V hS => ?_⟩) hS0 ?_
  · obtain ⟨k, _⟩ := hS
    go_simp
  clear inv
  intro inv
  obtain ⟨w2, e2, hz, gr⟩ := make_u8 m (by omega) V.drew
  have e3 := text_zeros m w2 V.drew.heap.size m hz
  have b2 : Below V.drew.heap.size V.drew w2 := (Below.refl _ _).grown gr (Nat.le_refl _) (by simp)
  generalize V.drew.heap.size = g2 at e2 e3
  refine wpAnyT_one 6 rfl (by kernel_rfl) ?_
  go_wp2_with fail
  refine ⟨.inr (hk _ b2), ?_⟩
  refine wpAnyT_one 7 rfl (by kernel_rfl) ?_
  go_wp2_with fail
  refine ⟨.inr (hk _ b2), ?_⟩
  refine wpAnyT_one 8 rfl (by kernel_rfl) ?_
  go_wp2_with fail
  refine ⟨.inr (hk _ b2), ?_⟩
  refine wpAnyT_one 9 rfl (by kernel_rfl) ?_
  have hb2 : Below V.heap.size V w2 := hVd.trans (b2.mono (Below.size hVd))
  have hob : w2.ownsMap Try.prog 3 objR b S.L.length (objD S.L) := by
    rcases (hMV.below hb2).objs with ⟨c, _⟩ | ⟨c, e', h'⟩
    · cases c
    · obtain rfl := Option.some.inj e'
      exact h'
  refine wpList_mapUpdate_own _ rfl _ _ _ 56 rfl 3 62 kInt Try.underlying56 objR b _ _ rfl hob (by unfold maxLen; omega) _ _ _ rfl rfl (key_int hw) _ [] (objR_mk ⟨r, List.replicate m 0, 0⟩) ?_
  intro w3 hown1 hgrow1
  have hput := objD_put S.L ⟨r, List.replicate m 0, 0⟩
  simp only at hput
  rw [hput] at hown1
  obtain ⟨hM3, hK3⟩ := MapAt.turn (S' := ⟨putO S.L ⟨r, List.replicate m 0, 0⟩, S.T⟩) hMV hb2 rfl hown1 hgrow1
  refine ⟨.inl rfl, wpAnyT_done (by kernel_rfl) ?_⟩
  clear hob hS0 hk hL inv hown1 hgrow1 hput e2 e3 hz b2 hb2
  have d1 := hM3.cell1
  have hlt3 := hM3.lt
  have hot : w3.ownsMap Try.prog 3 unitElem t S.T.length (setD S.T) := by
    rcases hM3.told with ⟨c, _⟩ | ⟨c, e', h'⟩
    · cases c
    · obtain rfl := Option.some.inj e'
      exact h'
  go_wp2_with (first | (at_mapUpdate; refine wpList_mapUpdate_own _ rfl _ _ _ 57 rfl 3 64 kInt Try.underlying57 unitElem t _ _ rfl hot (by unfold maxLen; omega) _ _ _ rfl rfl (key_int hw) _ [] unitElem_mk ?_) | go_in)
  intro w4 hown4 hgrow4
  rw [setD_put] at hown4
  obtain ⟨hM4, hK4⟩ := MapAt.turnT (S' := newS S m r) hM3 (by simp [newS]) (by simpa [newS] using hown4) hgrow4
  go_wp2
  go_ret
  have hS := HS.out
  rw [hS] at hM4
  exact ⟨rfl, some b, some t, hM4, hK1 _ (hK3.trans hK4 fun c hc => .inl hc), hFoot⟩

set_option maxHeartbeats 4000000 in
theorem tell_more {w : World} {g b t : Nat} {S : St} (hM : MapAt w g (some b) (some t) S) (hN : S.L.length ≤ 1000 ∧ S.T.length ≤ 1000) (r n : Int) (hn : 1 ≤ n ∧ n ≤ 256) (hw : (Lit.int .i64 r).wf = true) (hr : newB S r = true) :
    Calls Try.prog 46 #[.pointer (some ⟨g, 0, none⟩), .int .i64 r, .int .i64 n] w (fun en w' => en = .returned (.bool true) ∧ MdPost w g (some b) (some t) (newS S n r) w') := by
  obtain ⟨m, rfl⟩ : ∃ m : Nat, n = (m : Int) := ⟨n.toNat, by omega⟩
  have hm : m ≤ 256 := by omega
  have hg := hM.lt
  have c0 := hM.cell0
  have c1 := hM.cell1
  have f0 := hM.frozen 0
  have f1 := hM.frozen 1
  have cs := fun W => Split_any r W
  have k : isH r = true := by simp only [newB, Bool.and_eq_true] at hr; exact hr.1
  have kt : S.T.contains r = false := by simp only [newB, Bool.and_eq_true, Bool.not_eq_true'] at hr; exact hr.2
  rw [k] at cs
  have hlk : ∀ y : Later w, (Instr.lookup 57 (.map (some t)) (.int .i64 r) true).run Try.prog y.at' = .ok (.tuple #[.agg #[], .bool false]) y.at' := fun y => by
    have := look_told hM hw y.at' y.below
    rw [kt] at this
    exact this
  have hq : ∀ W, (binOp .eql 57 (.map (some t)) (.map none)).run Try.prog W = .ok (.bool false) W := fun _ => by kernel_rfl
  have hmm := @run_makeMap Try.prog
  go_enter Try.func46, Try.ntmps46
  go_wp2_with (first
    | (go_at_call 52; (with_reducible refine (cs _).mono ?_); rintro _ _ ⟨rfl, y, rfl⟩))
  have hyA : Below w.heap.size w (y.at'.alloc (.cells #[] 64)) := y.below.alloc (Below.size y.below) _
  generalize (y.at'.alloc (.cells #[] 64)) = V at hyA
  have hMV := hM.below hyA
  have hFoot : ∀ c ∈ foot g (some b) (some t), c ∈ foot g (some b) (some t) ∨ w.heap.size ≤ c := fun c hc => .inl hc
  have hN1 := hN.1
  have hN2 := hN.2
  have hK1 : ∀ W', Kept (foot g (some b) (some t)) V W' → Kept (foot g (some b) (some t)) w W' := fun W' k => (Kept.of_below _ hyA).trans k (fun c hc => .inl hc)
  have hVd : Below V.heap.size V V.drew := (Below.refl _ _).drew
  have hMd := hMV.below hVd
  have hk : ∀ X, Below V.drew.heap.size V.drew X → TellS V.drew g b X := fun X hX => ⟨(hX.cell (p := ⟨g, 0, none⟩) hMd.lt).trans hMd.cell0, hX⟩
  have hS0 := hk _ (Below.refl _ _)
  refine wp_region_T (n := 9) (S := TellS V.drew g b) (by kernel_rfl) ⟨by kernel_rfl, by kernel_rfl, by kernel_rfl, rfl⟩ ?_
  intro hL inv
  refine wpAnyT_take 0 (v := .pointer (some ⟨g, 0, none⟩)) hL inv rfl (by decide) (by kernel_rfl) (by kernel_rfl) (fun _ _ _ h => h) (.inl ⟨rfl, fun V hS => ?_⟩) hS0 ?_
  · obtain ⟨k, _⟩ := hS
    go_simp
  clear inv
  intro inv
  refine wpAnyT_take 1 (v := .pointer (some ⟨g, 0, none⟩)) hL inv rfl (by decide) (by kernel_rfl) (by kernel_rfl) (fun _ _ _ h => h) (.inl ⟨rfl, fun V hS => ?_⟩) hS0 ?_
  · obtain ⟨k, _⟩ := hS
    go_simp
  clear inv
  intro inv
  refine wpAnyT_take 2 (v := .pointer (some ⟨g, 0, none⟩)) hL inv rfl (by decide) (by kernel_rfl) (by kernel_rfl) (fun _ _ _ h => h) (.inl ⟨rfl, fun V hS => ?_⟩) hS0 ?_
  · obtain ⟨k, _⟩ := hS
    go_simp
  clear inv
  intro inv
  refine wpAnyT_take 3 (v := .map (some b)) hL inv rfl (by decide) (by kernel_rfl) (by kernel_rfl) (fun _ _ _ h => h) (.inl ⟨rfl, fun V hS => ?_⟩) hS0 ?_
  · obtain ⟨k, _⟩ := hS
    go_simp
  clear inv
  intro inv
  refine wpAnyT_take 4 (v := .int .i64 r) hL inv rfl (by decide) (by kernel_rfl) (by kernel_rfl) (fun _ _ _ h => h) (.inl ⟨rfl, fun V hS => ?_⟩) hS0 ?_
  · obtain ⟨k, _⟩ := hS
    go_simp
  clear inv
  intro inv
  refine wpAnyT_take 5 (v := .int .i64 m) hL inv rfl (by decide) (by kernel_rfl) (by kernel_rfl) (fun _ _ _ h => h) (.inl ⟨rfl, fun V hS => ?_⟩) hS0 ?_
  · obtain ⟨k, _⟩ := hS
    go_simp
  clear inv
  intro inv
  obtain ⟨w2, e2, hz, gr⟩ := make_u8 m (by omega) V.drew
  have e3 := text_zeros m w2 V.drew.heap.size m hz
  have b2 : Below V.drew.heap.size V.drew w2 := (Below.refl _ _).grown gr (Nat.le_refl _) (by simp)
  generalize V.drew.heap.size = g2 at e2 e3
  refine wpAnyT_one 6 rfl (by kernel_rfl) ?_
  go_wp2_with fail
  refine ⟨.inr (hk _ b2), ?_⟩
  refine wpAnyT_one 7 rfl (by kernel_rfl) ?_
  go_wp2_with fail
  refine ⟨.inr (hk _ b2), ?_⟩
  refine wpAnyT_one 8 rfl (by kernel_rfl) ?_
  go_wp2_with fail
  refine ⟨.inr (hk _ b2), ?_⟩
  refine wpAnyT_one 9 rfl (by kernel_rfl) ?_
  have hb2 : Below V.heap.size V w2 := hVd.trans (b2.mono (Below.size hVd))
  have hob : w2.ownsMap Try.prog 3 objR b S.L.length (objD S.L) := by
    rcases (hMV.below hb2).objs with ⟨c, _⟩ | ⟨c, e', h'⟩
    · cases c
    · obtain rfl := Option.some.inj e'
      exact h'
  refine wpList_mapUpdate_own _ rfl _ _ _ 56 rfl 3 62 kInt Try.underlying56 objR b _ _ rfl hob (by unfold maxLen; omega) _ _ _ rfl rfl (key_int hw) _ [] (objR_mk ⟨r, List.replicate m 0, 0⟩) ?_
  intro w3 hown1 hgrow1
  have hput := objD_put S.L ⟨r, List.replicate m 0, 0⟩
  simp only at hput
  rw [hput] at hown1
  obtain ⟨hM3, hK3⟩ := MapAt.turn (S' := ⟨putO S.L ⟨r, List.replicate m 0, 0⟩, S.T⟩) hMV hb2 rfl hown1 hgrow1
  refine ⟨.inl rfl, wpAnyT_done (by kernel_rfl) ?_⟩
  clear hob hS0 hk hL inv hown1 hgrow1 hput e2 e3 hz b2 hb2
  have d1 := hM3.cell1
  have hlt3 := hM3.lt
  have hot : w3.ownsMap Try.prog 3 unitElem t S.T.length (setD S.T) := by
    rcases hM3.told with ⟨c, _⟩ | ⟨c, e', h'⟩
    · cases c
    · obtain rfl := Option.some.inj e'
      exact h'
  go_wp2_with (first | (at_mapUpdate; refine wpList_mapUpdate_own _ rfl _ _ _ 57 rfl 3 64 kInt Try.underlying57 unitElem t _ _ rfl hot (by unfold maxLen; omega) _ _ _ rfl rfl (key_int hw) _ [] unitElem_mk ?_) | go_in)
  intro w4 hown4 hgrow4
  rw [setD_put] at hown4
  obtain ⟨hM4, hK4⟩ := MapAt.turnT (S' := newS S m r) hM3 (by simp [newS]) (by simpa [newS] using hown4) hgrow4
  go_wp2
  go_ret
  exact ⟨rfl, some b, some t, hM4, hK1 _ (hK3.trans hK4 fun c hc => .inl hc), hFoot⟩
end Go.Proofs.Ytlcegnehlhakdaa
