/-
  The document's own Try of layer 7: an op of an object that is told OK.
  Conditions: that the map stands in memory and is a good one; at most 1000 objects.
-/
import Derived.Test.YtlcegnehlhakdaaRefByte
namespace Go.Proofs.Ytlcegnehlhakdaa
open Go.RowKit Go.Maps Go
attribute [local go_sem] Later.cell Later.frozen Later.lt Later.le
set_option linter.unusedVariables false
set_option linter.unusedSimpArgs false
set_option maxRecDepth 8000

theorem Ints.open' {w : World} {base : Nat} {v : Value} {l : List Int} (h : Ints w base v l) (hl : l ≠ []) :
    ∃ g cap, v = .slice (some ⟨g, 0, none⟩) l.length cap ∧ base ≤ g ∧ g < w.heap.size ∧ ∀ j, j < l.length → w.cell? ⟨g, j, none⟩ = some (.int .i64 (l.getD j 0)) := by
  have h' := h
  rcases h.2 with ⟨_, h0⟩ | ⟨g, cap, cur, rfl, hg, hh, _, _, _, _⟩
  · exact absurd (List.eq_nil_of_length_eq_zero h0) hl
  · refine ⟨g, cap, rfl, hg, (Array.getElem?_eq_some_iff.1 hh).1, fun j hj => ?_⟩
    have := World.ownsRow.cells h' (g := g) rfl j (.int .i64 (l.getD j 0)) (by simp [hj])
    rwa [Addr.add_lit, Nat.zero_add] at this
theorem irow_other {W : World} {g : Nat} {l : List Int} {a : Addr} {v : Value} (h : IRow W (some ⟨g, 0, none⟩) l) (hne : a.block ≠ g) : IRow (W.setCell a v) (some ⟨g, 0, none⟩) l := fun j hj => by
  obtain ⟨g', cs, e, hg, hc⟩ := h j hj
  have e' : g = g' := by simpa using e
  subst e'
  exact ⟨g, cs, rfl, (Go.Deep.blk_setCell_other _ _ _ _ (Ne.symm hne)).trans hg, hc⟩
theorem doS_eq1 {S : St} {h off n p : Int} : doS S 1 h off n = ⟨putF ⟨h, [], p⟩ S.L, S.T⟩ := by
  rw [putF_del rfl]
  simp [doS]
theorem doS_put {S : St} {d h off n : Int} {x : Ob} {b : Ob} (hG : Good S) (hd : d ≠ 1) (hx : getO S.L h = some x) (hb : obB x d off n = b) (hn : b.bs ≠ []) : doS S d h off n = ⟨putF b S.L, S.T⟩ := by
  rw [putF_put hG.up hn]
  unfold doS
  rw [if_neg hd, hx, ← hb]
theorem doS_eq2 {S : St} {h off n : Int} {x : Ob} (hG : Good S) (hx : getO S.L h = some x) : doS S 2 h off n = ⟨putF ⟨h, x.bs, x.pins⟩ S.L, S.T⟩ := by
  obtain ⟨hm, rfl⟩ := getO_some hx
  exact doS_put hG (by decide) hx (by simp [obB]) (hG.live _ hm).1
theorem doS_eq3 {S : St} {h off n : Int} {x : Ob} (hG : Good S) (hx : getO S.L h = some x) : doS S 3 h off n = ⟨putF ⟨h, x.bs.set off.toNat (u8 n), x.pins⟩ S.L, S.T⟩ := by
  obtain ⟨hm, rfl⟩ := getO_some hx
  exact doS_put hG (by decide) hx (by simp [obB]) (fun e => (hG.live _ hm).1 (by simpa using congrArg List.length e))
theorem doS_eq4 {S : St} {h off n : Int} {x : Ob} (hG : Good S) (hx : getO S.L h = some x) : doS S 4 h off n = ⟨putF ⟨h, x.bs, x.pins + 1⟩ S.L, S.T⟩ := by
  obtain ⟨hm, rfl⟩ := getO_some hx
  exact doS_put hG (by decide) hx (by simp [obB]) (hG.live _ hm).1
theorem doS_eq5 {S : St} {h off n : Int} {x : Ob} (hG : Good S) (hx : getO S.L h = some x) : doS S 5 h off n = ⟨putF ⟨h, x.bs, x.pins - 1⟩ S.L, S.T⟩ := by
  obtain ⟨hm, rfl⟩ := getO_some hx
  exact doS_put hG (by decide) hx (by simp [obB]) (hG.live _ hm).1
/-- What is read while an object is put in. -/
def DoS (U : World) (k a : Nat) (v0 v1 v2 v3 : Value) (V : World) : Prop :=
  V.cell? ⟨k, 0, none⟩ = some v0 ∧ V.cell? ⟨a, 0, none⟩ = some v1 ∧ V.cell? ⟨a, 1, none⟩ = some v2 ∧ V.cell? ⟨a, 2, none⟩ = some v3 ∧ Snc U V
theorem cell_lt {W : World} {a : Addr} {v : Value} (h : W.cell? a = some v) : a.block < W.heap.size := Decidable.byContradiction fun hn => by
  have e : W.heap[a.block]? = none := by simp; omega
  simp [World.cell?, e] at h

set_option maxHeartbeats 4000000 in
theorem refTry_do {w : World} {k : Nat} {S : St} (hR : RefAt w k S) (hG : Good S) (hN : S.L.length ≤ 1000) (d h off n : Int) (hd : 1 ≤ d ∧ d ≤ 5) {x : Ob} (hx : getO S.L h = some x) (hE : obE x d off = 0) :
    Calls Try.prog 17 #[.pointer (some ⟨k, 0, none⟩), .agg #[.int .i64 d, .int .i64 h, .int .i64 off, .int .i64 n], .agg #[.int .i64 0, .int .i64 (ansN' S d h off n)]] w (fun en w' => en = .returned (.bool true) ∧ RefAt w' k (doS S d h off n) ∧ NT (some k) w w') := by
  obtain ⟨B, hB⟩ : ∃ B, B = (w.alloc (.cells #[.int .i64 d, .int .i64 h, .int .i64 off, .int .i64 n] 39)).alloc (.cells #[.int .i64 0, .int .i64 (ansN' S d h off n)] 35) := ⟨_, rfl⟩
  have hwB : Below w.heap.size w B := by rw [hB]; exact ((Below.refl _ w).alloc (Nat.le_refl _) _).alloc (by simp) _
  have fo : Fs B w.heap.size [.int .i64 d, .int .i64 h, .int .i64 off, .int .i64 n] := by rw [hB]; exact (Fs.new' _ _ rfl rfl : Fs (w.alloc _) _ _).alloc _
  have fr : Fs B (w.heap.size + 1) [.int .i64 0, .int .i64 (ansN' S d h off n)] := by rw [hB]; exact Fs.new' _ _ (by simp) rfl
  have ca := refAnswer_any (hR.nt (NT.of_below hwB)) hG hN d h off n
  have e1 : ansE S d h off n = 0 := by
    unfold ansE
    rw [if_neg (by omega), if_neg (by omega), hx]
    exact hE
  have e2 : ansH d n = true := by
    unfold ansH
    rw [decide_eq_false (by omega)]
    rfl
  rw [e1, e2] at ca
  unfold opV resV at ca
  generalize ansN' S d h off n = N at ca fr hB ⊢
  have hfin : ∀ (y : Later B) (o : Obj), Snc w (y.at'.alloc o) ∧ Fs (y.at'.alloc o) w.heap.size [.int .i64 d, .int .i64 h, .int .i64 off, .int .i64 n] ∧ Fs (y.at'.alloc o) (w.heap.size + 1) [.int .i64 0, .int .i64 N] := fun y o => by
    have h1 := hwB.trans (y.below.mono (Below.size hwB))
    exact ⟨h1.alloc (Below.size h1) _, (fo.later y).alloc _, (fr.later y).alloc _⟩
  subst hB
  clear hwB fo fr e1 e2
  have HD := Lib.hid hd
  have HX := Lib.hid hx
  have HE := Lib.hid hE
  clear hd hx hE
  have mk := trivial
  go_enter Try.func17, Try.ntmps17
  go_wp2_with (first
    | (go_at_call 14; clear mk; (with_reducible refine ca.mono ?_); rintro _ _ ⟨rfl, y, rfl⟩; obtain ⟨hS1, fo, fr⟩ := hfin y (.cells #[.int .i64 0, .int .i64 N] 35)))
  generalize y.at'.alloc (.cells #[.int .i64 0, .int .i64 N] 35) = U at *
  clear hfin ca
  have hRU := hR.nt (NT.of_below hS1)
  rcases findI_spec h S.L with ⟨hno, _⟩ | ⟨i, hi, hgi, hfi, hhi⟩
  · rw [HX.out] at hno; cases hno
  have exi : S.L[i]! = x := by rw [HX.out] at hgi; exact (Option.some.inj hgi).symm
  have hRd : RefAt U.drew k S := hRU.nt (NT.of_below (Below.refl _ _).drew)
  obtain ⟨g, len, c, q, c2, hlen, t0, t1, t2, t3, hrow⟩ := hRU.thing hi hhi
  rw [exi] at t2 t3 hrow
  have hfd := fun W (hW : RefAt W k S) => refFind_any hW hN h
  rw [hfi] at hfd
  have hil : (i : Int) < len := by omega
  have hil2 : i < len := by omega
  clear hgi hhi hfi exi
  have hSd : Snc U U.drew := (Below.refl _ _).drew
  have hkl : k < U.heap.size := cell_lt t0
  have hgl : g < U.heap.size := cell_lt t1
  have hol : w.heap.size < U.heap.size := fo.lt
  have o1 : U.cell? ⟨w.heap.size, 1, none⟩ = some (.int .i64 h) := fo.at' 1 rfl
  have kB : ∀ W' : World, Snc U W' → W'.cell? ⟨k, 0, none⟩ = some (.slice (some ⟨g, 0, none⟩) len c) ∧ W'.cell? ⟨w.heap.size, 1, none⟩ = some (.int .i64 h) ∧ W'.cell? ⟨g, i * 3, none⟩ = some (.int .i64 h) ∧ W'.cell? ⟨g, i * 3 + 1, none⟩ = some (.slice q x.bs.length c2) ∧ W'.cell? ⟨g, i * 3 + 2, none⟩ = some (.int .i64 x.pins) ∧ Snc U W' := fun W' hW =>
    ⟨(hW.cell (p := ⟨k, 0, none⟩) hkl).trans t0, (hW.cell (p := ⟨w.heap.size, 1, none⟩) hol).trans o1, (hW.cell (p := ⟨g, i * 3, none⟩) hgl).trans t1, (hW.cell (p := ⟨g, i * 3 + 1, none⟩) hgl).trans t2, (hW.cell (p := ⟨g, i * 3 + 2, none⟩) hgl).trans t3, hW⟩
  have HKB := Lib.hid kB
  have kL : ∀ {W' : World} {c0 c1 c2 c3 c4 : Prop}, (c0 ∧ c1 ∧ c2 ∧ c3 ∧ c4 ∧ Snc U W') → RefAt W' k S := fun h => hRU.nt (NT.of_below h.2.2.2.2.2)
  clear kB t0 t1 t2 t3 o1 hRd hlen
  go_region_held3 (fun W' => W'.cell? ⟨k, 0, none⟩ = some (.slice (some ⟨g, 0, none⟩) len c) ∧ W'.cell? ⟨w.heap.size, 1, none⟩ = some (.int .i64 h) ∧ W'.cell? ⟨g, i * 3, none⟩ = some (.int .i64 h) ∧ W'.cell? ⟨g, i * 3 + 1, none⟩ = some (.slice q x.bs.length c2) ∧ W'.cell? ⟨g, i * 3 + 2, none⟩ = some (.int .i64 x.pins) ∧ Snc U W') (first
    | exact HKB.out _ hSd
    | assumption
    | exact HKB.out _ (Snc.alloc hSd _)
    | exact HKB.out _ (Below.setCell (Below.setCell (Below.setCell (Snc.alloc hSd _) (by simp) _) (by simp) _) (by simp) _)) (first
    | (go_at_call 34; (with_reducible refine (hfd _ (kL ‹_ ∧ _›)).mono ?_); rintro _ _ ⟨rfl, rfl⟩))
  all_goals
    rename_i hHeld
    clear hHeld HKB kL hfd
    have hFx : Fs (U.alloc (.cells #[.int .i64 h, .slice q x.bs.length c2, .int .i64 x.pins] 70)).drew U.heap.size [.int .i64 h, .slice q x.bs.length c2, .int .i64 x.pins] := (Fs.new' _ _ rfl rfl : Fs (U.alloc _) _ _).drew
    have hUV : Snc U (U.alloc (.cells #[.int .i64 h, .slice q x.bs.length c2, .int .i64 x.pins] 70)).drew := (Snc.alloc (Below.refl _ _) _).drew
    have hSV := sncBehind hS1 hUV
    have foV := fo.below hUV fo.lt
    have hRV := hRU.nt (NT.of_below hUV)
    have hrowU : IRow U q (intsOf x.bs) := hrow
    have hIV := hrowU.nt (NT.of_below (k := none) hUV) (fun _ e => by cases e)
    generalize (U.alloc (.cells #[.int .i64 h, .slice q x.bs.length c2, .int .i64 x.pins] 70)).drew = V at *
    generalize hbx : U.heap.size = bx at *
    have hwb : w.heap.size < bx := hol
    have hkb : k ≠ bx := by omega
    have z0 : V.cell? ⟨w.heap.size, 0, none⟩ = some (.int .i64 d) := foV.at' 0 rfl
    have x1 : V.cell? ⟨bx, 1, none⟩ = some (.slice q x.bs.length c2) := hFx.at' 1 rfl
    have x2 : V.cell? ⟨bx, 2, none⟩ = some (.int .i64 x.pins) := hFx.at' 2 rfl
    have xf := hFx.fz
    have xf1 := xf 1
    have xf2 := xf 2
    have hgx := hG.live x (getO_some HX.out).1
    have hxh : x.h = h := (getO_some HX.out).2
    have hNV : NT (some k) w V := NT.of_below hSV
    have hnt : ∀ (a : Nat) (v : Value), NT none V (V.setCell ⟨bx, a, none⟩ v) → True := fun _ _ _ => trivial
    clear hnt fo fr hrow hSd hkl hgl hol
    have hp0 := hgx.2.2.1
    have hp7 := hgx.2.2.2.1
    have HG := Lib.hid hgx
    have HXH := Lib.hid hxh
    clear hgx hxh
    have hd5 : d = 1 ∨ d = 2 ∨ d = 3 ∨ d = 4 ∨ d = 5 := by have := HD.out; omega
    rcases hd5 with rfl | rfl | rfl | rfl | rfl
    · go_wp2_with fail
      have hU3 : Snc U (V.setCell ⟨bx, 1, none⟩ (.slice none 0 0)) := Below.setCell hUV (by simp [hbx]) _
      have hR3 := hRU.nt (NT.of_below hU3)
      have hF3 : Fs (V.setCell ⟨bx, 1, none⟩ (.slice none 0 0)) bx [.int .i64 h, .slice none 0 0, .int .i64 (x.pins)] := hFx.set 1 (by simp) _
      have hI3 : IRow (V.setCell ⟨bx, 1, none⟩ (.slice none 0 0)) none (intsOf []) := fun j hj => by simp [intsOf] at hj
      have hN3 : NT (some k) w (V.setCell ⟨bx, 1, none⟩ (.slice none 0 0)) := NT.of_below (sncBehind hS1 hU3)
      clear z0 x1 x2 xf xf1 xf2 hRV hFx hIV hNV foV hUV hRU hS1 hrowU hSV hU3
      generalize V.setCell ⟨bx, 1, none⟩ (.slice none 0 0) = V3 at *
      obtain ⟨l, e, p, c, p', c', hbk, h1, h2, h3⟩ := hR3
      have hR4 : RefAt V3 k S := ⟨l, e, p, c, p', c', hbk, h1, h2, h3⟩
      have hkl3 : k < V3.heap.size := (Array.getElem?_eq_some_iff.1 hbk).1
      have hl : l.length ≤ 1000 := by have := congrArg List.length e; simp at this; omega
      have hkS : ∀ V, Snc V3 V → DoS V3 k bx (.slice p l.length c) (.int .i64 h) (.slice none 0 0) (.int .i64 (x.pins)) V := fun V hV =>
        ⟨(hV.cell (p := ⟨k, 0, none⟩) hkl3).trans (by simp [World.cell?, hbk]), (hV.cell (p := ⟨bx, 0, none⟩) hF3.lt).trans (hF3.at' 0 rfl), (hV.cell (p := ⟨bx, 1, none⟩) hF3.lt).trans (hF3.at' 1 rfl), (hV.cell (p := ⟨bx, 2, none⟩) hF3.lt).trans (hF3.at' 2 rfl), hV⟩
      have hSd3 : Snc V3 V3.drew := (Below.refl _ _).drew
      have hS0 := hkS _ hSd3
      refine wp_region_T (n := 9) (S := DoS V3 k bx (.slice p l.length c) (.int .i64 h) (.slice none 0 0) (.int .i64 (x.pins))) (by kernel_rfl) ⟨by kernel_rfl, by kernel_rfl, by kernel_rfl, rfl⟩ ?_
      intro hL inv
      refine wpAnyT_take 0 (v := .pointer (some ⟨k, 0, none⟩)) hL inv rfl (by decide) (by kernel_rfl) (by kernel_rfl) (fun _ _ _ h => h) (.inl ⟨rfl, fun V hS => ?_⟩) hS0 ?_
      · obtain ⟨g0, g1, g2, g3, _⟩ := hS
        go_simp
      clear inv
      intro inv
      refine wpAnyT_take 1 (v := .pointer (some ⟨k, 0, none⟩)) hL inv rfl (by decide) (by kernel_rfl) (by kernel_rfl) (fun _ _ _ h => h) (.inl ⟨rfl, fun V hS => ?_⟩) hS0 ?_
      · obtain ⟨g0, g1, g2, g3, _⟩ := hS
        go_simp
      clear inv
      intro inv
      refine wpAnyT_take 2 (v := .pointer (some ⟨k, 0, none⟩)) hL inv rfl (by decide) (by kernel_rfl) (by kernel_rfl) (fun _ _ _ h => h) (.inl ⟨rfl, fun V hS => ?_⟩) hS0 ?_
      · obtain ⟨g0, g1, g2, g3, _⟩ := hS
        go_simp
      clear inv
      intro inv
      refine wpAnyT_take 3 (v := .pointer (some ⟨k, 0, none⟩)) hL inv rfl (by decide) (by kernel_rfl) (by kernel_rfl) (fun _ _ _ h => h) (.inl ⟨rfl, fun V hS => ?_⟩) hS0 ?_
      · obtain ⟨g0, g1, g2, g3, _⟩ := hS
        go_simp
      clear inv
      intro inv
      refine wpAnyT_take 4 (v := .slice p l.length c) hL inv rfl (by decide) (by kernel_rfl) (by kernel_rfl) (fun _ _ _ h => h) (.inl ⟨rfl, fun V hS => ?_⟩) hS0 ?_
      · obtain ⟨g0, g1, g2, g3, _⟩ := hS
        go_simp
      clear inv
      intro inv
      refine wpAnyT_take 5 (v := .agg #[.int .i64 h, .slice none 0 0, .int .i64 (x.pins)]) hL inv rfl (by decide) (by kernel_rfl) (by kernel_rfl) (fun _ _ _ h => h) (.inl ⟨rfl, fun V hS => ?_⟩) hS0 ?_
      · obtain ⟨g0, g1, g2, g3, _⟩ := hS
        go_simp
      clear inv
      intro inv
      generalize V3.drew = U3 at hS0 hSd3 ⊢
      have cp := put_any (c := c) (h1.nt (NT.of_below (k := none) hSd3) (fun _ e => by cases e)) hl ⟨⟨h, [], (x.pins)⟩, none, 0⟩
      simp only [List.length_nil, List.length_set] at cp
      refine wpAnyT_one 6 rfl (by kernel_rfl) ?_
      go_wp2_with (first
        | (go_at_call 38; (with_reducible refine cp.mono ?_); rintro _ _ ⟨v, l', rfl, hm, hz, y2, rfl, hO⟩))
      have hSy : Snc V3 y2.at' := sncBehind hSd3 y2.below
      first | refine ⟨.inr (hkS _ hSy), ?_⟩ | refine ⟨hkS _ hSy, ?_⟩
      have hby : ∀ z ∈ l', IRow y2.at' z.q (intsOf z.o.bs) := fun z hx => by
        rcases hz z hx with rfl | hx
        · exact hI3.nt (NT.of_below (k := none) hSy) (fun _ e => by cases e)
        · exact (h2 z hx).nt (NT.of_below (k := none) hSy) (fun _ e => by cases e)
      obtain ⟨pv, cv, rfl⟩ := ths_len hO
      obtain ⟨hfR, hfN⟩ := hR4.laid hSy (hO.low (Below.size hSd3)) hby
      rw [hm, e] at hfR
      have cl : y2.at'.cell? ⟨k, 0, none⟩ = some (.slice p l.length c) := (hkS _ hSy).1
      have cf : y2.at'.frozen? ⟨k, 0, none⟩ = false := (hSy.frozen (p := ⟨k, 0, none⟩) hkl3).trans (by simp [World.frozen?, hbk])
      refine wpAnyT_one 7 rfl (by kernel_rfl) ?_
      go_wp2_with fail
      first | refine ⟨.inr (hkS _ hSy), ?_⟩ | refine ⟨hkS _ hSy, ?_⟩
      refine wpAnyT_one 8 rfl (by kernel_rfl) ?_
      go_wp2_with fail
      first | refine ⟨.inr (hkS _ hSy), ?_⟩ | refine ⟨hkS _ hSy, ?_⟩
      refine wpAnyT_one 9 rfl (by kernel_rfl) ?_
      go_wp2_with fail
      first | refine ⟨.inl rfl, wpAnyT_done (by kernel_rfl) ?_⟩ | refine (show wpAnyT Try.prog Region.Mode.any _ _ (DoS V3 k bx (.slice p l.length c) (.int .i64 h) (.slice none 0 0) (.int .i64 (x.pins))) 9 0 _ _ _ from wpAnyT_done (by kernel_rfl) ?_)
      clear hkS hS0 hL inv cp hz hO hby
      go_wp2
      go_ret
      refine ⟨rfl, ?_, hN3.trans hfN⟩
      rw [doS_eq1 (p := x.pins)]
      exact hfR
    · go_wp2_with fail
      have hR3 := hRV
      have hF3 := hFx
      have hI3 := hIV
      have hN3 := hNV
      clear z0 x1 x2 xf xf1 xf2 hRV hFx hIV hNV foV hUV hRU hS1 hrowU hSV
      generalize V = V3 at *
      obtain ⟨l, e, p, c, p', c', hbk, h1, h2, h3⟩ := hR3
      have hR4 : RefAt V3 k S := ⟨l, e, p, c, p', c', hbk, h1, h2, h3⟩
      have hkl3 : k < V3.heap.size := (Array.getElem?_eq_some_iff.1 hbk).1
      have hl : l.length ≤ 1000 := by have := congrArg List.length e; simp at this; omega
      have hkS : ∀ V, Snc V3 V → DoS V3 k bx (.slice p l.length c) (.int .i64 h) (.slice q x.bs.length c2) (.int .i64 (x.pins)) V := fun V hV =>
        ⟨(hV.cell (p := ⟨k, 0, none⟩) hkl3).trans (by simp [World.cell?, hbk]), (hV.cell (p := ⟨bx, 0, none⟩) hF3.lt).trans (hF3.at' 0 rfl), (hV.cell (p := ⟨bx, 1, none⟩) hF3.lt).trans (hF3.at' 1 rfl), (hV.cell (p := ⟨bx, 2, none⟩) hF3.lt).trans (hF3.at' 2 rfl), hV⟩
      have hSd3 : Snc V3 V3.drew := (Below.refl _ _).drew
      have hS0 := hkS _ hSd3
      refine wp_region_T (n := 9) (S := DoS V3 k bx (.slice p l.length c) (.int .i64 h) (.slice q x.bs.length c2) (.int .i64 (x.pins))) (by kernel_rfl) ⟨by kernel_rfl, by kernel_rfl, by kernel_rfl, rfl⟩ ?_
      intro hL inv
      refine wpAnyT_take 0 (v := .pointer (some ⟨k, 0, none⟩)) hL inv rfl (by decide) (by kernel_rfl) (by kernel_rfl) (fun _ _ _ h => h) (.inl ⟨rfl, fun V hS => ?_⟩) hS0 ?_
      · obtain ⟨g0, g1, g2, g3, _⟩ := hS
        go_simp
      clear inv
      intro inv
      refine wpAnyT_take 1 (v := .pointer (some ⟨k, 0, none⟩)) hL inv rfl (by decide) (by kernel_rfl) (by kernel_rfl) (fun _ _ _ h => h) (.inl ⟨rfl, fun V hS => ?_⟩) hS0 ?_
      · obtain ⟨g0, g1, g2, g3, _⟩ := hS
        go_simp
      clear inv
      intro inv
      refine wpAnyT_take 2 (v := .pointer (some ⟨k, 0, none⟩)) hL inv rfl (by decide) (by kernel_rfl) (by kernel_rfl) (fun _ _ _ h => h) (.inl ⟨rfl, fun V hS => ?_⟩) hS0 ?_
      · obtain ⟨g0, g1, g2, g3, _⟩ := hS
        go_simp
      clear inv
      intro inv
      refine wpAnyT_take 3 (v := .pointer (some ⟨k, 0, none⟩)) hL inv rfl (by decide) (by kernel_rfl) (by kernel_rfl) (fun _ _ _ h => h) (.inl ⟨rfl, fun V hS => ?_⟩) hS0 ?_
      · obtain ⟨g0, g1, g2, g3, _⟩ := hS
        go_simp
      clear inv
      intro inv
      refine wpAnyT_take 4 (v := .slice p l.length c) hL inv rfl (by decide) (by kernel_rfl) (by kernel_rfl) (fun _ _ _ h => h) (.inl ⟨rfl, fun V hS => ?_⟩) hS0 ?_
      · obtain ⟨g0, g1, g2, g3, _⟩ := hS
        go_simp
      clear inv
      intro inv
      refine wpAnyT_take 5 (v := .agg #[.int .i64 h, .slice q x.bs.length c2, .int .i64 (x.pins)]) hL inv rfl (by decide) (by kernel_rfl) (by kernel_rfl) (fun _ _ _ h => h) (.inl ⟨rfl, fun V hS => ?_⟩) hS0 ?_
      · obtain ⟨g0, g1, g2, g3, _⟩ := hS
        go_simp
      clear inv
      intro inv
      generalize V3.drew = U3 at hS0 hSd3 ⊢
      have cp := put_any (c := c) (h1.nt (NT.of_below (k := none) hSd3) (fun _ e => by cases e)) hl ⟨⟨h, x.bs, (x.pins)⟩, q, c2⟩
      simp only [List.length_nil, List.length_set] at cp
      refine wpAnyT_one 6 rfl (by kernel_rfl) ?_
      go_wp2_with (first
        | (go_at_call 38; (with_reducible refine cp.mono ?_); rintro _ _ ⟨v, l', rfl, hm, hz, y2, rfl, hO⟩))
      have hSy : Snc V3 y2.at' := sncBehind hSd3 y2.below
      first | refine ⟨.inr (hkS _ hSy), ?_⟩ | refine ⟨hkS _ hSy, ?_⟩
      have hby : ∀ z ∈ l', IRow y2.at' z.q (intsOf z.o.bs) := fun z hx => by
        rcases hz z hx with rfl | hx
        · exact hI3.nt (NT.of_below (k := none) hSy) (fun _ e => by cases e)
        · exact (h2 z hx).nt (NT.of_below (k := none) hSy) (fun _ e => by cases e)
      obtain ⟨pv, cv, rfl⟩ := ths_len hO
      obtain ⟨hfR, hfN⟩ := hR4.laid hSy (hO.low (Below.size hSd3)) hby
      rw [hm, e] at hfR
      have cl : y2.at'.cell? ⟨k, 0, none⟩ = some (.slice p l.length c) := (hkS _ hSy).1
      have cf : y2.at'.frozen? ⟨k, 0, none⟩ = false := (hSy.frozen (p := ⟨k, 0, none⟩) hkl3).trans (by simp [World.frozen?, hbk])
      refine wpAnyT_one 7 rfl (by kernel_rfl) ?_
      go_wp2_with fail
      first | refine ⟨.inr (hkS _ hSy), ?_⟩ | refine ⟨hkS _ hSy, ?_⟩
      refine wpAnyT_one 8 rfl (by kernel_rfl) ?_
      go_wp2_with fail
      first | refine ⟨.inr (hkS _ hSy), ?_⟩ | refine ⟨hkS _ hSy, ?_⟩
      refine wpAnyT_one 9 rfl (by kernel_rfl) ?_
      go_wp2_with fail
      first | refine ⟨.inl rfl, wpAnyT_done (by kernel_rfl) ?_⟩ | refine (show wpAnyT Try.prog Region.Mode.any _ _ (DoS V3 k bx (.slice p l.length c) (.int .i64 h) (.slice q x.bs.length c2) (.int .i64 (x.pins))) 9 0 _ _ _ from wpAnyT_done (by kernel_rfl) ?_)
      clear hkS hS0 hL inv cp hz hO hby
      go_wp2
      go_ret
      refine ⟨rfl, ?_, hN3.trans hfN⟩
      rw [doS_eq2 hG HX.out]
      exact hfR
    · have hr : 0 ≤ off ∧ off < x.bs.length := by
        have hE := HE.out
        unfold obE at hE
        by_cases c : 0 ≤ off ∧ off < x.bs.length
        · exact c
        · simp [c] at hE
      obtain ⟨O, rfl⟩ := Int.eq_ofNat_of_zero_le hr.1
      have hO : O < x.bs.length := by omega
      have hO2 : (O : Int) < x.bs.length := hr.2
      have h256 := HG.out.2.1
      obtain ⟨gq, cq, rfl, hgq, hcq⟩ := hIV 0 (by rw [intsOf_len]; omega)
      have hne : ∀ (j : Nat) (u : Value), ((intsOf x.bs).map (Value.int .i64))[j]? = some u → V.cell? ((⟨gq, 0, none⟩ : Addr).add j) = some u := fun j u hu => by
        have hj : j < (intsOf x.bs).length := by
          have := (List.getElem?_eq_some_iff.1 hu).1
          simpa using this
        obtain ⟨g', cs', e', hg', hc'⟩ := hIV j hj
        simp only [Option.some.injEq, Addr.mk.injEq, and_true] at e'
        subst e'
        rw [Addr.add_lit, Nat.zero_add, cell_of_row hg' hc']
        simpa [hj] using hu
      have hone : ∀ u ∈ (intsOf x.bs).map (Value.int .i64), u.oneCell' = true := fun u hu => by
        obtain ⟨y, _, rfl⟩ := List.mem_map.1 hu
        rfl
      have HNE := Lib.hid hne
      have HONE := Lib.hid hone
      have HR := Lib.hid hr
      have HRW := Lib.hid hrowU
      clear hne hone hr hgq hcq hIV hrowU
      obtain ⟨ti, hti, hy0, hy1, hy2⟩ := info_parts info_num
      have z2 : V.cell? ⟨w.heap.size, 2, none⟩ = some (.int .i64 O) := foV.at' 2 rfl
      have z3 : V.cell? ⟨w.heap.size, 3, none⟩ = some (.int .i64 n) := foV.at' 3 rfl
      obtain ⟨tb0, tb1, _⟩ := tmod_bd n
      have hwr : wrap64 (n.tmod 256 + 256) = n.tmod 256 + 256 := by first | go_num | (unfold wrap64; omega)
      go_wp2_with (at_builtin; refine mdOpen ?_)
      refine Lib.hid ?_
      refine wpList_append_own _ rfl (.tmp 77) (.tmp 79) 29 rfl V.heap.size 3 ti (.int .i64 0) 1 8 Try.underlying29 hti hy0 hy1 hy2 rfl (by decide) (.slice none 0 0) 0 [] rfl (World.ownsRow_nil _ _ _ _) ⟨gq, 0, none⟩ x.bs.length c2 ((intsOf x.bs).map (Value.int .i64)) rfl (by simp [intsOf_len]) HNE.out HONE.out (by unfold maxLen; omega) (by omega) (Nat.le_refl _) ?_
      intro v' w4 hown' hgrow _
      have hI4 : Ints w4 V.heap.size v' (intsOf x.bs) := by
        unfold Ints
        rw [intsOf_len]
        simpa using hown'
      have hV4 : Below V.heap.size V w4 := ⟨hgrow.os, hgrow.tape, hgrow.output, hgrow.size, fun k hk => hgrow.block k hk (by simp [Value.ownBlock])⟩
      clear hgrow hown'
      obtain ⟨g4, cap4, rfl, hg4, hlt4, hc4⟩ := hI4.open' (fun e => HG.out.1 (by simpa [intsOf] using e))
      obtain ⟨z5, ez, hI5⟩ := hI4.set hV4 O ((n.tmod 256 + 256).tmod 256)
      have e256 : (n.tmod 256 + 256).tmod 256 = n.tmod 256 % 256 := by
        rw [Int.tmod_eq_emod_of_nonneg (by omega)]
        omega
      rw [e256] at ez hI5
      have E256 := Lib.hid e256
      clear e256
      have cO := hc4 O (by rw [intsOf_len]; omega)
      have fO := hI4.frozen O
      rw [intsOf_len] at hI4 hI5
      simp only [intsOf_len]
      have foV4 := foV.below hV4 foV.lt
      have z24 : w4.cell? ⟨w.heap.size, 2, none⟩ = some (.int .i64 O) := foV4.at' 2 rfl
      have z34 : w4.cell? ⟨w.heap.size, 3, none⟩ = some (.int .i64 n) := foV4.at' 3 rfl
      have hb5 : bx < V.heap.size := hFx.lt
      have hF5 := hFx.later z5
      have x51 : z5.at'.cell? ⟨bx, 1, none⟩ = some (.slice (some ⟨gq, 0, none⟩) x.bs.length c2) := hF5.at' 1 rfl
      have x5f := hF5.fz 1
      clear hc4 z0 z2 z3 x1 x2 xf xf1 xf2
      have hg45 : bx ≠ g4 := by omega
      go_upto_region 21 with fail
      try rw [hwr]
      try rw [ez]
      have hU3 : Snc U (z5.at'.setCell ⟨bx, 1, none⟩ (.slice (some ⟨g4, 0, none⟩) x.bs.length cap4)) := Below.setCell (sncBehind hUV z5.below) (by simp [hbx]) _
      go_wp2_with fail
      have hR3 := hRU.nt (NT.of_below hU3)
      have hF3 : Fs (z5.at'.setCell ⟨bx, 1, none⟩ (.slice (some ⟨g4, 0, none⟩) x.bs.length cap4)) bx [.int .i64 h, .slice (some ⟨g4, 0, none⟩) x.bs.length cap4, .int .i64 (x.pins)] := hF5.set 1 (by simp) _
      have hI3 : IRow (z5.at'.setCell ⟨bx, 1, none⟩ (.slice (some ⟨g4, 0, none⟩) x.bs.length cap4)) (some ⟨g4, 0, none⟩) (intsOf (x.bs.set O (u8 n))) := by
        rw [ints_set, E256.out]
        exact irow_other hI5.irow hg45
      have hN3 : NT (some k) w (z5.at'.setCell ⟨bx, 1, none⟩ (.slice (some ⟨g4, 0, none⟩) x.bs.length cap4)) := NT.of_below (sncBehind hS1 hU3)
      clear HNE HONE HRW hI4 hI5 hV4 hF5 x51 x5f foV4 z24 z34 cO fO ez hRV hFx hNV foV hUV hRU hS1 hSV hU3 hwr
      generalize z5.at'.setCell ⟨bx, 1, none⟩ (.slice (some ⟨g4, 0, none⟩) x.bs.length cap4) = V3 at *
      obtain ⟨l, e, p, c, p', c', hbk, h1, h2, h3⟩ := hR3
      have hR4 : RefAt V3 k S := ⟨l, e, p, c, p', c', hbk, h1, h2, h3⟩
      have hkl3 : k < V3.heap.size := (Array.getElem?_eq_some_iff.1 hbk).1
      have hl : l.length ≤ 1000 := by have := congrArg List.length e; simp at this; omega
      have hkS : ∀ V, Snc V3 V → DoS V3 k bx (.slice p l.length c) (.int .i64 h) (.slice (some ⟨g4, 0, none⟩) x.bs.length cap4) (.int .i64 (x.pins)) V := fun V hV =>
        ⟨(hV.cell (p := ⟨k, 0, none⟩) hkl3).trans (by simp [World.cell?, hbk]), (hV.cell (p := ⟨bx, 0, none⟩) hF3.lt).trans (hF3.at' 0 rfl), (hV.cell (p := ⟨bx, 1, none⟩) hF3.lt).trans (hF3.at' 1 rfl), (hV.cell (p := ⟨bx, 2, none⟩) hF3.lt).trans (hF3.at' 2 rfl), hV⟩
      have hSd3 : Snc V3 V3.drew := (Below.refl _ _).drew
      have hS0 := hkS _ hSd3
      refine wp_region_T (n := 9) (S := DoS V3 k bx (.slice p l.length c) (.int .i64 h) (.slice (some ⟨g4, 0, none⟩) x.bs.length cap4) (.int .i64 (x.pins))) (by kernel_rfl) ⟨by kernel_rfl, by kernel_rfl, by kernel_rfl, rfl⟩ ?_
      intro hL inv
      refine wpAnyT_take 0 (v := .pointer (some ⟨k, 0, none⟩)) hL inv rfl (by decide) (by kernel_rfl) (by kernel_rfl) (fun _ _ _ h => h) (.inl ⟨rfl, fun V hS => ?_⟩) hS0 ?_
      · obtain ⟨g0, g1, g2, g3, _⟩ := hS
        go_simp
      clear inv
      intro inv
      refine wpAnyT_take 1 (v := .pointer (some ⟨k, 0, none⟩)) hL inv rfl (by decide) (by kernel_rfl) (by kernel_rfl) (fun _ _ _ h => h) (.inl ⟨rfl, fun V hS => ?_⟩) hS0 ?_
      · obtain ⟨g0, g1, g2, g3, _⟩ := hS
        go_simp
      clear inv
      intro inv
      refine wpAnyT_take 2 (v := .pointer (some ⟨k, 0, none⟩)) hL inv rfl (by decide) (by kernel_rfl) (by kernel_rfl) (fun _ _ _ h => h) (.inl ⟨rfl, fun V hS => ?_⟩) hS0 ?_
      · obtain ⟨g0, g1, g2, g3, _⟩ := hS
        go_simp
      clear inv
      intro inv
      refine wpAnyT_take 3 (v := .pointer (some ⟨k, 0, none⟩)) hL inv rfl (by decide) (by kernel_rfl) (by kernel_rfl) (fun _ _ _ h => h) (.inl ⟨rfl, fun V hS => ?_⟩) hS0 ?_
      · obtain ⟨g0, g1, g2, g3, _⟩ := hS
        go_simp
      clear inv
      intro inv
      refine wpAnyT_take 4 (v := .slice p l.length c) hL inv rfl (by decide) (by kernel_rfl) (by kernel_rfl) (fun _ _ _ h => h) (.inl ⟨rfl, fun V hS => ?_⟩) hS0 ?_
      · obtain ⟨g0, g1, g2, g3, _⟩ := hS
        go_simp
      clear inv
      intro inv
      refine wpAnyT_take 5 (v := .agg #[.int .i64 h, .slice (some ⟨g4, 0, none⟩) x.bs.length cap4, .int .i64 (x.pins)]) hL inv rfl (by decide) (by kernel_rfl) (by kernel_rfl) (fun _ _ _ h => h) (.inl ⟨rfl, fun V hS => ?_⟩) hS0 ?_
      · obtain ⟨g0, g1, g2, g3, _⟩ := hS
        go_simp
      clear inv
      intro inv
      generalize V3.drew = U3 at hS0 hSd3 ⊢
      have cp := put_any (c := c) (h1.nt (NT.of_below (k := none) hSd3) (fun _ e => by cases e)) hl ⟨⟨h, (x.bs.set O (u8 n)), (x.pins)⟩, (some ⟨g4, 0, none⟩), cap4⟩
      simp only [List.length_nil, List.length_set] at cp
      refine wpAnyT_one 6 rfl (by kernel_rfl) ?_
      go_wp2_with (first
        | (go_at_call 38; (with_reducible refine cp.mono ?_); rintro _ _ ⟨v, l', rfl, hm, hz, y2, rfl, hO⟩))
      have hSy : Snc V3 y2.at' := sncBehind hSd3 y2.below
      first | refine ⟨.inr (hkS _ hSy), ?_⟩ | refine ⟨hkS _ hSy, ?_⟩
      have hby : ∀ z ∈ l', IRow y2.at' z.q (intsOf z.o.bs) := fun z hx => by
        rcases hz z hx with rfl | hx
        · exact hI3.nt (NT.of_below (k := none) hSy) (fun _ e => by cases e)
        · exact (h2 z hx).nt (NT.of_below (k := none) hSy) (fun _ e => by cases e)
      obtain ⟨pv, cv, rfl⟩ := ths_len hO
      obtain ⟨hfR, hfN⟩ := hR4.laid hSy (hO.low (Below.size hSd3)) hby
      rw [hm, e] at hfR
      have cl : y2.at'.cell? ⟨k, 0, none⟩ = some (.slice p l.length c) := (hkS _ hSy).1
      have cf : y2.at'.frozen? ⟨k, 0, none⟩ = false := (hSy.frozen (p := ⟨k, 0, none⟩) hkl3).trans (by simp [World.frozen?, hbk])
      refine wpAnyT_one 7 rfl (by kernel_rfl) ?_
      go_wp2_with fail
      first | refine ⟨.inr (hkS _ hSy), ?_⟩ | refine ⟨hkS _ hSy, ?_⟩
      refine wpAnyT_one 8 rfl (by kernel_rfl) ?_
      go_wp2_with fail
      first | refine ⟨.inr (hkS _ hSy), ?_⟩ | refine ⟨hkS _ hSy, ?_⟩
      refine wpAnyT_one 9 rfl (by kernel_rfl) ?_
      go_wp2_with fail
      first | refine ⟨.inl rfl, wpAnyT_done (by kernel_rfl) ?_⟩ | refine (show wpAnyT Try.prog Region.Mode.any _ _ (DoS V3 k bx (.slice p l.length c) (.int .i64 h) (.slice (some ⟨g4, 0, none⟩) x.bs.length cap4) (.int .i64 (x.pins))) 9 0 _ _ _ from wpAnyT_done (by kernel_rfl) ?_)
      clear hkS hS0 hL inv cp hz hO hby
      go_wp2
      go_ret
      refine ⟨rfl, ?_, hN3.trans hfN⟩
      rw [show doS S 3 h O n = ⟨putF ⟨h, x.bs.set O (u8 n), x.pins⟩ S.L, S.T⟩ from by simpa using doS_eq3 (off := (O : Int)) (n := n) hG HX.out]
      exact hfR
    · go_wp2_with fail
      have hU3 : Snc U (V.setCell ⟨bx, 2, none⟩ (.int .i64 (x.pins + 1))) := Below.setCell hUV (by simp [hbx]) _
      have hR3 := hRU.nt (NT.of_below hU3)
      have hF3 : Fs (V.setCell ⟨bx, 2, none⟩ (.int .i64 (x.pins + 1))) bx [.int .i64 h, .slice q x.bs.length c2, .int .i64 (x.pins + 1)] := hFx.set 2 (by simp) _
      have hI3 : IRow (V.setCell ⟨bx, 2, none⟩ (.int .i64 (x.pins + 1))) q (intsOf x.bs) := hrowU.nt (NT.of_below (k := none) hU3) (fun _ e => by cases e)
      have hN3 : NT (some k) w (V.setCell ⟨bx, 2, none⟩ (.int .i64 (x.pins + 1))) := NT.of_below (sncBehind hS1 hU3)
      clear z0 x1 x2 xf xf1 xf2 hRV hFx hIV hNV foV hUV hRU hS1 hrowU hSV hU3
      generalize V.setCell ⟨bx, 2, none⟩ (.int .i64 (x.pins + 1)) = V3 at *
      obtain ⟨l, e, p, c, p', c', hbk, h1, h2, h3⟩ := hR3
      have hR4 : RefAt V3 k S := ⟨l, e, p, c, p', c', hbk, h1, h2, h3⟩
      have hkl3 : k < V3.heap.size := (Array.getElem?_eq_some_iff.1 hbk).1
      have hl : l.length ≤ 1000 := by have := congrArg List.length e; simp at this; omega
      have hkS : ∀ V, Snc V3 V → DoS V3 k bx (.slice p l.length c) (.int .i64 h) (.slice q x.bs.length c2) (.int .i64 (x.pins + 1)) V := fun V hV =>
        ⟨(hV.cell (p := ⟨k, 0, none⟩) hkl3).trans (by simp [World.cell?, hbk]), (hV.cell (p := ⟨bx, 0, none⟩) hF3.lt).trans (hF3.at' 0 rfl), (hV.cell (p := ⟨bx, 1, none⟩) hF3.lt).trans (hF3.at' 1 rfl), (hV.cell (p := ⟨bx, 2, none⟩) hF3.lt).trans (hF3.at' 2 rfl), hV⟩
      have hSd3 : Snc V3 V3.drew := (Below.refl _ _).drew
      have hS0 := hkS _ hSd3
      refine wp_region_T (n := 9) (S := DoS V3 k bx (.slice p l.length c) (.int .i64 h) (.slice q x.bs.length c2) (.int .i64 (x.pins + 1))) (by kernel_rfl) ⟨by kernel_rfl, by kernel_rfl, by kernel_rfl, rfl⟩ ?_
      intro hL inv
      refine wpAnyT_take 0 (v := .pointer (some ⟨k, 0, none⟩)) hL inv rfl (by decide) (by kernel_rfl) (by kernel_rfl) (fun _ _ _ h => h) (.inl ⟨rfl, fun V hS => ?_⟩) hS0 ?_
      · obtain ⟨g0, g1, g2, g3, _⟩ := hS
        go_simp
      clear inv
      intro inv
      refine wpAnyT_take 1 (v := .pointer (some ⟨k, 0, none⟩)) hL inv rfl (by decide) (by kernel_rfl) (by kernel_rfl) (fun _ _ _ h => h) (.inl ⟨rfl, fun V hS => ?_⟩) hS0 ?_
      · obtain ⟨g0, g1, g2, g3, _⟩ := hS
        go_simp
      clear inv
      intro inv
      refine wpAnyT_take 2 (v := .pointer (some ⟨k, 0, none⟩)) hL inv rfl (by decide) (by kernel_rfl) (by kernel_rfl) (fun _ _ _ h => h) (.inl ⟨rfl, fun V hS => ?_⟩) hS0 ?_
      · obtain ⟨g0, g1, g2, g3, _⟩ := hS
        go_simp
      clear inv
      intro inv
      refine wpAnyT_take 3 (v := .pointer (some ⟨k, 0, none⟩)) hL inv rfl (by decide) (by kernel_rfl) (by kernel_rfl) (fun _ _ _ h => h) (.inl ⟨rfl, fun V hS => ?_⟩) hS0 ?_
      · obtain ⟨g0, g1, g2, g3, _⟩ := hS
        go_simp
      clear inv
      intro inv
      refine wpAnyT_take 4 (v := .slice p l.length c) hL inv rfl (by decide) (by kernel_rfl) (by kernel_rfl) (fun _ _ _ h => h) (.inl ⟨rfl, fun V hS => ?_⟩) hS0 ?_
      · obtain ⟨g0, g1, g2, g3, _⟩ := hS
        go_simp
      clear inv
      intro inv
      refine wpAnyT_take 5 (v := .agg #[.int .i64 h, .slice q x.bs.length c2, .int .i64 (x.pins + 1)]) hL inv rfl (by decide) (by kernel_rfl) (by kernel_rfl) (fun _ _ _ h => h) (.inl ⟨rfl, fun V hS => ?_⟩) hS0 ?_
      · obtain ⟨g0, g1, g2, g3, _⟩ := hS
        go_simp
      clear inv
      intro inv
      generalize V3.drew = U3 at hS0 hSd3 ⊢
      have cp := put_any (c := c) (h1.nt (NT.of_below (k := none) hSd3) (fun _ e => by cases e)) hl ⟨⟨h, x.bs, (x.pins + 1)⟩, q, c2⟩
      simp only [List.length_nil, List.length_set] at cp
      refine wpAnyT_one 6 rfl (by kernel_rfl) ?_
      go_wp2_with (first
        | (go_at_call 38; (with_reducible refine cp.mono ?_); rintro _ _ ⟨v, l', rfl, hm, hz, y2, rfl, hO⟩))
      have hSy : Snc V3 y2.at' := sncBehind hSd3 y2.below
      first | refine ⟨.inr (hkS _ hSy), ?_⟩ | refine ⟨hkS _ hSy, ?_⟩
      have hby : ∀ z ∈ l', IRow y2.at' z.q (intsOf z.o.bs) := fun z hx => by
        rcases hz z hx with rfl | hx
        · exact hI3.nt (NT.of_below (k := none) hSy) (fun _ e => by cases e)
        · exact (h2 z hx).nt (NT.of_below (k := none) hSy) (fun _ e => by cases e)
      obtain ⟨pv, cv, rfl⟩ := ths_len hO
      obtain ⟨hfR, hfN⟩ := hR4.laid hSy (hO.low (Below.size hSd3)) hby
      rw [hm, e] at hfR
      have cl : y2.at'.cell? ⟨k, 0, none⟩ = some (.slice p l.length c) := (hkS _ hSy).1
      have cf : y2.at'.frozen? ⟨k, 0, none⟩ = false := (hSy.frozen (p := ⟨k, 0, none⟩) hkl3).trans (by simp [World.frozen?, hbk])
      refine wpAnyT_one 7 rfl (by kernel_rfl) ?_
      go_wp2_with fail
      first | refine ⟨.inr (hkS _ hSy), ?_⟩ | refine ⟨hkS _ hSy, ?_⟩
      refine wpAnyT_one 8 rfl (by kernel_rfl) ?_
      go_wp2_with fail
      first | refine ⟨.inr (hkS _ hSy), ?_⟩ | refine ⟨hkS _ hSy, ?_⟩
      refine wpAnyT_one 9 rfl (by kernel_rfl) ?_
      go_wp2_with fail
      first | refine ⟨.inl rfl, wpAnyT_done (by kernel_rfl) ?_⟩ | refine (show wpAnyT Try.prog Region.Mode.any _ _ (DoS V3 k bx (.slice p l.length c) (.int .i64 h) (.slice q x.bs.length c2) (.int .i64 (x.pins + 1))) 9 0 _ _ _ from wpAnyT_done (by kernel_rfl) ?_)
      clear hkS hS0 hL inv cp hz hO hby
      go_wp2
      go_ret
      refine ⟨rfl, ?_, hN3.trans hfN⟩
      rw [doS_eq4 hG HX.out]
      exact hfR
    · go_wp2_with fail
      have hU3 : Snc U (V.setCell ⟨bx, 2, none⟩ (.int .i64 (x.pins - 1))) := Below.setCell hUV (by simp [hbx]) _
      have hR3 := hRU.nt (NT.of_below hU3)
      have hF3 : Fs (V.setCell ⟨bx, 2, none⟩ (.int .i64 (x.pins - 1))) bx [.int .i64 h, .slice q x.bs.length c2, .int .i64 (x.pins - 1)] := hFx.set 2 (by simp) _
      have hI3 : IRow (V.setCell ⟨bx, 2, none⟩ (.int .i64 (x.pins - 1))) q (intsOf x.bs) := hrowU.nt (NT.of_below (k := none) hU3) (fun _ e => by cases e)
      have hN3 : NT (some k) w (V.setCell ⟨bx, 2, none⟩ (.int .i64 (x.pins - 1))) := NT.of_below (sncBehind hS1 hU3)
      clear z0 x1 x2 xf xf1 xf2 hRV hFx hIV hNV foV hUV hRU hS1 hrowU hSV hU3
      generalize V.setCell ⟨bx, 2, none⟩ (.int .i64 (x.pins - 1)) = V3 at *
      obtain ⟨l, e, p, c, p', c', hbk, h1, h2, h3⟩ := hR3
      have hR4 : RefAt V3 k S := ⟨l, e, p, c, p', c', hbk, h1, h2, h3⟩
      have hkl3 : k < V3.heap.size := (Array.getElem?_eq_some_iff.1 hbk).1
      have hl : l.length ≤ 1000 := by have := congrArg List.length e; simp at this; omega
      have hkS : ∀ V, Snc V3 V → DoS V3 k bx (.slice p l.length c) (.int .i64 h) (.slice q x.bs.length c2) (.int .i64 (x.pins - 1)) V := fun V hV =>
        ⟨(hV.cell (p := ⟨k, 0, none⟩) hkl3).trans (by simp [World.cell?, hbk]), (hV.cell (p := ⟨bx, 0, none⟩) hF3.lt).trans (hF3.at' 0 rfl), (hV.cell (p := ⟨bx, 1, none⟩) hF3.lt).trans (hF3.at' 1 rfl), (hV.cell (p := ⟨bx, 2, none⟩) hF3.lt).trans (hF3.at' 2 rfl), hV⟩
      have hSd3 : Snc V3 V3.drew := (Below.refl _ _).drew
      have hS0 := hkS _ hSd3
      refine wp_region_T (n := 9) (S := DoS V3 k bx (.slice p l.length c) (.int .i64 h) (.slice q x.bs.length c2) (.int .i64 (x.pins - 1))) (by kernel_rfl) ⟨by kernel_rfl, by kernel_rfl, by kernel_rfl, rfl⟩ ?_
      intro hL inv
      refine wpAnyT_take 0 (v := .pointer (some ⟨k, 0, none⟩)) hL inv rfl (by decide) (by kernel_rfl) (by kernel_rfl) (fun _ _ _ h => h) (.inl ⟨rfl, fun V hS => ?_⟩) hS0 ?_
      · obtain ⟨g0, g1, g2, g3, _⟩ := hS
        go_simp
      clear inv
      intro inv
      refine wpAnyT_take 1 (v := .pointer (some ⟨k, 0, none⟩)) hL inv rfl (by decide) (by kernel_rfl) (by kernel_rfl) (fun _ _ _ h => h) (.inl ⟨rfl, fun V hS => ?_⟩) hS0 ?_
      · obtain ⟨g0, g1, g2, g3, _⟩ := hS
        go_simp
      clear inv
      intro inv
      refine wpAnyT_take 2 (v := .pointer (some ⟨k, 0, none⟩)) hL inv rfl (by decide) (by kernel_rfl) (by kernel_rfl) (fun _ _ _ h => h) (.inl ⟨rfl, fun V hS => ?_⟩) hS0 ?_
      · obtain ⟨g0, g1, g2, g3, _⟩ := hS
        go_simp
      clear inv
      intro inv
      refine wpAnyT_take 3 (v := .pointer (some ⟨k, 0, none⟩)) hL inv rfl (by decide) (by kernel_rfl) (by kernel_rfl) (fun _ _ _ h => h) (.inl ⟨rfl, fun V hS => ?_⟩) hS0 ?_
      · obtain ⟨g0, g1, g2, g3, _⟩ := hS
        go_simp
      clear inv
      intro inv
      refine wpAnyT_take 4 (v := .slice p l.length c) hL inv rfl (by decide) (by kernel_rfl) (by kernel_rfl) (fun _ _ _ h => h) (.inl ⟨rfl, fun V hS => ?_⟩) hS0 ?_
      · obtain ⟨g0, g1, g2, g3, _⟩ := hS
        go_simp
      clear inv
      intro inv
      refine wpAnyT_take 5 (v := .agg #[.int .i64 h, .slice q x.bs.length c2, .int .i64 (x.pins - 1)]) hL inv rfl (by decide) (by kernel_rfl) (by kernel_rfl) (fun _ _ _ h => h) (.inl ⟨rfl, fun V hS => ?_⟩) hS0 ?_
      · obtain ⟨g0, g1, g2, g3, _⟩ := hS
        go_simp
      clear inv
      intro inv
      generalize V3.drew = U3 at hS0 hSd3 ⊢
      have cp := put_any (c := c) (h1.nt (NT.of_below (k := none) hSd3) (fun _ e => by cases e)) hl ⟨⟨h, x.bs, (x.pins - 1)⟩, q, c2⟩
      simp only [List.length_nil, List.length_set] at cp
      refine wpAnyT_one 6 rfl (by kernel_rfl) ?_
      go_wp2_with (first
        | (go_at_call 38; (with_reducible refine cp.mono ?_); rintro _ _ ⟨v, l', rfl, hm, hz, y2, rfl, hO⟩))
      have hSy : Snc V3 y2.at' := sncBehind hSd3 y2.below
      first | refine ⟨.inr (hkS _ hSy), ?_⟩ | refine ⟨hkS _ hSy, ?_⟩
      have hby : ∀ z ∈ l', IRow y2.at' z.q (intsOf z.o.bs) := fun z hx => by
        rcases hz z hx with rfl | hx
        · exact hI3.nt (NT.of_below (k := none) hSy) (fun _ e => by cases e)
        · exact (h2 z hx).nt (NT.of_below (k := none) hSy) (fun _ e => by cases e)
      obtain ⟨pv, cv, rfl⟩ := ths_len hO
      obtain ⟨hfR, hfN⟩ := hR4.laid hSy (hO.low (Below.size hSd3)) hby
      rw [hm, e] at hfR
      have cl : y2.at'.cell? ⟨k, 0, none⟩ = some (.slice p l.length c) := (hkS _ hSy).1
      have cf : y2.at'.frozen? ⟨k, 0, none⟩ = false := (hSy.frozen (p := ⟨k, 0, none⟩) hkl3).trans (by simp [World.frozen?, hbk])
      refine wpAnyT_one 7 rfl (by kernel_rfl) ?_
      go_wp2_with fail
      first | refine ⟨.inr (hkS _ hSy), ?_⟩ | refine ⟨hkS _ hSy, ?_⟩
      refine wpAnyT_one 8 rfl (by kernel_rfl) ?_
      go_wp2_with fail
      first | refine ⟨.inr (hkS _ hSy), ?_⟩ | refine ⟨hkS _ hSy, ?_⟩
      refine wpAnyT_one 9 rfl (by kernel_rfl) ?_
      go_wp2_with fail
      first | refine ⟨.inl rfl, wpAnyT_done (by kernel_rfl) ?_⟩ | refine (show wpAnyT Try.prog Region.Mode.any _ _ (DoS V3 k bx (.slice p l.length c) (.int .i64 h) (.slice q x.bs.length c2) (.int .i64 (x.pins - 1))) 9 0 _ _ _ from wpAnyT_done (by kernel_rfl) ?_)
      clear hkS hS0 hL inv cp hz hO hby
      go_wp2
      go_ret
      refine ⟨rfl, ?_, hN3.trans hfN⟩
      rw [doS_eq5 hG HX.out]
      exact hfR
end Go.Proofs.Ytlcegnehlhakdaa
