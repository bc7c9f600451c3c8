/-
  What it means that the table of fields and the two fields of a head read as they are laid, and the statements' own frame where they do.
  Conditions: none; that the fields read so is the statements' own premise, tied to the program's text by the given tie.
-/
import Derived.Test.YtfomephgallpmaaDoorLaw
import Derived.Test.YtfomephgallpmaaDoorHeadPack
import Derived.Test.YtfomephgallpmaaDoorEntryWalks
import Derived.Test.YtfomephgallpmaaDoorRows
import Derived.Test.YtfomephgallpmaaDoorTie
import Derived.LaidMore
import Derived.Stop.Joined
namespace Go.Proofs.YtfomephgallpmaaDoor
open Go.ChangeShapes Go.WideShapes Go.ChangeAt Go.RowKit

theorem own : ownKnob Tryd.prog.godebug = none := by kernel_rfl
theorem laidOut : laidOutB Tryd.prog = true := by kernel_rfl
def laidL : List (String × DataW Unit) := [("sidings/entry.fields", Rows.laid_sidings_entry_fields), ("sidings/head.topField", Rows.laid_sidings_head_topField), ("sidings/head.tagField", Rows.laid_sidings_head_tagField)]
theorem gFields : Tryd.prog.globalNamed "sidings/entry.fields" = some 0 := by kernel_rfl
theorem tFields : (Tryd.prog.globals[0]?).map (·.type) = some 103 := by kernel_rfl
theorem cArr : Tryd.prog.cellsOf 103 = 12 := by kernel_rfl
theorem gTop : Tryd.prog.globalNamed "sidings/head.topField" = some 1 := by kernel_rfl
theorem gTag : Tryd.prog.globalNamed "sidings/head.tagField" = some 2 := by kernel_rfl
theorem tTop : (Tryd.prog.globals[1]?).map (·.type) = some 102 := by kernel_rfl
theorem tTag : (Tryd.prog.globals[2]?).map (·.type) = some 102 := by kernel_rfl
theorem cFld : Tryd.prog.cellsOf 102 = 2 := by kernel_rfl
theorem cInt : Tryd.prog.cellsOf 3 = 1 := by kernel_rfl

set_option maxRecDepth 100000 in
/-- The door's own heap meets the condition: closed facts. -/
theorem door_met (os : Os) (args : Array Value) : laidMetH Tryd.prog laidL ((World.doorLaid Tryd.prog 400 os).forCall (fun _ _ => 0) ⟨#[], args, []⟩).memory :=
  laidMetH_of_parts3 (fuel := 8) (laidMet_of_run' 8 (by kernel_rfl) (by kernel_rfl)) (by kernel_rfl) (by kernel_rfl)

section
variable {H : Type} {enc : TypeId × Value → H} {w : World} {base : Nat} {spare : Nat → Bool} {held : Bool}
set_option maxRecDepth 100000 in
/-- A field: two numbers. -/
theorem field_cells {fuel : Nat} {cs : List Value} {n m : Int} {p : List MemPlace} (h : DataW.trod enc Tryd.prog w base spare held fuel 102 cs = some (.agg [.lit (.int .i64 n), .lit (.int .i64 m)], p)) : cs = [.int .i64 n, .int .i64 m] := by
  obtain ⟨y0, y1, k, hx, hl, h0, h1⟩ := trod_struct2 Tryd.underlying102 h
  rw [cFld] at hl
  match cs, hl with
  | [a, b], _ =>
  simp only [Prod.mk.injEq, DataW.agg.injEq, List.cons.injEq] at hx
  obtain ⟨n0, e0, f0, _⟩ := DataW.trod_int Tryd.underlying3 h0
  obtain ⟨n1, e1, f1, _⟩ := DataW.trod_int Tryd.underlying3 h1
  rw [cInt] at e0 e1
  have g0 : n0 = n := by have := hx.1.1; rw [f0] at this; simpa using this.symm
  have g1 : n1 = m := by have := hx.1.2.1; rw [f1] at this; simpa using this.symm
  simp at e0 e1
  rw [e0, e1, g0, g1]
set_option maxRecDepth 100000 in
/-- A field of the table: two numbers. -/
theorem field_cells2 {fuel : Nat} {a b : Value} {n m : Int} {p : List MemPlace} (h : DataW.trod enc Tryd.prog w base spare held fuel 102 [a, b] = some (.agg [.lit (.int .i64 n), .lit (.int .i64 m)], p)) : a = .int .i64 n ∧ b = .int .i64 m := by
  obtain ⟨y0, y1, k, hx, _, h0, h1⟩ := trod_struct2 Tryd.underlying102 h
  simp only [Prod.mk.injEq, DataW.agg.injEq, List.cons.injEq] at hx
  obtain ⟨n0, e0, f0, _⟩ := DataW.trod_int Tryd.underlying3 h0
  obtain ⟨n1, e1, f1, _⟩ := DataW.trod_int Tryd.underlying3 h1
  rw [cInt] at e0 e1
  have g0 : n0 = n := by have := hx.1.1; rw [f0] at this; simpa using this.symm
  have g1 : n1 = m := by have := hx.1.2.1; rw [f1] at this; simpa using this.symm
  simp at e0 e1
  exact ⟨by rw [e0, g0], by rw [e1, g1]⟩
end

/-- The three read as they are laid. -/
structure HasBoth (w : World) : Prop where
  hH : HasHead w
  hE : HasFields w
set_option maxRecDepth 100000 in
theorem of_laid {W : World} (h : laidMetH Tryd.prog laidL W) : HasBoth W := by
  rw [MakeChecks.laidMetH_plain _ _ _ (by kernel_rfl)] at h
  obtain ⟨ps, ⟨gE, tE, csE, fE, pE, qE, hgE, htE, hvE, hdE, ⟨g0, t0, cs0, f0, p0, q0, hg0, ht0, hv0, hd0, ⟨g1, t1, cs1, f1, p1, q1, hg1, ht1, hv1, hd1, _, _⟩, _⟩, _⟩, _⟩ := h
  obtain rfl := Option.some.inj (gFields.symm.trans hgE)
  obtain rfl := Option.some.inj (tFields.symm.trans htE)
  obtain rfl := Option.some.inj (gTop.symm.trans hg0)
  obtain rfl := Option.some.inj (tTop.symm.trans ht0)
  obtain rfl := Option.some.inj (gTag.symm.trans hg1)
  obtain rfl := Option.some.inj (tTag.symm.trans ht1)
  have hfields : HasFields W := by
    obtain ⟨xs, m1, hx, hx1, hlen, hn, hel⟩ := DataW.trod_array Tryd.underlying103 hdE
    rw [cArr] at hlen
    simp only [Rows.laid_sidings_entry_fields, Prod.mk.injEq, DataW.agg.injEq] at hx1
    obtain ⟨hx1, _⟩ := hx1
    obtain ⟨l⟩ := csE
    match l, hlen with
    | [a0, a1, a2, a3, a4, a5, a6, a7, a8, a9, a10, a11], _ =>
    match xs, hn with
    | [x0, x1, x2, x3, x4, x5], _ =>
    simp only [List.map_cons, List.map_nil, List.cons.injEq] at hx1
    obtain ⟨k0, k1, k2, k3, k4, k5, _⟩ := hx1
    obtain ⟨r0, r1⟩ : a0 = .int .i64 0 ∧ a1 = .int .i64 20 := by
      have h := hel 0 (by decide)
      rw [cFld] at h
      exact field_cells2 (p := x0.2) (by rw [k0]; exact h)
    obtain ⟨r2, r3⟩ : a2 = .int .i64 20 ∧ a3 = .int .i64 20 := by
      have h := hel 1 (by decide)
      rw [cFld] at h
      exact field_cells2 (p := x1.2) (by rw [k1]; exact h)
    obtain ⟨r4, r5⟩ : a4 = .int .i64 40 ∧ a5 = .int .i64 4 := by
      have h := hel 2 (by decide)
      rw [cFld] at h
      exact field_cells2 (p := x2.2) (by rw [k2]; exact h)
    obtain ⟨r6, r7⟩ : a6 = .int .i64 44 ∧ a7 = .int .i64 4 := by
      have h := hel 3 (by decide)
      rw [cFld] at h
      exact field_cells2 (p := x3.2) (by rw [k3]; exact h)
    obtain ⟨r8, r9⟩ : a8 = .int .i64 48 ∧ a9 = .int .i64 1 := by
      have h := hel 4 (by decide)
      rw [cFld] at h
      exact field_cells2 (p := x4.2) (by rw [k4]; exact h)
    obtain ⟨r10, r11⟩ : a10 = .int .i64 49 ∧ a11 = .int .i64 1 := by
      have h := hel 5 (by decide)
      rw [cFld] at h
      exact field_cells2 (p := x5.2) (by rw [k5]; exact h)
    subst r0 r1 r2 r3 r4 r5 r6 r7 r8 r9 r10 r11
    have hc := World.var?_cell hgE hvE
    have hlt : 0 < W.heap.size := by
      by_cases hz : 0 < W.heap.size
      · exact hz
      · exfalso
        have h0 := hc 0
        have hn : W.heap[0]? = none := Array.getElem?_eq_none (by omega)
        simp [World.cell?, hn] at h0
    exact ⟨hlt, hc 0, hc 1, hc 2, hc 3, hc 4, hc 5, hc 6, hc 7, hc 8, hc 9, hc 10, hc 11⟩
  have e0 := field_cells hd0
  have e1 := field_cells hd1
  have hc0 := World.var?_cell hg0 hv0
  have hc1 := World.var?_cell hg1 hv1
  obtain ⟨l0⟩ := cs0
  obtain ⟨l1⟩ := cs1
  simp only at e0 e1
  subst e0 e1
  have lt : ∀ g : Nat, W.cell? ⟨g, 0, none⟩ ≠ none → g < W.heap.size := fun g h => by
    by_cases hz : g < W.heap.size
    · exact hz
    · exfalso
      have hn : W.heap[g]? = none := Array.getElem?_eq_none (by omega)
      simp [World.cell?, hn] at h
  exact ⟨⟨lt _ (by rw [hc0 0]; simp), lt _ (by rw [hc1 0]; simp), hc0 0, hc0 1, hc1 0, hc1 1⟩, hfields⟩

set_option maxRecDepth 100000 in
/-- The statement's frame, for a law whose walk needs of its arguments their outer forms alone, and of the world that the table reads as it is laid. -/
theorem law_lifted_laid {H : Type} {enc : TypeId × Value → H} {os : Os} {f : FuncId} {fn : Func} {s : ChangeSpec} {tb : TypeId} (args0 : Array Value)
    (started : os.Started) (noInit : Tryd.checked.prog.inits.idxOf? f = none) (hfn : Tryd.checked.prog.funcs[f]? = some fn)
    (hsh : ((World.doorLaid Tryd.prog 400 os).forCall (fun _ _ => 0) ⟨#[], args0, []⟩).Shaped Tryd.checked.prog)
    (hok : Input.okWideB Tryd.checked.prog ((World.doorLaid Tryd.prog 400 os).forCall (fun _ _ => 0) ⟨#[], args0, []⟩) f ⟨#[], args0, []⟩ = true)
    (hpre : s.preB enc Tryd.checked.prog fn [] false ((World.doorLaid Tryd.prog 400 os).forCall (fun _ _ => 0) ⟨#[], args0, []⟩).memory args0 8 = true)
    (hsz : s.sizedB enc Tryd.checked.prog fn false ((World.doorLaid Tryd.prog 400 os).forCall (fun _ _ => 0) ⟨#[], args0, []⟩).memory args0 8 = true)
    (hv : s.vars = []) (hr : (fn.params.toList.all fun t => Tryd.checked.prog.readableRec t && decide (t < Tryd.checked.prog.types.size)) = true) (hf : fn.resultTypes = #[tb]) (ht : Tryd.checked.prog.underlying tb = some .bool)
    (hs : ∀ ds : List (DataW H), ds.length = fn.params.toList.length → s.fn H (ds ++ []) = { results := [.lit (.bool true)], args := ds })
    (walk : ∀ (W : World) (base : Nat) (args : Array Value), HasBoth W → args.toList.length = fn.params.toList.length →
      (∀ (j : Nat) t v, fn.params[j]? = some t → args[j]? = some v → Value.okWide Tryd.checked.prog W .any base t v) → Calls Tryd.checked.prog f args W (Ret W (.bool true))) :
    ReturnsInHanded {} Tryd.checked os f .any (fun w args => (s.pre enc Tryd.checked.prog fn [] false w args ∧ laidMetH Tryd.prog laidL w) ∧ sizedMet enc Tryd.checked.prog fn (OpenSpec.ofChange s) false w args) (s.post enc Tryd.checked.prog fn false true false false) := by
  refine returnsInHanded_of_change_and (C := Tryd.checked) (X := fun w _ => laidMetH Tryd.prog laidL w) (fun _ _ _ hh h => h.of_heap hh) own started noInit hfn
    (ChangeSpec.witness_shaped (enc := enc) (C := Tryd.checked) (os := os) (X := fun w _ => laidMetH Tryd.prog laidL w) false (World.doorLaid Tryd.prog 400 os) args0 8 rfl hsh hok hpre hsz (door_met os _)) ?_
  intro W base args ds gs before hval hW _ _ hL _
  have hA := hW
  obtain ⟨p, q, hA, hV, _, _, _⟩ := hA
  have hlen := trodAll_len hA
  rw [hv] at hV
  have hq : gs = [] := by
    cases gs with
    | nil => rfl
    | cons _ _ => exact hV.elim
  subst hq
  refine (walk W base args (of_laid hL) hlen.1 hval).mono fun e W' ⟨he, x, hx⟩ => ⟨_, he, ?_⟩
  subst hx
  exact law_post laidOut hv (fun t h => by simpa using List.all_eq_true.1 hr t h) hf ht hW (hs ds hlen.2) x.below

set_option maxRecDepth 100000 in
/-- The statement's frame, for a law whose walk needs of its arguments what they read as, and of the world that the table reads as it is laid. -/
theorem law_lifted_laid_read {H : Type} {enc : TypeId × Value → H} {os : Os} {f : FuncId} {fn : Func} {s : ChangeSpec} {tb : TypeId} (args0 : Array Value)
    (started : os.Started) (noInit : Tryd.checked.prog.inits.idxOf? f = none) (hfn : Tryd.checked.prog.funcs[f]? = some fn)
    (hsh : ((World.doorLaid Tryd.prog 400 os).forCall (fun _ _ => 0) ⟨#[], args0, []⟩).Shaped Tryd.checked.prog)
    (hok : Input.okWideB Tryd.checked.prog ((World.doorLaid Tryd.prog 400 os).forCall (fun _ _ => 0) ⟨#[], args0, []⟩) f ⟨#[], args0, []⟩ = true)
    (hpre : s.preB enc Tryd.checked.prog fn [] false ((World.doorLaid Tryd.prog 400 os).forCall (fun _ _ => 0) ⟨#[], args0, []⟩).memory args0 8 = true)
    (hsz : s.sizedB enc Tryd.checked.prog fn false ((World.doorLaid Tryd.prog 400 os).forCall (fun _ _ => 0) ⟨#[], args0, []⟩).memory args0 8 = true)
    (hv : s.vars = []) (hr : (fn.params.toList.all fun t => Tryd.checked.prog.readableRec t && decide (t < Tryd.checked.prog.types.size)) = true) (hf : fn.resultTypes = #[tb]) (ht : Tryd.checked.prog.underlying tb = some .bool)
    (hs : ∀ ds : List (DataW H), ds.length = fn.params.toList.length → s.fn H (ds ++ []) = { results := [.lit (.bool true)], args := ds })
    (walk : ∀ (W : World) (base : Nat) (args : Array Value) (ds : List (DataW H)) (ps : List MemPlace), HasBoth W → args.toList.length = fn.params.toList.length →
      (∀ (j : Nat) t v, fn.params[j]? = some t → args[j]? = some v → Value.okWide Tryd.checked.prog W .any base t v) →
      DataW.TrodAll enc Tryd.checked.prog W 0 (fun _ => true) true fn.params.toList args.toList ds ps → (∀ x ∈ ps, x.block < W.heap.size) → Calls Tryd.checked.prog f args W (Ret W (.bool true))) :
    ReturnsInHanded {} Tryd.checked os f .any (fun w args => (s.pre enc Tryd.checked.prog fn [] false w args ∧ laidMetH Tryd.prog laidL w) ∧ sizedMet enc Tryd.checked.prog fn (OpenSpec.ofChange s) false w args) (s.post enc Tryd.checked.prog fn false true false false) := by
  refine returnsInHanded_of_change_and (C := Tryd.checked) (X := fun w _ => laidMetH Tryd.prog laidL w) (fun _ _ _ hh h => h.of_heap hh) own started noInit hfn
    (ChangeSpec.witness_shaped (enc := enc) (C := Tryd.checked) (os := os) (X := fun w _ => laidMetH Tryd.prog laidL w) false (World.doorLaid Tryd.prog 400 os) args0 8 rfl hsh hok hpre hsz (door_met os _)) ?_
  intro W base args ds gs before hval hW _ _ hL _
  have hlt : ∀ x ∈ before, x.block < W.heap.size := fun x hx => by simpa using hW.lt x hx
  have hA := hW
  obtain ⟨p, q, hA, hV, rfl, _, _⟩ := hA
  have hlen := trodAll_len hA
  rw [hv] at hV
  have hq : gs = [] := by
    cases gs with
    | nil => rfl
    | cons _ _ => exact hV.elim
  subst hq
  refine (walk W base args ds p (of_laid hL) hlen.1 hval hA (fun x hx => hlt x (by simp [hx]))).mono fun e W' ⟨he, x, hx⟩ => ⟨_, he, ?_⟩
  subst hx
  exact law_post laidOut hv (fun t h => by simpa using List.all_eq_true.1 hr t h) hf ht hW (hs ds hlen.2) x.below
end Go.Proofs.YtfomephgallpmaaDoor
