/-
  What it means that the package's table reads as it is laid, and the statements' own frame where it does.
  Conditions: none; the table's reading is the statements' own premise, tied to the program's text by the given tie.
-/
import Derived.Test.YtohclplpcnkhbaaDoorLaw
import Derived.Test.YtohclplpcnkhbaaDoorEntryWalks
import Derived.Test.YtohclplpcnkhbaaDoorRows
import Derived.Test.YtohclplpcnkhbaaDoorTie
import Derived.LaidMore
import Derived.Stop.Joined
namespace Go.Proofs.YtohclplpcnkhbaaDoor
open Go.ChangeShapes Go.WideShapes Go.ChangeAt Go.RowKit

theorem own : ownKnob Tryd.prog.godebug = none := by kernel_rfl
theorem laidOut : laidOutB Tryd.prog = true := by kernel_rfl
def laidL : List (String × DataW Unit) := [("sidings/entry.fields", Rows.laid_sidings_entry_fields)]
theorem gFields : Tryd.prog.globalNamed "sidings/entry.fields" = some 0 := by kernel_rfl
theorem tFields : (Tryd.prog.globals[0]?).map (·.type) = some 49 := by kernel_rfl
theorem cFld : Tryd.prog.cellsOf 48 = 2 := by kernel_rfl
theorem cInt : Tryd.prog.cellsOf 3 = 1 := by kernel_rfl
theorem cArr : Tryd.prog.cellsOf 49 = 12 := by kernel_rfl

/-- The door's own heap meets the condition: closed facts. -/
theorem door_met (os : Os) (args : Array Value) : laidMetH Tryd.prog laidL ((World.doorLaid Tryd.prog 400 os).forCall (fun _ _ => 0) ⟨#[], args, []⟩).memory :=
  laidMetH_of_parts3 (fuel := 8) (laidMet_of_run' 8 (by kernel_rfl) (by kernel_rfl)) (by kernel_rfl) (by kernel_rfl)

section
variable {H : Type} {enc : TypeId × Value → H} {w : World} {base : Nat} {spare : Nat → Bool} {held : Bool}
/-- A field of the table: two numbers. -/
theorem field_cells {fuel : Nat} {a b : Value} {n m : Int} {p : List MemPlace} (h : DataW.trod enc Tryd.prog w base spare held fuel 48 [a, b] = some (.agg [.lit (.int .i64 n), .lit (.int .i64 m)], p)) : a = .int .i64 n ∧ b = .int .i64 m := by
  obtain ⟨y0, y1, k, hx, _, h0, h1⟩ := trod_struct2 Tryd.underlying48 h
  simp only [Prod.mk.injEq, DataW.agg.injEq, List.cons.injEq] at hx
  obtain ⟨n0, e0, f0, _⟩ := DataW.trod_int Tryd.underlying3 h0
  obtain ⟨n1, e1, f1, _⟩ := DataW.trod_int Tryd.underlying3 h1
  rw [cInt] at e0 e1
  have g0 : n0 = n := by have := hx.1.1; rw [f0] at this; simpa using this.symm
  have g1 : n1 = m := by have := hx.1.2.1; rw [f1] at this; simpa using this.symm
  simp at e0 e1
  exact ⟨by rw [e0, g0], by rw [e1, g1]⟩
end

theorem of_laid {W : World} (h : laidMetH Tryd.prog laidL W) : HasFields W := by
  rw [MakeChecks.laidMetH_plain _ _ _ (by kernel_rfl)] at h
  obtain ⟨ps, ⟨g0, t0, cs0, f0, p0, q0, hg0, ht0, hv0, hd0, _, _⟩, _, _⟩ := h
  obtain rfl := Option.some.inj (gFields.symm.trans hg0)
  obtain rfl := Option.some.inj (tFields.symm.trans ht0)
  obtain ⟨xs, m1, hx, hx1, hlen, hn, hel⟩ := DataW.trod_array Tryd.underlying49 hd0
  rw [cArr] at hlen
  simp only [Rows.laid_sidings_entry_fields, Prod.mk.injEq, DataW.agg.injEq] at hx1
  obtain ⟨hx1, _⟩ := hx1
  obtain ⟨l⟩ := cs0
  match l, hlen with
  | [a0, a1, a2, a3, a4, a5, a6, a7, a8, a9, a10, a11], _ =>
  match xs, hn with
  | [x0, x1, x2, x3, x4, x5], _ =>
  simp only [List.map_cons, List.map_nil, List.cons.injEq] at hx1
  obtain ⟨k0, k1, k2, k3, k4, k5, _⟩ := hx1
  obtain ⟨r0, r1⟩ : a0 = .int .i64 0 ∧ a1 = .int .i64 20 := by
    have h := hel 0 (by decide)
    rw [cFld] at h
    exact field_cells (p := x0.2) (by rw [k0]; exact h)
  obtain ⟨r2, r3⟩ : a2 = .int .i64 20 ∧ a3 = .int .i64 20 := by
    have h := hel 1 (by decide)
    rw [cFld] at h
    exact field_cells (p := x1.2) (by rw [k1]; exact h)
  obtain ⟨r4, r5⟩ : a4 = .int .i64 40 ∧ a5 = .int .i64 4 := by
    have h := hel 2 (by decide)
    rw [cFld] at h
    exact field_cells (p := x2.2) (by rw [k2]; exact h)
  obtain ⟨r6, r7⟩ : a6 = .int .i64 44 ∧ a7 = .int .i64 4 := by
    have h := hel 3 (by decide)
    rw [cFld] at h
    exact field_cells (p := x3.2) (by rw [k3]; exact h)
  obtain ⟨r8, r9⟩ : a8 = .int .i64 48 ∧ a9 = .int .i64 1 := by
    have h := hel 4 (by decide)
    rw [cFld] at h
    exact field_cells (p := x4.2) (by rw [k4]; exact h)
  obtain ⟨r10, r11⟩ : a10 = .int .i64 49 ∧ a11 = .int .i64 1 := by
    have h := hel 5 (by decide)
    rw [cFld] at h
    exact field_cells (p := x5.2) (by rw [k5]; exact h)
  subst r0 r1 r2 r3 r4 r5 r6 r7 r8 r9 r10 r11
  have hc := World.var?_cell hg0 hv0
  have hlt : 0 < W.heap.size := by
    by_cases hz : 0 < W.heap.size
    · exact hz
    · exfalso
      have h0 := hc 0
      have hn : W.heap[0]? = none := Array.getElem?_eq_none (by omega)
      simp [World.cell?, hn] at h0
  exact ⟨hlt, hc 0, hc 1, hc 2, hc 3, hc 4, hc 5, hc 6, hc 7, hc 8, hc 9, hc 10, hc 11⟩

/-- The statement's frame, for a law whose walk needs of its arguments their outer forms alone, and of the world that the table reads as it is laid. -/
theorem law_lifted_laid {H : Type} {enc : TypeId × Value → H} {os : Os} {f : FuncId} {fn : Func} {s : ChangeSpec} {tb : TypeId} (args0 : Array Value)
    (started : os.Started) (noInit : Tryd.checked.prog.inits.idxOf? f = none) (hfn : Tryd.checked.prog.funcs[f]? = some fn)
    (hsh : ((World.doorLaid Tryd.prog 400 os).forCall (fun _ _ => 0) ⟨#[], args0, []⟩).Shaped Tryd.checked.prog)
    (hok : Input.okWideB Tryd.checked.prog ((World.doorLaid Tryd.prog 400 os).forCall (fun _ _ => 0) ⟨#[], args0, []⟩) f ⟨#[], args0, []⟩ = true)
    (hpre : s.preB enc Tryd.checked.prog fn [] false ((World.doorLaid Tryd.prog 400 os).forCall (fun _ _ => 0) ⟨#[], args0, []⟩).memory args0 8 = true)
    (hsz : s.sizedB enc Tryd.checked.prog fn false ((World.doorLaid Tryd.prog 400 os).forCall (fun _ _ => 0) ⟨#[], args0, []⟩).memory args0 8 = true)
    (hv : s.vars = []) (hr : (fn.params.toList.all fun t => Tryd.checked.prog.readableRec t && decide (t < Tryd.checked.prog.types.size)) = true) (hf : fn.resultTypes = #[tb]) (ht : Tryd.checked.prog.underlying tb = some .bool)
    (hs : ∀ ds : List (DataW H), ds.length = fn.params.toList.length → s.fn H (ds ++ []) = { results := [.lit (.bool true)], args := ds })
    (walk : ∀ (W : World) (base : Nat) (args : Array Value), HasFields W → args.toList.length = fn.params.toList.length →
      (∀ (j : Nat) t v, fn.params[j]? = some t → args[j]? = some v → Value.okWide Tryd.checked.prog W .any base t v) → Calls Tryd.checked.prog f args W (Ret W (.bool true))) :
    ReturnsInHanded {} Tryd.checked os f .any (fun w args => (s.pre enc Tryd.checked.prog fn [] false w args ∧ laidMetH Tryd.prog laidL w) ∧ sizedMet enc Tryd.checked.prog fn (OpenSpec.ofChange s) false w args) (s.post enc Tryd.checked.prog fn false true false false) := by
  refine returnsInHanded_of_change_and (C := Tryd.checked) (X := fun w _ => laidMetH Tryd.prog laidL w) (fun _ _ _ hh h => h.of_heap hh) own started noInit hfn
    (ChangeSpec.witness_shaped (enc := enc) (C := Tryd.checked) (os := os) (X := fun w _ => laidMetH Tryd.prog laidL w) false (World.doorLaid Tryd.prog 400 os) args0 8 rfl hsh hok hpre hsz (door_met os _)) ?_
  intro W base args ds gs before hval hW _ _ hL _
  have hA := hW
  obtain ⟨p, q, hA, hV, _, _, _⟩ := hA
  have hlen := trodAll_len hA
  rw [hv] at hV
  have hq : gs = [] := by
    cases gs with
    | nil => rfl
    | cons _ _ => exact hV.elim
  subst hq
  refine (walk W base args (of_laid hL) hlen.1 hval).mono fun e W' ⟨he, x, hx⟩ => ⟨_, he, ?_⟩
  subst hx
  exact law_post laidOut hv (fun t h => by simpa using List.all_eq_true.1 hr t h) hf ht hW (hs ds hlen.2) x.below
end Go.Proofs.YtohclplpcnkhbaaDoor
