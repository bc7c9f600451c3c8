/-
  The program's map of layer 7 in memory.
  Conditions: none; lemmas over the library's own notions and the program's table of types.
-/
import Derived.Test.YtlcegnehlhakdaaProg
import Derived.Test.YtlcegnehlhakdaaLater
import Derived.Test.YtlcegnehlhakdaaMdMath
import Derived.Maps.OwnSet
import Derived.WalkKit
import Derived.WalkSpells
import Derived.WalkLawsBesides
import Derived.Lib.Hide
import Derived.BigQuiet
import Derived.LoopTactic
namespace Go.Proofs.Ytlcegnehlhakdaa
open Go.RowKit Go.Maps
set_option linter.unusedVariables false

theorem kInt : Keyed Try.prog 3 := int_keyed Try.underlying3

/-! ### How elements read -/
def bsV (l : List UInt8) : ByteArray := ⟨l.toArray⟩
def obV (x : Ob) : Value := .agg #[.string (bsV x.bs), .int .i64 x.pins]
def obVo : Option Ob → Value
  | some x => obV x
  | none => .agg #[.string ByteArray.empty, .int .i64 0]
def objR (v : Value) : Option (DataW Unit × List MemPlace) :=
  match v with
  | .agg ⟨[.string s, .int .i64 p]⟩ => some (.agg [.lit (.string s.data.toList), .lit (.int .i64 p)], [])
  | _ => none
def obD (x : Ob) : DataW Unit := .agg [.lit (.string x.bs), .lit (.int .i64 x.pins)]
def obD0 : DataW Unit := .agg [.lit (.string []), .lit (.int .i64 0)]
theorem objR_mk (x : Ob) : objR (obV x) = some (obD x, []) := rfl
theorem objR_inv {v : Value} {z : DataW Unit × List MemPlace} (h : objR v = some z) : ∃ s p, v = .agg #[.string s, .int .i64 p] ∧ z = (.agg [.lit (.string s.data.toList), .lit (.int .i64 p)], []) := by
  unfold objR at h
  split at h
  · rename_i s p
    exact ⟨s, p, rfl, (Option.some.inj h).symm⟩
  · cases h
theorem bs_eq {s : ByteArray} {l : List UInt8} (h : s.data.toList = l) : s = bsV l := by
  obtain ⟨a⟩ := s
  subst h
  rfl
theorem objR_at {v : Value} {x : Ob} {ps : List MemPlace} (h : objR v = some (obD x, ps)) : v = obV x := by
  obtain ⟨s, p, rfl, e⟩ := objR_inv h
  simp only [obD, Prod.mk.injEq, DataW.agg.injEq, List.cons.injEq, DataW.lit.injEq, Lit.string.injEq, Lit.int.injEq, and_true, true_and] at e
  obtain ⟨⟨e1, e2⟩, _⟩ := e
  rw [bs_eq e1.symm, ← e2]
  rfl
theorem objR_at0 {v : Value} {ps : List MemPlace} (h : objR v = some (obD0, ps)) : v = .agg #[.string ByteArray.empty, .int .i64 0] := by
  obtain ⟨s, p, rfl, e⟩ := objR_inv h
  simp only [obD0, Prod.mk.injEq, DataW.agg.injEq, List.cons.injEq, DataW.lit.injEq, Lit.string.injEq, Lit.int.injEq, and_true, true_and] at e
  obtain ⟨⟨e1, e2⟩, _⟩ := e
  rw [bs_eq e1.symm, ← e2]
  rfl

/-! ### The data -/
def objE (L : List Ob) : List (Lit × DataW Unit) := L.map fun x => (.int .i64 x.h, obD x)
def objD (L : List Ob) : DataW Unit := .map (objE L)
def setE (T : List Int) : List (Lit × DataW Unit) := T.map fun h => (.int .i64 h, .agg [])
def setD (T : List Int) : DataW Unit := .map (setE T)
theorem sameKey_int (a b : Int) : (Lit.int .i64 a).sameKey (.int .i64 b) = (a == b) := by
  simp only [Lit.sameKey, true_and]
  by_cases h : a = b <;> simp [h]
theorem insE (x : Ob) : ∀ L : List Ob, DataW.insert (.int .i64 x.h, obD x) (objE L) = objE (insO x L)
  | [] => rfl
  | y :: r => by
    show (if (Lit.int .i64 x.h).before (.int .i64 y.h) = true then _ else _) = _
    unfold insO
    simp only [Lit.before, decide_eq_true_eq]
    split
    · rfl
    · show _ :: DataW.insert _ (objE r) = _
      rw [insE x r]
      rfl
theorem delE (h : Int) : ∀ L : List Ob, (objE L).filter (fun p => !p.1.sameKey (.int .i64 h)) = objE (delO L h)
  | [] => rfl
  | y :: r => by
    have ih := delE h r
    unfold objE delO at *
    rw [List.map_cons, List.filter_cons, List.filter_cons]
    simp only [sameKey_int]
    split
    · rw [List.map_cons, ih]
    · exact ih
theorem objD_put (L : List Ob) (x : Ob) : (objD L).put (.int .i64 x.h) (obD x) = objD (putO L x) := by
  show DataW.map (DataW.insert _ (List.filter _ _)) = _
  rw [delE, insE]
  rfl
theorem objD_del (L : List Ob) (h : Int) : (objD L).del (.int .i64 h) = objD (delO L h) := by
  show DataW.map (List.filter _ _) = _
  rw [delE]
  rfl
theorem insSE (x : Int) : ∀ T : List Int, DataW.insert (.int .i64 x, .agg []) (setE T) = setE (insT x T)
  | [] => rfl
  | y :: r => by
    show (if (Lit.int .i64 x).before (.int .i64 y) = true then _ else _) = _
    unfold insT
    simp only [Lit.before, decide_eq_true_eq]
    split
    · rfl
    · show _ :: DataW.insert _ (setE r) = _
      rw [insSE x r]
      rfl
theorem delSE (h : Int) : ∀ T : List Int, (setE T).filter (fun p => !p.1.sameKey (.int .i64 h)) = setE (T.filter (fun y => !(y == h)))
  | [] => rfl
  | y :: r => by
    have ih := delSE h r
    unfold setE at *
    rw [List.map_cons, List.filter_cons, List.filter_cons]
    simp only [sameKey_int]
    split
    · rw [List.map_cons, ih]
    · exact ih
theorem setD_put (T : List Int) (h : Int) : (setD T).put (.int .i64 h) (.agg []) = setD (putT T h) := by
  show DataW.map (DataW.insert _ (List.filter _ _)) = _
  rw [delSE, insSE]
  rfl
theorem objD_at (L : List Ob) (h : Int) (z : DataW Unit) : (objD L).atKey (.int .i64 h) z = (match getO L h with | some x => obD x | none => z) := by
  have e : ∀ L : List Ob, (objE L).find? (fun p => p.1.sameKey (.int .i64 h)) = (getO L h).map fun x => (.int .i64 x.h, obD x) := fun L => by
    induction L with
    | nil => rfl
    | cons y r ih =>
      unfold objE getO at *
      rw [List.map_cons, List.find?_cons, List.find?_cons]
      simp only [sameKey_int]
      cases (y.h == h)
      · simpa using ih
      · rfl
  unfold objD DataW.atKey
  simp only
  rw [e]
  cases getO L h <;> rfl
theorem objD_has (L : List Ob) (h : Int) : Maps.has (objD L) (.int .i64 h) = (getO L h).isSome := by
  show (objE L).any _ = _
  induction L with
  | nil => rfl
  | cons y r ih =>
    unfold objE getO at *
    rw [List.map_cons, List.any_cons, List.find?_cons]
    simp only [sameKey_int]
    cases (y.h == h)
    · simpa using ih
    · rfl
theorem setD_has (T : List Int) (h : Int) : Maps.has (setD T) (.int .i64 h) = T.contains h := by
  show (setE T).any _ = _
  induction T with
  | nil => rfl
  | cons y r ih =>
    unfold setE at *
    rw [List.map_cons, List.any_cons, List.contains_cons]
    simp only [sameKey_int]
    rw [ih, Bool.beq_comm]

/-! ### What a call may turn -/
/-- Nothing that was there has turned, but in these blocks. -/
structure Kept (F : List Nat) (w w' : World) : Prop where
  os : w'.os = w.os
  tape : w'.tape = w.tape
  output : w'.output = w.output
  size : w.heap.size ≤ w'.heap.size
  block : ∀ k, k < w.heap.size → k ∉ F → w'.heap[k]? = w.heap[k]?
namespace Kept
variable {F G : List Nat} {w w' w'' : World}
theorem refl (F : List Nat) (w : World) : Kept F w w := ⟨rfl, rfl, rfl, Nat.le_refl _, fun _ _ _ => rfl⟩
theorem of_below (F : List Nat) (h : Below w.heap.size w w') : Kept F w w' := ⟨h.os, h.tape, h.output, h.size, fun k hk _ => h.block k hk⟩
theorem trans (h : Kept F w w') (h' : Kept G w' w'') (hG : ∀ b ∈ G, b ∈ F ∨ w.heap.size ≤ b) : Kept F w w'' :=
  ⟨h'.os.trans h.os, h'.tape.trans h.tape, h'.output.trans h.output, Nat.le_trans h.size h'.size, fun k hk hF =>
    (h'.block k (Nat.lt_of_lt_of_le hk h.size) (fun hk' => by rcases hG k hk' with c | c; exact hF c; omega)).trans (h.block k hk hF)⟩
theorem below (h : Kept F w w') {base : Nat} {v : World} (hv : Below base v w) (hF : ∀ b ∈ F, base ≤ b) (hb : base ≤ w.heap.size) : Below base v w' :=
  hv.trans ⟨h.os, h.tape, h.output, h.size, fun k hk => h.block k (by omega) (fun hk' => by have := hF k hk'; omega)⟩
theorem cell (h : Kept F w w') {p : Addr} (hp : p.block < w.heap.size) (hF : p.block ∉ F) : w'.cell? p = w.cell? p := by simp [World.cell?, h.block _ hp hF]
theorem grown {row : Option Nat} (h : w.grownBy w' row) (hr : ∀ b, row = some b → b ∈ F) : Kept F w w' :=
  ⟨h.os, h.tape, h.output, h.size, fun k hk hF => h.block k hk (fun e => hF (hr k e.symm))⟩
theorem setCell (w : World) {a : Addr} (ha : a.block ∈ F) (u : Value) : Kept F w (w.setCell a u) := by
  refine ⟨rfl, rfl, rfl, by simp, fun k hk hF => ?_⟩
  have : a.block ≠ k := fun e => hF (e ▸ ha)
  simp [World.setCell, Array.getElem?_modify, this]
theorem mono (h : Kept F w w') (hF : ∀ b ∈ F, b ∈ G) : Kept G w w' := ⟨h.os, h.tape, h.output, h.size, fun k hk hG => h.block k hk fun hk' => hG (hF k hk')⟩
theorem owns {P : Program} {k : TypeId} {R : Value → Option (DataW Unit × List MemPlace)} {b n : Nat} {D : DataW Unit} (h : Kept F w w') (ho : w.ownsMap P k R b n D) (hb : b ∉ F) : w'.ownsMap P k R b n D := by
  have hlt := ho.lt
  obtain ⟨es, clock, hb', Ft, hs, hD⟩ := ho
  exact ⟨es, clock, (h.block b hlt hb).trans hb', Ft, hs, hD⟩
end Kept

/-! ### The map -/
def mbl : Option Nat → List Nat
  | some b => [b]
  | none => []
/-- A map value that is nil, or owned. -/
def MV (w : World) (R : Value → Option (DataW Unit × List MemPlace)) (bo : Option Nat) (n : Nat) (D : DataW Unit) : Prop :=
  (bo = none ∧ n = 0) ∨ ∃ b, bo = some b ∧ w.ownsMap Try.prog 3 R b n D
/-- The map stands at block g, and has S; F: its blocks. -/
structure MapAt (w : World) (g : Nat) (bo bt : Option Nat) (S : St) : Prop where
  blk : w.heap[g]? = some (.cells #[.map bo, .map bt] 59 (0, 0))
  objs : MV w objR bo S.L.length (objD S.L)
  told : MV w unitElem bt S.T.length (setD S.T)
  both : bo = none ↔ bt = none
  apart : ∀ b, bo = some b → bt ≠ some b
  nos : bo = none → S = St.none
def foot (g : Nat) (bo bt : Option Nat) : List Nat := g :: (mbl bo ++ mbl bt)

theorem tight {w : World} {R : Value → Option (DataW Unit × List MemPlace)} {b n : Nat} {D : DataW Unit} (h : w.ownsMap Try.prog 3 R b n D) : w.ownsMap Try.prog 3 R b (Maps.size D) D := by
  obtain ⟨es, clock, hb, F, hs, rfl⟩ := h
  exact ⟨es, clock, hb, F, by rw [Maps.size_eq, length_sorted]; simp, rfl⟩
theorem size_objD (L : List Ob) : Maps.size (objD L) = L.length := by simp [objD, Maps.size_eq, objE]
theorem size_setD (T : List Int) : Maps.size (setD T) = T.length := by simp [setD, Maps.size_eq, setE]
theorem ownsObj {w : World} {b n : Nat} {L : List Ob} (h : w.ownsMap Try.prog 3 objR b n (objD L)) : w.ownsMap Try.prog 3 objR b L.length (objD L) := by
  have := tight h
  rwa [size_objD] at this
theorem ownsSet {w : World} {b n : Nat} {T : List Int} (h : w.ownsMap Try.prog 3 unitElem b n (setD T)) : w.ownsMap Try.prog 3 unitElem b T.length (setD T) := by
  have := tight h
  rwa [size_setD] at this

namespace MapAt
variable {w w' : World} {g : Nat} {bo bt : Option Nat} {S : St}
theorem lt (h : MapAt w g bo bt S) : g < w.heap.size := (Array.getElem?_eq_some_iff.1 h.blk).1
theorem foot_lt (h : MapAt w g bo bt S) : ∀ b ∈ foot g bo bt, b < w.heap.size := by
  intro b hb
  unfold foot at hb
  rcases List.mem_cons.1 hb with rfl | hb
  · exact h.lt
  · rcases List.mem_append.1 hb with hb | hb
    · rcases h.objs with ⟨rfl, _⟩ | ⟨c, rfl, ho⟩
      · simp [mbl] at hb
      · simp [mbl] at hb; subst hb; exact ho.lt
    · rcases h.told with ⟨rfl, _⟩ | ⟨c, rfl, ho⟩
      · simp [mbl] at hb
      · simp [mbl] at hb; subst hb; exact ho.lt
theorem kept {F : List Nat} (h : MapAt w g bo bt S) (hk : Kept F w w') (hF : ∀ b ∈ foot g bo bt, b ∉ F) : MapAt w' g bo bt S := by
  refine ⟨(hk.block g h.lt (hF g (by simp [foot]))).trans h.blk, ?_, ?_, h.both, h.apart, h.nos⟩
  · rcases h.objs with h1 | ⟨c, rfl, ho⟩
    · exact .inl h1
    · exact .inr ⟨c, rfl, hk.owns ho (hF c (by simp [foot, mbl]))⟩
  · rcases h.told with h1 | ⟨c, rfl, ho⟩
    · exact .inl h1
    · exact .inr ⟨c, rfl, hk.owns ho (hF c (by simp [foot, mbl]))⟩
theorem later (h : MapAt w g bo bt S) (x : Later w) : MapAt x.at' g bo bt S := h.kept (Kept.of_below [] x.below) (fun b _ => by simp)
theorem below (h : MapAt w g bo bt S) (hb : Below w.heap.size w w') : MapAt w' g bo bt S := h.later ⟨w', hb⟩
theorem cell0 (h : MapAt w g bo bt S) : w.cell? ⟨g, 0, none⟩ = some (.map bo) := by simp [World.cell?, h.blk]
theorem cell1 (h : MapAt w g bo bt S) : w.cell? ⟨g, 1, none⟩ = some (.map bt) := by simp [World.cell?, h.blk]
theorem frozen (h : MapAt w g bo bt S) (j : Nat) : w.frozen? ⟨g, j, none⟩ = false := by simp [World.frozen?, h.blk]
end MapAt

/-! ### Looking up -/
theorem key_int {h : Int} (hw : (Lit.int .i64 h).wf = true) : keyOf Try.prog 3 (.int .i64 h) = some (.int .i64 h) := keyOf_int_mk Try.underlying3 hw
theorem look_obj {w : World} {g : Nat} {bo bt : Option Nat} {S : St} (hM : MapAt w g bo bt S) {h : Int} (hw : (Lit.int .i64 h).wf = true) (W : World) (x : Below w.heap.size w W) :
    (Instr.lookup 56 (.map bo) (.int .i64 h) true).run Try.prog W = .ok (.tuple #[obVo (getO S.L h), .bool (getO S.L h).isSome]) W := by
  have hM' := hM.below x
  rcases hM'.objs with ⟨rfl, _⟩ | ⟨b, rfl, ho⟩
  · have e := hM.nos rfl
    subst e
    have := Maps.look_nil (w := W) true kInt Try.underlying56 (Try.zeroValue62 W) (key_int hw)
    exact this
  · obtain ⟨v, ps, hrun, hv⟩ := ho.look_ok kInt Try.underlying56 (Try.zeroValue62 W) (zd := obD0) (zp := []) rfl (key_int hw)
    rw [objD_at] at hv
    rw [hrun, objD_has]
    cases hg : getO S.L h with
    | none =>
      rw [hg] at hv
      rw [objR_at0 hv]
      rfl
    | some x =>
      rw [hg] at hv
      rw [objR_at hv]
      rfl
end Go.Proofs.Ytlcegnehlhakdaa
