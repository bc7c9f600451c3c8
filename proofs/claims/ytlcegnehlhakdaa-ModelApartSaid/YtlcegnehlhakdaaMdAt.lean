/-
  What the program's own at and Pins come to for layer 7.
  Conditions: that the map stands in memory.
-/
import Derived.Test.YtlcegnehlhakdaaMdAnsB
namespace Go.Proofs.Ytlcegnehlhakdaa
open Go.RowKit Go.Maps
attribute [local go_sem] Later.cell Later.frozen Later.lt Later.le
set_option linter.unusedVariables false
set_option linter.unusedSimpArgs false
set_option maxRecDepth 4000

theorem look_plain {w : World} {g : Nat} {bo bt : Option Nat} {S : St} (hM : MapAt w g bo bt S) {h : Int} (hw : (Lit.int .i64 h).wf = true) (W : World) (x : Below w.heap.size w W) :
    (Instr.lookup 56 (.map bo) (.int .i64 h) false).run Try.prog W = .ok (obVo (getO S.L h)) W := by
  have hM' := hM.below x
  rcases hM'.objs with ⟨rfl, _⟩ | ⟨b, rfl, ho⟩
  · have e := hM.nos rfl
    subst e
    have := Maps.look_nil (w := W) false kInt Try.underlying56 (Try.zeroValue62 W) (key_int hw)
    exact this
  · obtain ⟨v, ps, hrun, hv⟩ := ho.lookup kInt Try.underlying56 (Try.zeroValue62 W) (zd := obD0) (zp := []) rfl (key_int hw)
    rw [objD_at] at hv
    rw [hrun]
    cases hg : getO S.L h with
    | none =>
      rw [hg] at hv
      rw [objR_at0 hv]
      rfl
    | some x =>
      rw [hg] at hv
      rw [objR_at hv]
      rfl
/-- Whether a handle was told. -/
theorem look_told {w : World} {g : Nat} {bo bt : Option Nat} {S : St} (hM : MapAt w g bo bt S) {h : Int} (hw : (Lit.int .i64 h).wf = true) (W : World) (x : Below w.heap.size w W) :
    (Instr.lookup 57 (.map bt) (.int .i64 h) true).run Try.prog W = .ok (.tuple #[.agg #[], .bool (S.T.contains h)]) W := by
  have hM' := hM.below x
  rcases hM'.told with ⟨rfl, _⟩ | ⟨b, rfl, ho⟩
  · have e := hM.nos (hM.both.2 rfl)
    subst e
    have := Maps.look_nil (w := W) true kInt Try.underlying57 (Try.zeroValue64 W) (key_int hw)
    exact this
  · obtain ⟨v, ps, hrun, hv⟩ := ho.look_ok kInt Try.underlying57 (Try.zeroValue64 W) (zd := .agg []) (zp := []) rfl (key_int hw)
    rw [hrun, setD_has]
    have : v = .agg #[] := (unitElem_inv hv).1
    rw [this]

theorem field_b (s : ByteArray) (p : Int) (w : World) : (Instr.field 62 (.agg #[.string s, .int .i64 p]) 0).run Try.prog w = .ok (.string s) w := by kernel_rfl
theorem field_p (s : ByteArray) (p : Int) (w : World) : (Instr.field 62 (.agg #[.string s, .int .i64 p]) 1).run Try.prog w = .ok (.int .i64 p) w := by kernel_rfl
def obS : Option Ob → List UInt8
  | some x => x.bs
  | none => []
def obP : Option Ob → Int
  | some x => x.pins
  | none => 0
theorem obVo_eq (x : Option Ob) : obVo x = .agg #[.string (bsV (obS x)), .int .i64 (obP x)] := by cases x <;> rfl
theorem at_nil (h : Int) (w : World) : Calls Try.prog 41 #[.pointer none, .int .i64 h] w (Ret w (.agg #[.string (bsV []), .int .i64 0])) := by
  go_enter Try.func41, Try.ntmps41
  go_wp2_with fail
  refine bodyPost_ret (v := .agg #[.string (bsV []), .int .i64 0]) (by simp [results, Try.results41, go_sem, bsV]) rfl (Ret.mk rfl ?_)
  exact (Below.refl _ w).alloc (Nat.le_refl _) _
theorem at_any {w : World} {g : Nat} {bo bt : Option Nat} {S : St} (hM : MapAt w g bo bt S) (h : Int) (hw : (Lit.int .i64 h).wf = true) :
    Calls Try.prog 41 #[.pointer (some ⟨g, 0, none⟩), .int .i64 h] w (Ret w (.agg #[.string (bsV (obS (getO S.L h))), .int .i64 (obP (getO S.L h))])) := by
  have hg := hM.lt
  have c0 : ∀ o, (w.alloc o).cell? ⟨g, 0, none⟩ = some (.map bo) := fun o => (((Below.refl _ w).alloc (Nat.le_refl _) o).cell (p := ⟨g, 0, none⟩) hg).trans hM.cell0
  have hl := fun o => look_plain hM hw (w.alloc o) ((Below.refl _ w).alloc (Nat.le_refl _) o)
  rw [obVo_eq] at hl
  generalize obS (getO S.L h) = bs at *
  generalize obP (getO S.L h) = p at *
  have HL := Lib.hid hl
  clear hl hM
  go_enter Try.func41, Try.ntmps41
  go_wp2_with (first | (rw [HL.out]; simp only [Result.andThen]))
  refine bodyPost_ret (v := .agg #[.string (bsV bs), .int .i64 p]) (by simp [results, Try.results41, go_sem]) rfl (Ret.mk rfl ?_)
  exact (Below.refl _ w).alloc (Nat.le_refl _) _

theorem Pins_nil (h : Int) (w : World) : Calls Try.prog 23 #[.pointer none, .int .i64 h] w (Ret w (.int .i64 0)) := by
  have ca := fun W => at_nil h W
  go_enter Try.func23, Try.ntmps23
  go_wp2_with (first
    | (go_at_call 41; (with_reducible refine (ca _).mono ?_); rintro _ _ ⟨rfl, y, rfl⟩)
    | (rw [field_p]; simp only [Result.andThen]; rw [Oper.upon_value]))
  go_ret
  exact Ret.mk rfl y.below
theorem Pins_any {w : World} {g : Nat} {bo bt : Option Nat} {S : St} (hM : MapAt w g bo bt S) (h : Int) (hw : (Lit.int .i64 h).wf = true) :
    Calls Try.prog 23 #[.pointer (some ⟨g, 0, none⟩), .int .i64 h] w (Ret w (.int .i64 (obP (getO S.L h)))) := by
  have ca := at_any hM h hw
  go_enter Try.func23, Try.ntmps23
  go_wp2_with (first
    | (go_at_call 41; (with_reducible refine ca.mono ?_); rintro _ _ ⟨rfl, y, rfl⟩)
    | (rw [field_p]; simp only [Result.andThen]; rw [Oper.upon_value]))
  go_ret
  exact Ret.mk rfl y.below
end Go.Proofs.Ytlcegnehlhakdaa
