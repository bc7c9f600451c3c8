/-
  What the statements of layer 8 take of the program, beside the document's own functions; EventBefore.
  Conditions: that the program's functions answer as the document says (Has8), and that live answers true.
-/
import Derived.Test.YtfjgmggpkljphaaEvAny
namespace Go.Proofs.Ytfjgmggpkljphaa
open Go.RowKit
attribute [local go_sem] Later.cell Later.frozen Later.lt Later.le
set_option linter.unusedVariables false

/-- The program answers as the document says. -/
structure Has8 : Prop where
  check : ∀ (p : Option Addr) (cap : Nat) (l : List Ev) (w : World), EvsP w p l → l.length ≤ 1000000 → Calls Try.prog 40 #[.slice p l.length cap] w (Ret w (.int .i64 (histE l)))
  calls : ∀ (p : Option Addr) (cap : Nat) (l : List Ev) (w : World), EvsP w p l → l.length ≤ 1000000 → Calls Try.prog 36 #[.slice p l.length cap] w (ClsRet 72 w (callsOf l) (histE l))
  handles : ∀ (p : Option Addr) (cap : Nat) (l : List Ev) (w : World), EvsP w p l → l.length ≤ 1000000 → Calls Try.prog 42 #[.slice p l.length cap] w (IntsRet w (hands l))
  before : ∀ (a b : Cl) (w : World), Calls Try.prog 44 #[clV a, clV b] w (Ret w (.bool (clBefore a b)))

/-- A call, cell by cell. -/
def cl10 (th d h o n c r : Int) (dn : Bool) (fr to : Int) : Value := .agg #[.int .i64 th, .int .i64 d, .int .i64 h, .int .i64 o, .int .i64 n, .int .i64 c, .int .i64 r, .bool dn, .int .i64 fr, .int .i64 to]

set_option maxHeartbeats 2000000 in
theorem EventBefore_true (H8 : Has8) (hlive : ∀ W, Calls Try.prog 35 #[] W (Ret W (.bool true))) (a b : Cl) (w : World) :
    Calls Try.prog 10 #[clV a, clV b] w (Ret w (.bool true)) := by
  have o1 := fun W => own_any a W
  have o2 := fun W => own_any b W
  have p1 := fun W => H8.before a b W
  have r1 := fun W => rBefore_any a b W
  generalize clBefore a b = v at p1 r1
  have ev : (v == v) = true := by simp
  obtain ⟨th, d, h, o, n, c, r, dn, fr, to⟩ := a
  obtain ⟨th2, d2, h2, o2', n2, c2, r2, dn2, fr2, to2⟩ := b
  simp only [clV, clCells] at o1 o2 p1 r1 ⊢
  go_enter Try.func10, Try.ntmps10
  go_wp2_with fail
  refine wp_region_later (by kernel_rfl) (by kernel_rfl) ?_
  repeat (go_big_quiet_step (first
    | (go_at_call 45; with_reducible exact later_of _ (o1 _))
    | (go_at_call 45; with_reducible exact later_of _ (o2 _))
    | (go_at_call 44; with_reducible exact later_of _ (p1 _))
    | (go_at_call 46; with_reducible exact later_of _ (r1 _))
    | (go_at_call 35; with_reducible exact later_of _ (hlive _))))
  refine wpQuiet_nil ?_
  rintro _ ⟨x1, rfl⟩
  go_wp2
  go_ret
  exact Ret.mk rfl ((((Below.refl _ _).alloc (Nat.le_refl _) _).alloc (by simp) _).trans (x1.below.mono (by simp; omega)))
end Go.Proofs.Ytfjgmggpkljphaa
