/-
  The document's own functions of layer 8, of events that lie in memory or of none.
  Conditions: that the events, if there are any, lie in memory.
-/
import Derived.Test.YtfjgmggpkljphaaEvAll
import Derived.Test.YtfjgmggpkljphaaEvHand
namespace Go.Proofs.Ytfjgmggpkljphaa
open Go.RowKit
attribute [local go_sem] Later.cell Later.frozen Later.lt Later.le
set_option linter.unusedVariables false

/-- A slice that holds these events. -/
def EvsP (w : World) (p : Option Addr) (l : List Ev) : Prop := l ≠ [] → ∃ b off, p = some ⟨b, off, none⟩ ∧ EvsAt w b off l
theorem EvsP.later {w : World} {p : Option Addr} {l : List Ev} (h : EvsP w p l) (x : Later w) : EvsP x.at' p l := fun hl => by
  obtain ⟨b, off, e, hE⟩ := h hl
  exact ⟨b, off, e, hE.later x⟩
theorem EvsP.below {w w' : World} {p : Option Addr} {l : List Ev} (h : EvsP w p l) (hb : Below w.heap.size w w') : EvsP w' p l := fun hl => by
  obtain ⟨b, off, e, hE⟩ := h hl
  exact ⟨b, off, e, hE.below hb⟩

theorem rCheck_nil (p : Option Addr) (c : Nat) (w : World) : Calls Try.prog 41 #[.slice p 0 c] w (Ret w (.int .i64 0)) := by
  go_enter Try.func41, Try.ntmps41
  go_wp2
  refine wp_loop_rounds 1 ?_
  rw [rounds_succ]
  go_wp2
  go_ret
  exact Ret.mk rfl (Below.refl _ _)
theorem histE_nil : histE [] = 0 := histE_ok (fun i hi => absurd hi (by simp))
theorem rCheck_p {p : Option Addr} {cap : Nat} {l : List Ev} {w : World} (hE : EvsP w p l) (hl : l.length ≤ 1000000) : Calls Try.prog 41 #[.slice p l.length cap] w (Ret w (.int .i64 (histE l))) := by
  by_cases h : l = []
  · subst h
    rw [histE_nil]
    exact rCheck_nil p cap w
  · obtain ⟨b, off, rfl, hE2⟩ := hE h
    exact rCheck_any hE2 hl
theorem rCalls_nil (p : Option Addr) (c : Nat) (w : World) : Calls Try.prog 37 #[.slice p 0 c] w (ClsRet 70 w [] 0) := by
  have hc := rCheck_nil p c w
  go_enter Try.func37, Try.ntmps37
  go_wp2_with (go_at_call 41; (with_reducible refine hc.mono ?_); rintro _ _ ⟨rfl, x, rfl⟩)
  refine wp_loop_rounds 1 ?_
  rw [rounds_succ]
  go_wp2
  go_ret2
  exact ⟨_, rfl, x, rfl, Cls.nil _ _ _⟩
theorem rHandles_nil (p : Option Addr) (c : Nat) (w : World) : Calls Try.prog 43 #[.slice p 0 c] w (IntsRet w []) := by
  go_enter Try.func43, Try.ntmps43
  go_wp2
  refine wp_loop_rounds 1 ?_
  rw [rounds_succ]
  go_wp2
  go_ret
  exact ⟨_, rfl, ⟨w, Below.refl _ _⟩, rfl, Ints.nil _ _⟩
/-- The calls of events, if they are a history. -/
def callsOf (l : List Ev) : List Cl := if histE l = 0 then callsTo l l.length else []
theorem rCalls_p {p : Option Addr} {cap : Nat} {l : List Ev} {w : World} (hE : EvsP w p l) (hl : l.length ≤ 1000000) : Calls Try.prog 37 #[.slice p l.length cap] w (ClsRet 70 w (callsOf l) (histE l)) := by
  by_cases h : l = []
  · subst h
    rw [histE_nil]
    exact rCalls_nil p cap w
  · obtain ⟨b, off, rfl, hE2⟩ := hE h
    rcases histE_cases l with ⟨H, e⟩ | ⟨H, e⟩
    · unfold callsOf
      rw [e, if_pos rfl]
      exact rCalls_ok hE2 hl H
    · unfold callsOf
      rw [e, if_neg (by decide)]
      refine (rCalls_bad (cap := cap) hE2 hl H).mono ?_
      rintro _ _ ⟨rfl, x, rfl⟩
      exact ⟨_, rfl, x, rfl, Cls.nil _ _ _⟩
theorem rHandles_p {p : Option Addr} {cap : Nat} {l : List Ev} {w : World} (hE : EvsP w p l) (hl : l.length ≤ 1000000) : Calls Try.prog 43 #[.slice p l.length cap] w (IntsRet w (hands l)) := by
  by_cases h : l = []
  · subst h
    exact rHandles_nil p cap w
  · obtain ⟨b, off, rfl, hE2⟩ := hE h
    exact rHandles_any hE2 hl
end Go.Proofs.Ytfjgmggpkljphaa
