/-
  EventCalls, walked: of events that lie in memory.
  Conditions: that the events lie in memory.
-/
import Derived.Test.YtfjgmggpkljphaaEvArg
import Derived.Test.YtfjgmggpkljphaaEvLiveAny
import Derived.Test.YtfjgmggpkljphaaEvProgC
namespace Go.Proofs.Ytfjgmggpkljphaa
open Go.RowKit
attribute [local go_sem] Later.cell Later.frozen Later.lt Later.le
set_option linter.unusedVariables false
set_option maxRecDepth 4000

/-- A slice that holds these calls. -/
def ClsP (w : World) (p : Option Addr) (l : List Cl) : Prop := l ≠ [] → ∃ g, p = some ⟨g, 0, none⟩ ∧ g < w.heap.size ∧ ClsAt w g l
theorem ClsP.below {w w' : World} {p : Option Addr} {l : List Cl} (h : ClsP w p l) (hb : Below w.heap.size w w') : ClsP w' p l := fun hl => by
  obtain ⟨g, e, hg, hc⟩ := h hl
  exact ⟨g, e, Nat.lt_of_lt_of_le hg hb.size, hc.below hg hb⟩
theorem Cls.sliceP {T : TypeId} {w : World} {base : Nat} {v : Value} {l : List Cl} (h : Cls T w base v l) : ∃ p c, v = .slice p l.length c ∧ ClsP w p l := by
  obtain ⟨p, c, e, hs⟩ := h.shape
  exact ⟨p, c, e, fun hl => by obtain ⟨g, e, _, hg, hc⟩ := hs hl; exact ⟨g, e, hg, hc⟩⟩
theorem callsTo_le (l : List Ev) (k : Nat) : (callsTo l k).length ≤ k := by rw [callsTo_len]; exact asksTo_le l k
theorem callsOf_le (l : List Ev) : (callsOf l).length ≤ l.length := by
  unfold callsOf
  split
  · exact callsTo_le l l.length
  · simp
theorem hands_le_len (l : List Ev) : (hands l).length ≤ l.length := by
  have := rise_le (hands_rise l) (b := l.map hOf) fun x hx => by
    rw [hands_mem] at hx
    simpa using hx
  simpa using this

theorem all_p {p : Option Addr} {cap : Nat} {l : List Cl} {w : World} (hl : l.length ≤ 1000000) (h : ClsP w p l) : Calls Try.prog 39 #[.slice p l.length cap] w (ClsRet1 70 w l) := all_any hl h
theorem rSame_p {p1 p2 : Option Addr} {c1 c2 : Nat} {l : List Cl} {w : World} (hl : l.length ≤ 1000000) (h1 : ClsP w p1 l) (h2 : ClsP w p2 l) :
    Calls Try.prog 38 #[.slice p1 l.length c1, .slice p2 l.length c2] w (Ret w (.bool true)) := rSame_any hl h1 h2
theorem live_true (w : World) : Calls Try.prog 35 #[] w (Ret w (.bool true)) := live_any has8 w

set_option maxHeartbeats 4000000 in
theorem EventCalls_true {p : Option Addr} {cap : Nat} {l : List Ev} {w : World} (hE : EvsP w p l) (hm : l.length ≤ maxLen) : Calls Try.prog 9 #[.slice p l.length cap] w (Ret w (.bool true)) := by
  have hlv := fun W => live_true W
  by_cases hl : 60 < l.length
  · have h60 : (60 : Int) < l.length := by omega
    go_enter Try.func9, Try.ntmps9
    go_wp2_with (go_at_call 35; (with_reducible refine (hlv _).mono ?_); rintro _ _ ⟨rfl, x, rfl⟩)
    go_ret
    exact Ret.mk rfl x.below
  · have h60 : ¬ (60 : Int) < l.length := by omega
    have c1 := fun (W : World) (h : EvsP W p l) => Calls_p (cap := cap) h (by omega)
    have c2 := fun (W : World) (h : EvsP W p l) => rCalls_p (cap := cap) h (by omega)
    have c3 := fun (W : World) (h : EvsP W p l) => Check_p (cap := cap) h (by omega)
    have c4 := fun (W : World) (h : EvsP W p l) => rCheck_p (cap := cap) h (by omega)
    have c5 := fun (W : World) (h : EvsP W p l) => Handles_p (cap := cap) h (by omega)
    have c6 := fun (W : World) (h : EvsP W p l) => rHandles_p (cap := cap) h (by omega)
    have hcl := callsOf_le l
    have hhl := hands_le_len l
    generalize callsOf l = C at c1 c2 hcl
    generalize histE l = E at c1 c2 c3 c4
    generalize hands l = Hs at c5 c6 hhl
    have ee : (E == E) = true := by simp
    go_enter Try.func9, Try.ntmps9
    go_wp2_with (first
      | (go_at_call 36; (with_reducible refine (c1 _ hE).mono ?_); rintro _ _ ⟨v1, rfl, x1, rfl, hO1⟩)
      | (go_at_call 37; (with_reducible refine (c2 _ (hE.later x1)).mono ?_); rintro _ _ ⟨v2, rfl, x2, rfl, hO2⟩))
    have hE2 := (hE.later x1).later x2
    obtain ⟨p1, q1, rfl, hP1⟩ := (hO1.later x2).sliceP
    obtain ⟨p2, q2, rfl, hP2⟩ := hO2.sliceP
    have hb : Below w.heap.size w x2.at' := x1.below.trans (x2.below.mono x1.below.size)
    clear hO1 hO2 c1 c2
    generalize x2.at' = W at *
    go_wp2_with (first
      | (go_at_call 39; (with_reducible refine (all_p (by omega) hP1).mono ?_); rintro _ _ ⟨v3, rfl, x3, rfl, hO3⟩; obtain ⟨p3, q3, rfl, hP3⟩ := hO3.sliceP)
      | (go_at_call 38; (with_reducible refine (rSame_p (by omega) hP3 (hP2.below x3.below)).mono ?_); rintro _ _ ⟨rfl, x4, rfl⟩; have hE4 := (hE2.later x3).later x4)
      | (go_at_call 40; (with_reducible refine (c3 _ hE4).mono ?_); rintro _ _ ⟨rfl, x5, rfl⟩; have hE5 := hE4.later x5)
      | (go_at_call 41; (with_reducible refine (c4 _ hE5).mono ?_); rintro _ _ ⟨rfl, x6, rfl⟩; have hE6 := hE5.later x6)
      | (go_at_call 42; (with_reducible refine (c5 _ hE6).mono ?_); rintro _ _ ⟨v7, rfl, x7, rfl, hO7⟩; have hE7 := hE6.later x7; obtain ⟨p7, q7, rfl, hI7⟩ := hO7.slice)
      | (go_at_call 43; (with_reducible refine (c6 _ hE7).mono ?_); rintro _ _ ⟨v8, rfl, x8, rfl, hO8⟩; obtain ⟨p8, q8, rfl, hI8⟩ := hO8.slice)
      | (go_at_call 25; (with_reducible refine (iSame_any rfl (by omega) (hI7.later x8) hI8).mono ?_); rintro _ _ ⟨rfl, x9, rfl⟩)
      | (go_at_call 35; (with_reducible refine (hlv _).mono ?_); rintro _ _ ⟨rfl, x10, rfl⟩))
    go_ret
    exact Ret.mk rfl (hb.trans ((((((((x3.on x4.below).on x5.below).on x6.below).on x7.below).on x8.below).on x9.below).on x10.below).below.mono hb.size))
end Go.Proofs.Ytfjgmggpkljphaa
