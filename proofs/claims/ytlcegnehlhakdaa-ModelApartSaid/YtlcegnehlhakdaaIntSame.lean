/-
  Two rows of numbers held against each other (sidingsref01.Same).
  Conditions: that both lie in memory.
-/
import Derived.Test.YtlcegnehlhakdaaIntRow
namespace Go.Proofs.Ytlcegnehlhakdaa
open Go.RowKit
attribute [local go_sem] Later.cell Later.frozen Later.lt Later.le
set_option linter.unusedVariables false

/-- A slice that holds these numbers. -/
def IntsP (w : World) (p : Option Addr) (l : List Int) : Prop := ∀ j, j < l.length → ∃ g, p = some ⟨g, 0, none⟩ ∧ g < w.heap.size ∧ w.cell? ⟨g, j, none⟩ = some (.int .i64 (l.getD j 0))
theorem IntsP.later {w : World} {p : Option Addr} {l : List Int} (h : IntsP w p l) (x : Later w) : IntsP x.at' p l := fun j hj => by
  obtain ⟨g, e, hg, hc⟩ := h j hj
  exact ⟨g, e, x.lt g hg, (x.cell g j none hg).trans hc⟩
theorem IntsP.alloc {w : World} {p : Option Addr} {l : List Int} (h : IntsP w p l) (o : Obj) : IntsP (w.alloc o) p l := fun j hj => by
  obtain ⟨g, e, hg, hc⟩ := h j hj
  exact ⟨g, e, by simp; omega, (((Below.refl w.heap.size w).alloc (Nat.le_refl _) o).cell (p := ⟨g, j, none⟩) hg).trans hc⟩
theorem Ints.slice {w : World} {base : Nat} {v : Value} {l : List Int} (h : Ints w base v l) : ∃ p c, v = .slice p l.length c ∧ IntsP w p l := by
  obtain ⟨p, c, e, hs⟩ := h.shape
  exact ⟨p, c, e, fun j hj => by obtain ⟨g, e, _, hg, hc⟩ := hs j hj; exact ⟨g, e, hg, hc⟩⟩
theorem iSame_any {p1 p2 : Option Addr} {n c1 c2 : Nat} {l : List Int} {w : World} (hn : l.length = n) (hl : n ≤ 1000000) (h1 : IntsP w p1 l) (h2 : IntsP w p2 l) :
    Calls Try.prog 18 #[.slice p1 n c1, .slice p2 n c2] w (Ret w (.bool true)) := by
  subst hn
  go_enter Try.func18, Try.ntmps18
  go_wp2
  go_loopw [5] (fun i wr => ∃ k : Nat, k ≤ l.length ∧ i = .int .i64 k ∧ ∃ y : Later w, wr = y.at') (fun i _ => l.length - (intOf i).toNat)
  case atStart => exact ⟨0, by omega, rfl, ⟨w, Below.refl _ _⟩, rfl⟩
  case round =>
    obtain ⟨k, hk, rfl, y, rfl⟩ := hrel
    by_cases hkn : k < l.length
    · obtain ⟨g, rfl, hg, k1⟩ := h1 k hkn
      obtain ⟨g2, rfl, hg2, k2⟩ := h2 k hkn
      clear h1 h2
      generalize l.getD k 0 = v at k1 k2
      have e1 : (v != v) = false := by simp
      have i1 : (k : Int) < l.length := by omega
      have i0 : (0 : Int) ≤ k := by omega
      go_wp2_with fail
      refine wp_region_later' y (by kernel_rfl) (by kernel_rfl) ?_
      repeat (go_big_quiet_step (fail))
      refine wpQuiet_nil ?_
      rintro _ ⟨z, rfl⟩
      go_wp2
      go_roundw
      case rel => exact ⟨k + 1, by omega, by go_num, z, rfl⟩
      case measure => simp [intOf]; omega
    · have i1 : ¬ (k : Int) < l.length := by omega
      clear hk
      go_wp2
      go_ret
      exact Ret.mk rfl y.below
end Go.Proofs.Ytlcegnehlhakdaa
