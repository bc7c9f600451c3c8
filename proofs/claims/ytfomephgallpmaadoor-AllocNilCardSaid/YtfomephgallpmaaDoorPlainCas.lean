/-
  What a Cas of plain cells does.
  Conditions: none but that such cells lie there.
-/
import Derived.Test.YtfomephgallpmaaDoorPlain
namespace Go.Proofs.YtfomephgallpmaaDoor
open Go.RowKit
attribute [local go_sem] Later.cell Later.frozen Later.lt Later.le Turned.cell_lo Turned.cell_hi Turned.frozen_lo Turned.frozen_hi Turned.lt Turned.le
set_option linter.unusedVariables false

/-- Whether a Cas is done; the words behind it. -/
def casB (l : List Int) (i o : Int) : Bool := inI l i && decide (atI l i = o)
def casW (l : List Int) (i o v : Int) : List Int := if casB l i o then setI l i v else l
theorem casW_yes {l : List Int} {i o v : Int} (h : casB l i o = true) : casW l i o v = setI l i v := if_pos h
theorem casW_no {l : List Int} {i o v : Int} (h : casB l i o = false) : casW l i o v = l := if_neg (by rw [h]; decide)

section
variable {A : PAt} {ws bs : List Int} {n : Int} {w : World}
theorem Cas_any (i o v : Int) (hM : Mem w A ws bs n) : Calls Tryd.prog 116 #[.pointer (some ⟨A.p, 0, none⟩), .int .i64 i, .int .i64 o, .int .i64 v] w (PRet A w (.bool (casB ws i o)) (casW ws i o v) bs (up n)) := by
  have hc := stepWord_any i hM
  have h1 := hM.setN (up n)
  have ht := hM.tN (.int .i64 (up n))
  cases k : inI ws i
  · have e : casB ws i o = false := by unfold casB; rw [k]; rfl
    rw [k] at hc
    rw [casW_no e, e]
    clear e
    go_enter Tryd.func116, Tryd.ntmps116
    go_wp2_with (go_at_call 27; refine hc.mono ?_; rintro _ _ ⟨rfl, rfl⟩)
    go_ret
    exact PRet.mk rfl ht h1
  · rw [k] at hc
    obtain ⟨k0, k1⟩ := inI_iff.1 k
    have ea : atI ws i = ws.getD i.toNat 0 := atI_in k
    obtain ⟨j, rfl⟩ := Int.eq_ofNat_of_zero_le k0
    rw [Int.toNat_natCast] at ea
    have hj : j < ws.length := by omega
    have hx := h1.wordAt j hj
    have hf := h1.hw.frozen j
    have c0 := h1.c0
    have h2 := h1.setW j hj v
    have ht2 := ht.trans (h1.tW j (.int .i64 v))
    by_cases hd : ws.getD j 0 = o
    · have e : casB ws j o = true := by unfold casB; rw [k, ea]; simpa using hd
      rw [casW_yes e, e, setI_in k, Int.toNat_natCast]
      rw [hd] at hx
      generalize hW : w.setCell ⟨A.p, 2, none⟩ (.int .i64 (up n)) = W at *
      clear hW k hM e ea hd
      go_enter Tryd.func116, Tryd.ntmps116
      go_wp2_with (go_at_call 27; refine hc.mono ?_; rintro _ _ ⟨rfl, rfl⟩)
      go_ret
      exact PRet.mk rfl ht2 h2
    · have e : casB ws j o = false := by unfold casB; rw [k, ea]; simpa using hd
      rw [casW_no e, e]
      generalize hW : w.setCell ⟨A.p, 2, none⟩ (.int .i64 (up n)) = W at *
      generalize ws.getD j 0 = x at hx hd
      clear hW k hM e ea
      go_enter Tryd.func116, Tryd.ntmps116
      go_wp2_with (go_at_call 27; refine hc.mono ?_; rintro _ _ ⟨rfl, rfl⟩)
      go_ret
      exact PRet.mk rfl ht h1
end
end Go.Proofs.YtfomephgallpmaaDoor
