/-
  The walk of PinAlone.
  Conditions: none but that the tables read as they are laid.
-/
import Derived.Test.YtnojemmpgaibkaaDoorPaWayA
import Derived.Test.YtnojemmpgaibkaaDoorPaWayB
import Derived.Test.YtnojemmpgaibkaaDoorPlainCopy
import Derived.Test.YtnojemmpgaibkaaDoorRefUnpack
import Derived.Deep.CutRange
namespace Go.Proofs.YtnojemmpgaibkaaDoor
open Go.RowKit
attribute [local go_sem] Later.cell Later.frozen Later.lt Later.le
set_option linter.unusedVariables false
set_option linter.unusedSimpArgs false

set_option maxHeartbeats 4000000 in
set_option maxRecDepth 8000 in
theorem palone_bad {o g p q h : Int} {lk : Bool} {lv un : Bool} {w : World} (hm : En.may ⟨o, g, p, q, lk, lv⟩ = false) (hH : HasHead w) (hE : HasFields w) :
    Calls Tryd.prog 8 #[.agg #[.int .i64 o, .int .i64 g, .int .i64 p, .int .i64 q, .bool lk, .bool lv], .int .i64 h, .bool un] w (Ret w (.bool true)) := by
  have hB0 : Below w.heap.size w ((w.alloc (.cells #[.int .i64 o, .int .i64 g, .int .i64 p, .int .i64 q, .bool lk, .bool lv] 34)).alloc (.cells #[.int .i64 8, .int .i64 2, .int .i64 1] 26)) := ((Below.refl _ _).alloc (Nat.le_refl _) _).alloc (by simp) _
  have he0 : Fs ((w.alloc (.cells #[.int .i64 o, .int .i64 g, .int .i64 p, .int .i64 q, .bool lk, .bool lv] 34)).alloc (.cells #[.int .i64 8, .int .i64 2, .int .i64 1] 26)) w.heap.size [.int .i64 o, .int .i64 g, .int .i64 p, .int .i64 q, .bool lk, .bool lv] := (Fs.new' _ _ rfl rfl).alloc _
  have hc0 : Fs ((w.alloc (.cells #[.int .i64 o, .int .i64 g, .int .i64 p, .int .i64 q, .bool lk, .bool lv] 34)).alloc (.cells #[.int .i64 8, .int .i64 2, .int .i64 1] 26)) (w.heap.size + 1) [.int .i64 8, .int .i64 2, .int .i64 1] := Fs.new' _ _ (by simp) rfl
  have hE0 : HasFields ((w.alloc (.cells #[.int .i64 o, .int .i64 g, .int .i64 p, .int .i64 q, .bool lk, .bool lv] 34)).alloc (.cells #[.int .i64 8, .int .i64 2, .int .i64 1] 26)) := (hE.alloc _).alloc _
  have hH0 : HasHead ((w.alloc (.cells #[.int .i64 o, .int .i64 g, .int .i64 p, .int .i64 q, .bool lk, .bool lv] 34)).alloc (.cells #[.int .i64 8, .int .i64 2, .int .i64 1] 26)) := (hH.alloc _).alloc _
  have hpk := fun W => refPack_any o g p q lk lv W
  rw [packE_bad hm, packV_bad hm] at hpk
  have hst := fun (W : World) hF => start14_yes 8 2 1 (by decide) W hF
  have hlv := fun W => plive_any W
  go_enter Tryd.func8, Tryd.ntmps8
  go_upto_region 2 with fail
  generalize (w.alloc (.cells #[.int .i64 o, .int .i64 g, .int .i64 p, .int .i64 q, .bool lk, .bool lv] 34)).alloc (.cells #[.int .i64 8, .int .i64 2, .int .i64 1] 26) = Wa at *
  generalize w.heap.size + 1 = cb at hc0 ⊢
  have a0 := hc0.at' 0 rfl
  have a1 := hc0.at' 1 rfl
  have a2 := hc0.at' 2 rfl
  have e0 := he0.at' 0 rfl
  have e1 := he0.at' 1 rfl
  have e2 := he0.at' 2 rfl
  have e3 := he0.at' 3 rfl
  have e4 := he0.at' 4 rfl
  have e5 := he0.at' 5 rfl
  go_wp2_with (first
    | (go_at_call 15; (with_reducible refine (hpk _).mono ?_); rintro _ _ ⟨rfl, x1, rfl⟩; have hc1 := hc0.later x1; have he1 := he0.later x1; have hE1 := hE0.below x1.below hE0.lt; have hH1 := hH0.below x1.below; have hB1' := hB0.trans (x1.below.mono hB0.size); clear a0 a1 a2 e0 e1 e2 e3 e4 e5; have a0 := hc1.at' 0 rfl; have a1 := hc1.at' 1 rfl; have a2 := hc1.at' 2 rfl)
    | (go_at_call 26; (with_reducible refine (hst _ hH1).mono ?_); rintro _ V1 ⟨A, rfl, hlo, hB1, ws, nn, hM1, hlen, hat⟩; have hws := words_of 1 2 pa0 (by decide) (by decide +kernel) ws hlen hat; subst hws; have hv1 := Rv.begin (t := 1) (s := 2) hE1 hlo hB1 hM1 (by decide); clear a0 a1 a2; have hee := he1.below hv1.bel he1.lt; have e4 := hee.at' 4 rfl)
    | (go_at_call 25; (with_reducible refine (hlv _ (hH1.below hv1.bel) (hE1.below hv1.bel hE1.lt)).mono ?_); rintro _ _ ⟨rfl, x5, rfl⟩))
  go_ret
  exact Ret.mk rfl (hB1'.trans ((x5.cat hv1.bel hv1.bel.size).mono hB1'.size))
set_option maxHeartbeats 4000000 in
set_option maxRecDepth 8000 in
theorem palone_lock {o g p q h : Int} {lv un : Bool} {w : World} (hm : En.may ⟨o, g, p, q, true, lv⟩ = true) (hH : HasHead w) (hE : HasFields w) :
    Calls Tryd.prog 8 #[.agg #[.int .i64 o, .int .i64 g, .int .i64 p, .int .i64 q, .bool true, .bool lv], .int .i64 h, .bool un] w (Ret w (.bool true)) := by
  have hB0 : Below w.heap.size w ((w.alloc (.cells #[.int .i64 o, .int .i64 g, .int .i64 p, .int .i64 q, .bool true, .bool lv] 34)).alloc (.cells #[.int .i64 8, .int .i64 2, .int .i64 1] 26)) := ((Below.refl _ _).alloc (Nat.le_refl _) _).alloc (by simp) _
  have he0 : Fs ((w.alloc (.cells #[.int .i64 o, .int .i64 g, .int .i64 p, .int .i64 q, .bool true, .bool lv] 34)).alloc (.cells #[.int .i64 8, .int .i64 2, .int .i64 1] 26)) w.heap.size [.int .i64 o, .int .i64 g, .int .i64 p, .int .i64 q, .bool true, .bool lv] := (Fs.new' _ _ rfl rfl).alloc _
  have hc0 : Fs ((w.alloc (.cells #[.int .i64 o, .int .i64 g, .int .i64 p, .int .i64 q, .bool true, .bool lv] 34)).alloc (.cells #[.int .i64 8, .int .i64 2, .int .i64 1] 26)) (w.heap.size + 1) [.int .i64 8, .int .i64 2, .int .i64 1] := Fs.new' _ _ (by simp) rfl
  have hE0 : HasFields ((w.alloc (.cells #[.int .i64 o, .int .i64 g, .int .i64 p, .int .i64 q, .bool true, .bool lv] 34)).alloc (.cells #[.int .i64 8, .int .i64 2, .int .i64 1] 26)) := (hE.alloc _).alloc _
  have hH0 : HasHead ((w.alloc (.cells #[.int .i64 o, .int .i64 g, .int .i64 p, .int .i64 q, .bool true, .bool lv] 34)).alloc (.cells #[.int .i64 8, .int .i64 2, .int .i64 1] 26)) := (hH.alloc _).alloc _
  have hpk := fun W => refPack_any o g p q true lv W
  rw [packE_ok hm, packV_ok hm] at hpk
  have hst := fun (W : World) hF => start14_yes 8 2 1 (by decide) W hF
  have hlv := fun W => plive_any W
  go_enter Tryd.func8, Tryd.ntmps8
  go_upto_region 2 with fail
  generalize (w.alloc (.cells #[.int .i64 o, .int .i64 g, .int .i64 p, .int .i64 q, .bool true, .bool lv] 34)).alloc (.cells #[.int .i64 8, .int .i64 2, .int .i64 1] 26) = Wa at *
  generalize w.heap.size + 1 = cb at hc0 ⊢
  have a0 := hc0.at' 0 rfl
  have a1 := hc0.at' 1 rfl
  have a2 := hc0.at' 2 rfl
  have e0 := he0.at' 0 rfl
  have e1 := he0.at' 1 rfl
  have e2 := he0.at' 2 rfl
  have e3 := he0.at' 3 rfl
  have e4 := he0.at' 4 rfl
  have e5 := he0.at' 5 rfl
  go_wp2_with (first
    | (go_at_call 15; (with_reducible refine (hpk _).mono ?_); rintro _ _ ⟨rfl, x1, rfl⟩; have hc1 := hc0.later x1; have he1 := he0.later x1; have hE1 := hE0.below x1.below hE0.lt; have hH1 := hH0.below x1.below; have hB1' := hB0.trans (x1.below.mono hB0.size); clear a0 a1 a2 e0 e1 e2 e3 e4 e5; have a0 := hc1.at' 0 rfl; have a1 := hc1.at' 1 rfl; have a2 := hc1.at' 2 rfl)
    | (go_at_call 26; (with_reducible refine (hst _ hH1).mono ?_); rintro _ V1 ⟨A, rfl, hlo, hB1, ws, nn, hM1, hlen, hat⟩; have hws := words_of 1 2 pa0 (by decide) (by decide +kernel) ws hlen hat; subst hws; have hv1 := Rv.begin (t := 1) (s := 2) hE1 hlo hB1 hM1 (by decide); clear a0 a1 a2; have hee := he1.below hv1.bel he1.lt; have e4 := hee.at' 4 rfl)
    | (go_at_call 25; (with_reducible refine (hlv _ (hH1.below hv1.bel) (hE1.below hv1.bel hE1.lt)).mono ?_); rintro _ _ ⟨rfl, x5, rfl⟩))
  go_ret
  exact Ret.mk rfl (hB1'.trans ((x5.cat hv1.bel hv1.bel.size).mono hB1'.size))
theorem PinAlone_walk {o g p q h : Int} {lk : Bool} {lv un : Bool} {w : World} (hH : HasHead w) (hE : HasFields w) :
    Calls Tryd.prog 8 #[.agg #[.int .i64 o, .int .i64 g, .int .i64 p, .int .i64 q, .bool lk, .bool lv], .int .i64 h, .bool un] w (Ret w (.bool true)) := by
  cases hm : En.may ⟨o, g, p, q, lk, lv⟩
  · exact palone_bad hm hH hE
  · cases lk
    · obtain ⟨m1, m2, m3, m4, m5, m6, m7, m8, _⟩ := may_of hm
      simp only at m1 m2 m3 m4 m5 m6 m7 m8
      cases lv
      · cases un
        · exact palone_w1 hm (pa_stale hm (fun k => by cases k.1)) hH hE
        · exact palone_w2 hm (pa_stale hm (fun k => by cases k.1)) hH hE
      · by_cases hh : h = mkV 1 g
        · subst hh
          have hv : EV o g p q := ⟨m3, m4, m1, m2, m5, m6, m7, m8⟩
          cases un
          · by_cases h7 : p = 7
            · subst h7
              exact palone_w6 hm (pa_err hv (pa_over hv) (by decide)) hH hE
            · have hw : EV o g (p + 1) q := ⟨m3, m4, m1, m2, by omega, by omega, m7, m8⟩
              exact palone_w8 hm (pa_ok hv hw (hv.pin (by omega))) h7 m5 m6 hH hE
          · by_cases h0 : p = 0
            · subst h0
              exact palone_w5 hm (pa_err hv (pa_none hv) (by decide)) hH hE
            · have hw : EV o g (p + -1) q := ⟨m3, m4, m1, m2, by omega, by omega, m7, m8⟩
              have hT := hv.unpin (by omega)
              rw [show p - 1 = p + -1 from by omega] at hT
              exact palone_w7 hm (pa_ok hv hw hT) h0 m5 m6 hH hE
        · cases un
          · exact palone_w3 hm (pa_stale hm (fun k => hh k.2)) hh hH hE
          · exact palone_w4 hm (pa_stale hm (fun k => hh k.2)) hh hH hE
    · exact palone_lock hm hH hE
end Go.Proofs.YtnojemmpgaibkaaDoor
