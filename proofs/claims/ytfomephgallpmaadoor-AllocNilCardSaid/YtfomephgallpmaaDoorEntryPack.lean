/-
  What Pack and Unpack answer, at every input, where the table of fields reads as its text lays it.
  Conditions: that the package's table of fields reads as it is laid.
-/
import Derived.Test.YtfomephgallpmaaDoorEntryWalks
import Derived.LoopN
namespace Go.Proofs.YtfomephgallpmaaDoor
open Go.RowKit
attribute [local go_sem] Later.cell Later.frozen Later.lt Later.le
attribute [local go_sem ↓] Go.wp_at_zero Go.wp_at_succ

theorem pack_bad (o g p q : Int) (lk lv : Bool) (w : World) (h : En.may ⟨o, g, p, q, lk, lv⟩ = false) : Calls Tryd.prog 63 #[.agg #[.int .i64 o, .int .i64 g, .int .i64 p, .int .i64 q, .bool lk, .bool lv]] w (Ret w (.tuple #[.int .i64 0, .int .i64 1])) := by
  go_enter Tryd.func63, Tryd.ntmps63
  go_wp2_with (go_at_call 77; refine (maybe_any o g p q lk lv _).mono ?_; rintro _ _ ⟨rfl, x1, rfl⟩)
  go_ret2
  exact Ret.mk rfl x1.boxed

theorem pack_ok (o g p q : Int) (lk lv : Bool) (w : World) (hF : HasFields w) (h : En.may ⟨o, g, p, q, lk, lv⟩ = true) : Calls Tryd.prog 63 #[.agg #[.int .i64 o, .int .i64 g, .int .i64 p, .int .i64 q, .bool lk, .bool lv]] w (Ret w (.tuple #[.int .i64 (En.word ⟨o, g, p, q, lk, lv⟩), .int .i64 0])) := by
  obtain ⟨h1, h2, h3, h4, h5, h6, h7, h8, _⟩ := may_of h
  have hl := bitI_bd lk
  have hv := bitI_bd lv
  have hP := Lib.hid (puts6 h3 h4 h1 h2 h5 h6 h7 h8 hl hv)
  obtain ⟨hz, c0, c1, c2, c3, c4, c5, c6, c7, c8, c9, c10, c11⟩ := hF
  have i0 : ∀ w, (Instr.index 98 (.agg #[.int .i64 o, .int .i64 g, .int .i64 p, .int .i64 q, .int .i64 (bitI lk), .int .i64 (bitI lv)]) (.int .i64 0)).run Tryd.prog w = .ok (.int .i64 (o)) w := fun _ => by kernel_rfl
  have i1 : ∀ w, (Instr.index 98 (.agg #[.int .i64 o, .int .i64 g, .int .i64 p, .int .i64 q, .int .i64 (bitI lk), .int .i64 (bitI lv)]) (.int .i64 1)).run Tryd.prog w = .ok (.int .i64 (g)) w := fun _ => by kernel_rfl
  have i2 : ∀ w, (Instr.index 98 (.agg #[.int .i64 o, .int .i64 g, .int .i64 p, .int .i64 q, .int .i64 (bitI lk), .int .i64 (bitI lv)]) (.int .i64 2)).run Tryd.prog w = .ok (.int .i64 (p)) w := fun _ => by kernel_rfl
  have i3 : ∀ w, (Instr.index 98 (.agg #[.int .i64 o, .int .i64 g, .int .i64 p, .int .i64 q, .int .i64 (bitI lk), .int .i64 (bitI lv)]) (.int .i64 3)).run Tryd.prog w = .ok (.int .i64 (q)) w := fun _ => by kernel_rfl
  have i4 : ∀ w, (Instr.index 98 (.agg #[.int .i64 o, .int .i64 g, .int .i64 p, .int .i64 q, .int .i64 (bitI lk), .int .i64 (bitI lv)]) (.int .i64 4)).run Tryd.prog w = .ok (.int .i64 (bitI lk)) w := fun _ => by kernel_rfl
  have i5 : ∀ w, (Instr.index 98 (.agg #[.int .i64 o, .int .i64 g, .int .i64 p, .int .i64 q, .int .i64 (bitI lk), .int .i64 (bitI lv)]) (.int .i64 5)).run Tryd.prog w = .ok (.int .i64 (bitI lv)) w := fun _ => by kernel_rfl
  go_enter Tryd.func63, Tryd.ntmps63
  go_wp2_with (first
    | (go_at_call 77; refine (maybe_any o g p q lk lv _).mono ?_; rintro _ _ ⟨rfl, x1, rfl⟩)
    | (go_at_call 78; refine (later_of _ (numbers_any o g p q lk lv _)).mono ?_; rintro _ _ ⟨rfl, x2, rfl⟩))
  have d1 := fun W => Put_at 0 20 0 o hP.out.1 (puts6E h3 h4 h1 h2 h5 h6 h7 h8 hl hv).1 W
  have d2 := fun W => Put_at 20 20 o g hP.out.2.1 (puts6E h3 h4 h1 h2 h5 h6 h7 h8 hl hv).2.1 W
  have d3 := fun W => Put_at 40 4 (o + g * 1048576) p hP.out.2.2.1 (puts6E h3 h4 h1 h2 h5 h6 h7 h8 hl hv).2.2.1 W
  have d4 := fun W => Put_at 44 4 (o + g * 1048576 + p * 1099511627776) q hP.out.2.2.2.1 (puts6E h3 h4 h1 h2 h5 h6 h7 h8 hl hv).2.2.2.1 W
  have d5 := fun W => Put_at 48 1 (o + g * 1048576 + p * 1099511627776 + q * 17592186044416) (bitI lk) hP.out.2.2.2.2.1 (puts6E h3 h4 h1 h2 h5 h6 h7 h8 hl hv).2.2.2.2.1 W
  have d6 := fun W => Put_at 49 1 (o + g * 1048576 + p * 1099511627776 + q * 17592186044416 + bitI lk * 281474976710656) (bitI lv) hP.out.2.2.2.2.2 (puts6E h3 h4 h1 h2 h5 h6 h7 h8 hl hv).2.2.2.2.2 W
  refine wp_loop_rounds 7 ?_
  rw [rounds_succ]
  go_wp2_with (go_at_call 79; (with_reducible refine (later_of _ (d1 _)).mono ?_); rintro _ _ ⟨rfl, x3, rfl⟩)
  rw [rounds_succ]
  go_wp2_with (go_at_call 79; (with_reducible refine (later_of _ (d2 _)).mono ?_); rintro _ _ ⟨rfl, x4, rfl⟩)
  rw [rounds_succ]
  go_wp2_with (go_at_call 79; (with_reducible refine (later_of _ (d3 _)).mono ?_); rintro _ _ ⟨rfl, x5, rfl⟩)
  rw [rounds_succ]
  go_wp2_with (go_at_call 79; (with_reducible refine (later_of _ (d4 _)).mono ?_); rintro _ _ ⟨rfl, x6, rfl⟩)
  rw [rounds_succ]
  go_wp2_with (go_at_call 79; (with_reducible refine (later_of _ (d5 _)).mono ?_); rintro _ _ ⟨rfl, x7, rfl⟩)
  rw [rounds_succ]
  go_wp2_with (go_at_call 79; (with_reducible refine (later_of _ (d6 _)).mono ?_); rintro _ _ ⟨rfl, x8, rfl⟩)
  rw [rounds_succ]
  go_wp2
  go_ret2
  exact Ret.mk rfl x8.boxed

theorem Pack_any (o g p q : Int) (lk lv : Bool) (w : World) (hF : HasFields w) : Calls Tryd.prog 63 #[.agg #[.int .i64 o, .int .i64 g, .int .i64 p, .int .i64 q, .bool lk, .bool lv]] w
    (Ret w (.tuple #[.int .i64 (packV ⟨o, g, p, q, lk, lv⟩), .int .i64 (packE ⟨o, g, p, q, lk, lv⟩)])) := by
  cases h : En.may ⟨o, g, p, q, lk, lv⟩
  · rw [packV_bad h, packE_bad h]
    exact pack_bad o g p q lk lv w h
  · rw [packV_ok h, packE_ok h]
    exact pack_ok o g p q lk lv w hF h
end Go.Proofs.YtfomephgallpmaaDoor
