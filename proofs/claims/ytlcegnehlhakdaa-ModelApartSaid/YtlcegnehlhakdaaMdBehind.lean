/-
  What the program's object is behind an op, for layer 7.
  Conditions: that an object has at most 256 bytes.
-/
import Derived.Test.YtlcegnehlhakdaaMdObj
import Derived.Lib.ConvBytes
import Derived.Laws.BytesArg
namespace Go.Proofs.Ytlcegnehlhakdaa
open Go.RowKit
attribute [local go_sem] Later.cell Later.frozen Later.lt Later.le
set_option linter.unusedVariables false
set_option linter.unusedSimpArgs false
set_option maxRecDepth 4000

theorem bytes_conv (s : ByteArray) (W : World) : (convert 9 89 (.string s)).run Try.prog W = .ok (.slice (some ⟨W.heap.size, 0, none⟩) s.size (grownCap W s.size 0 5)) (Lib.bytesWorld W 5 s) :=
  Lib.run_convert_string_bytes W 9 89 5 s Try.underlying9 Try.underlying89 Try.underlying5
theorem bytes_below (s : ByteArray) (W : World) : Below W.heap.size W (Lib.bytesWorld W 5 s) := by
  refine ⟨?_, ?_, ?_, by rw [Lib.bytesWorld_size]; omega, fun k hk => Lib.bytesWorld_at_old W _ s k hk⟩ <;> simp [Lib.bytesWorld, World.freeze, World.alloc, World.drew, -World.alloc_eq, -World.drew_eq]
theorem bytes_frozen (s : ByteArray) (W : World) (g j : Nat) (hg : g = W.heap.size) (hj : j < s.size) : (Lib.bytesWorld W 5 s).frozen? ⟨g, j, none⟩ = false := by
  subst hg
  have hb : s.size ≤ (Lib.bytesCells W 5 s).size := by
    unfold Lib.bytesCells
    rw [Array.size_append, Array.size_map]
    exact Nat.le_add_right _ _
  unfold World.frozen?
  rw [Lib.bytesWorld_at_new]
  generalize (Lib.bytesCells W 5 s).size = c at hb
  simp only [Bool.and_eq_false_iff, decide_eq_false_iff_not]
  exact .inl (by omega)
/-- The text of bytes of which one was turned. -/
theorem bytes_back (bs : List UInt8) (W : World) (g cap i : Nat) (n : Int) (hg : g = W.heap.size) (hi : i < bs.length) :
    (convert 89 9 (.slice (some ⟨g, 0, none⟩) bs.length cap)).run Try.prog ((Lib.bytesWorld W 5 (bsV bs)).setCell ⟨g, i, none⟩ (.int .u8 (n % 256))) =
      .ok (.string (bsV (bs.set i (u8 n)))) ((Lib.bytesWorld W 5 (bsV bs)).setCell ⟨g, i, none⟩ (.int .u8 (n % 256))) := by
  subst hg
  have hc : ∀ j, j < bs.length → ((Lib.bytesWorld W 5 (bsV bs)).setCell ⟨W.heap.size, i, none⟩ (.int .u8 (n % 256))).cell? ⟨W.heap.size, 0 + j, none⟩ = some (.int .u8 (((bs.map fun b => (b.toNat : Int)).set i (n % 256)).getD j 0)) := fun j hj => by
    rw [Nat.zero_add]
    by_cases e : j = i
    · subst e
      rw [World.cell?_setCell_same _ _ _ (Lib.bytesWorld_cell W _ _ j (by rw [bsV_size]; exact hj))]
      simp [hj]
    · rw [World.cell?_setCell_other _ _ _ _ (fun k => e (congrArg Addr.off k).symm), Lib.bytesWorld_cell W _ _ j (by rw [bsV_size]; exact hj)]
      simp [bsV, hj, List.getElem?_set, Ne.symm e]
  have := run_convert_bytes_arg ((Lib.bytesWorld W 5 (bsV bs)).setCell ⟨W.heap.size, i, none⟩ (.int .u8 (n % 256))) 89 5 Try.underlying89 Try.underlying5 W.heap.size 0 bs.length cap ((bs.map fun b => (b.toNat : Int)).set i (n % 256)) (by simp) hc 9 Try.underlying9
  rw [this]
  congr 2
  unfold strOfNums bsV
  congr 2
  rw [List.map_set, List.map_map]
  have e1 : (fun n : Int => UInt8.ofNat n.toNat) ∘ (fun b : UInt8 => (b.toNat : Int)) = id := by
    funext b
    simp
  rw [e1, List.map_id]
  rfl

set_option maxHeartbeats 2000000 in
theorem behind_w (bs : List UInt8) (p : Int) (hb : bs.length ≤ 256) (h off n : Int) (hr : 0 ≤ off ∧ off < bs.length) (w : World) :
    Calls Try.prog 47 #[.agg #[.string (bsV bs), .int .i64 p], .agg #[.int .i64 3, .int .i64 h, .int .i64 off, .int .i64 n]] w (Ret w (.agg #[.string (bsV (bs.set off.toNat (u8 n))), .int .i64 p])) := by
  have hs := bsV_size bs
  have hr0 := hr.1
  have hr1 := hr.2
  have hft : off.toNat < bs.length := by omega
  have hback := fun (W : World) (g cap : Nat) (hg : g = W.heap.size) => bytes_back bs W g cap off.toNat n hg hft
  have cv := bytes_conv (bsV bs) (((w.alloc (.cells #[.string (bsV bs), .int .i64 p] 62)).alloc (.cells #[.int .i64 3, .int .i64 h, .int .i64 off, .int .i64 n] 39)).alloc (.cells #[.string { data := #[] }, .int .i64 0] 62))
  rw [hs] at cv
  have CV := Lib.hid cv
  have HB := Lib.hid hback
  clear cv hback
  go_enter Try.func47, Try.ntmps47
  go_wp2
  rw [CV.out]
  simp only [Result.andThen]
  rw [Oper.upon_value]
  generalize hB : (((w.alloc (.cells #[.string (bsV bs), .int .i64 p] 62)).alloc (.cells #[.int .i64 3, .int .i64 h, .int .i64 off, .int .i64 n] 39)).alloc (.cells #[.string { data := #[] }, .int .i64 0] 62)) = B
  have hBs : B.heap.size = w.heap.size + 3 := by rw [← hB]; simp
  have hb1 := bytes_below (bsV bs) B
  have hbw : Below w.heap.size w (Lib.bytesWorld B 5 (bsV bs)) := by
    refine Below.trans ?_ (hb1.mono (by omega))
    rw [← hB]
    exact (((Below.refl _ w).alloc (Nat.le_refl _) _).alloc (by simp) _).alloc (by simp; omega) _
  have hc : ∀ b o v, b < w.heap.size + 3 → B.cell? ⟨b, o, none⟩ = some v → (Lib.bytesWorld B 5 (bsV bs)).cell? ⟨b, o, none⟩ = some v := fun b o v hb hv => (hb1.cell (p := ⟨b, o, none⟩) (by show b < _; omega)).trans hv
  have hf : ∀ b o, b < w.heap.size + 3 → B.frozen? ⟨b, o, none⟩ = false → (Lib.bytesWorld B 5 (bsV bs)).frozen? ⟨b, o, none⟩ = false := fun b o hb hv => (hb1.frozen (p := ⟨b, o, none⟩) (by show b < _; omega)).trans hv
  have x0 := hc w.heap.size 0 (.string (bsV bs)) (by omega) (by rw [← hB]; simp [go_sem])
  have x1 := hc w.heap.size 1 (.int .i64 p) (by omega) (by rw [← hB]; simp [go_sem])
  have o0 := hc (w.heap.size + 1) 0 (.int .i64 3) (by omega) (by rw [← hB]; simp [go_sem])
  have o2 := hc (w.heap.size + 1) 2 (.int .i64 off) (by omega) (by rw [← hB]; simp [go_sem])
  have o3 := hc (w.heap.size + 1) 3 (.int .i64 n) (by omega) (by rw [← hB]; simp [go_sem])
  have r0 := hc (w.heap.size + 1 + 1) 0 (.string { data := #[] }) (by omega) (by rw [← hB]; simp [go_sem])
  have r1 := hc (w.heap.size + 1 + 1) 1 (.int .i64 0) (by omega) (by rw [← hB]; simp [go_sem])
  have fx0 := hf w.heap.size 0 (by omega) (by rw [← hB]; simp [go_sem])
  have fr0 := hf (w.heap.size + 1 + 1) 0 (by omega) (by rw [← hB]; simp [go_sem])
  have fr1 := hf (w.heap.size + 1 + 1) 1 (by omega) (by rw [← hB]; simp [go_sem])
  have n0 : (Lib.bytesWorld B 5 (bsV bs)).cell? ⟨w.heap.size + 1 + 1 + 1, off.toNat, none⟩ = some (.int .u8 ((bsV bs).data.toList.getD off.toNat 0).toNat) := by
    have := Lib.bytesWorld_cell B 5 (bsV bs) off.toNat (by rw [hs]; exact hft)
    rwa [hBs] at this
  have fn0 := bytes_frozen (bsV bs) B (w.heap.size + 1 + 1 + 1) off.toNat (by omega) (by rw [hs]; exact hft)
  have hbk := fun cap => HB.out B (w.heap.size + 1 + 1 + 1) cap (by omega)
  have hsz : w.heap.size + 4 ≤ (Lib.bytesWorld B 5 (bsV bs)).heap.size := by rw [Lib.bytesWorld_size]; omega
  clear hc hf hb1 CV HB hB
  generalize grownCap B _ 0 5 = cap
  generalize Lib.bytesWorld B 5 (bsV bs) = W1 at *
  rw [hBs]
  clear hBs
  go_wp2
  refine bodyPost_ret (v := .agg #[.string (bsV (bs.set off.toNat (u8 n))), .int .i64 p]) (by simp [results, Try.results47, go_sem, r0, r1, x0, x1]) rfl (Ret.mk rfl ?_)
  exact Below.setCell (Below.setCell (Below.setCell (Below.setCell hbw (by simp; omega) _) (by simp) _) (by simp; omega) _) (by simp; omega) _
theorem behind_p (bs : List UInt8) (p : Int) (d h off n : Int) (hp : 0 ≤ p ∧ p ≤ 7) (w : World) :
    Calls Try.prog 47 #[.agg #[.string (bsV bs), .int .i64 p], .agg #[.int .i64 4, .int .i64 h, .int .i64 off, .int .i64 n]] w (Ret w (.agg #[.string (bsV bs), .int .i64 (p + 1)])) := by
  have hp0 := hp.1
  have hp1 := hp.2
  go_enter Try.func47, Try.ntmps47
  go_wp2
  refine bodyPost_ret (v := .agg #[.string (bsV bs), .int .i64 (p + 1)]) (by simp [results, Try.results47, go_sem]) rfl (Ret.mk rfl ?_)
  exact (((Below.refl _ w).alloc (Nat.le_refl _) _).alloc (by simp) _).alloc (by simp; omega) _
theorem behind_u (bs : List UInt8) (p : Int) (d h off n : Int) (hp : 0 ≤ p ∧ p ≤ 7) (w : World) :
    Calls Try.prog 47 #[.agg #[.string (bsV bs), .int .i64 p], .agg #[.int .i64 5, .int .i64 h, .int .i64 off, .int .i64 n]] w (Ret w (.agg #[.string (bsV bs), .int .i64 (p - 1)])) := by
  have hp0 := hp.1
  have hp1 := hp.2
  go_enter Try.func47, Try.ntmps47
  go_wp2
  refine bodyPost_ret (v := .agg #[.string (bsV bs), .int .i64 (p - 1)]) (by simp [results, Try.results47, go_sem]) rfl (Ret.mk rfl ?_)
  exact (((Below.refl _ w).alloc (Nat.le_refl _) _).alloc (by simp) _).alloc (by simp; omega) _
theorem behind_o (bs : List UInt8) (p : Int) (d h off n : Int) (h3 : ¬ d = 3) (h4 : ¬ d = 4) (h5 : ¬ d = 5) (w : World) :
    Calls Try.prog 47 #[.agg #[.string (bsV bs), .int .i64 p], .agg #[.int .i64 d, .int .i64 h, .int .i64 off, .int .i64 n]] w (Ret w (.agg #[.string (bsV bs), .int .i64 p])) := by
  have e3 : (d == 3) = false := by simpa using h3
  have e4 : (d == 4) = false := by simpa using h4
  have e5 : (d == 5) = false := by simpa using h5
  go_enter Try.func47, Try.ntmps47
  go_wp2
  refine bodyPost_ret (v := .agg #[.string (bsV bs), .int .i64 p]) (by simp [results, Try.results47, go_sem]) rfl (Ret.mk rfl ?_)
  exact (((Below.refl _ w).alloc (Nat.le_refl _) _).alloc (by simp) _).alloc (by simp; omega) _
/-- An object behind an op that it may be asked. -/
theorem behind_any (x : Ob) (hb : x.bs.length ≤ 256) (hp : 0 ≤ x.pins ∧ x.pins ≤ 7) (d h off n : Int) (hr : d = 3 → 0 ≤ off ∧ off < x.bs.length) (w : World) :
    Calls Try.prog 47 #[obV x, opV d h off n] w (Ret w (obV (obB x d off n))) := by
  obtain ⟨xh, bs, p⟩ := x
  by_cases h3 : d = 3
  · subst h3
    have e : obB ⟨xh, bs, p⟩ 3 off n = ⟨xh, bs.set off.toNat (u8 n), p⟩ := by simp [obB]
    rw [e]
    exact behind_w bs p hb h off n (hr rfl) w
  · by_cases h4 : d = 4
    · subst h4
      have e : obB ⟨xh, bs, p⟩ 4 off n = ⟨xh, bs, p + 1⟩ := by simp [obB]
      rw [e]
      exact behind_p bs p 4 h off n hp w
    · by_cases h5 : d = 5
      · subst h5
        have e : obB ⟨xh, bs, p⟩ 5 off n = ⟨xh, bs, p - 1⟩ := by simp [obB]
        rw [e]
        exact behind_u bs p 5 h off n hp w
      · have e : obB ⟨xh, bs, p⟩ d off n = ⟨xh, bs, p⟩ := by simp [obB, h3, h4, h5]
        rw [e]
        exact behind_o bs p d h off n h3 h4 h5 w
end Go.Proofs.Ytlcegnehlhakdaa
