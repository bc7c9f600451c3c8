/-
  The document's own Try of layer 7: an Alloc that is told.
  Conditions: that the map stands in memory and is a good one; at most 1000 objects.
-/
import Derived.Test.YtlcegnehlhakdaaRefPut
import Derived.Test.YtlcegnehlhakdaaRefLaid
import Derived.Test.YtlcegnehlhakdaaRefTryNo
import Derived.Test.YtlcegnehlhakdaaHeldLast
import Derived.Deep.OwnRows
namespace Go.Proofs.Ytlcegnehlhakdaa
open Go.RowKit Go.Maps Go
attribute [local go_sem] Later.cell Later.frozen Later.lt Later.le
set_option linter.unusedVariables false
set_option linter.unusedSimpArgs false
set_option maxRecDepth 4000

/-- What is read while an object is laid in. -/
def LaidS (U : World) (k a b : Nat) (v0 : Value) (r n : Int) (V : World) : Prop :=
  V.cell? ⟨k, 0, none⟩ = some v0 ∧ V.cell? ⟨b, 1, none⟩ = some (.int .i64 r) ∧ V.cell? ⟨a, 3, none⟩ = some (.int .i64 n) ∧ Snc U V
theorem ths_len {w : World} {base : Nat} {v : Value} {l : List Th} (h : Ths w base v l) : ∃ p cap, v = .slice p l.length cap := by
  rcases h.2 with ⟨rfl, h0⟩ | ⟨g, cap, cur, rfl, _⟩
  · exact ⟨_, 0, by rw [h0]⟩
  · exact ⟨_, _, rfl⟩
theorem zeros_row {W : World} {g N : Nat} (hg : W.heap[g]? = some (.cells (madeCells #[.int .i64 0] N) 3 (0, 0))) : IRow W (some ⟨g, 0, none⟩) (intsOf (List.replicate N 0)) := fun j hj => by
  have hj' : j < N := by simpa [intsOf] using hj
  refine ⟨g, _, rfl, hg, ?_⟩
  simp [madeCells, intsOf, hj', Nat.mod_one]
theorem alloc_heap (w : World) (o : Obj) : (w.alloc o).heap[w.heap.size]? = some o := by
  show (w.heap.push o)[w.heap.size]? = some o
  exact Array.getElem?_push_size
theorem alloc_heap' (w : World) (o o' : Obj) : ((w.alloc o).alloc o').heap[w.heap.size]? = some o := by
  have h1 := (((Below.refl (w.alloc o).heap.size (w.alloc o)).alloc (Nat.le_refl _) o').block w.heap.size (by simp)).trans (alloc_heap w o)
  exact h1

set_option maxHeartbeats 4000000 in
theorem refTry_new {w : World} {k : Nat} {S : St} (hR : RefAt w k S) (hG : Good S) (hN : S.L.length ≤ 1000 ∧ S.T.length ≤ 1000) (d h off n r : Int) (ha : ansH d n = false) (hnb : newB S r = true) :
    Calls Try.prog 17 #[.pointer (some ⟨k, 0, none⟩), .agg #[.int .i64 d, .int .i64 h, .int .i64 off, .int .i64 n], .agg #[.int .i64 0, .int .i64 r]] w (fun en w' => en = .returned (.bool true) ∧ RefAt w' k (newS S n r) ∧ NT (some k) w w') := by
  have hd : d = 0 ∧ rdB n = true := by simpa [ansH] using ha
  have hn := rdB_of hd.2
  obtain ⟨M, rfl⟩ := Int.eq_ofNat_of_zero_le (show 0 ≤ n by omega)
  have hk : k < w.heap.size := by
    obtain ⟨_, _, _, _, _, _, hb, _⟩ := hR
    exact (Array.getElem?_eq_some_iff.1 hb).1
  obtain ⟨B, hB⟩ : ∃ B, B = (w.alloc (.cells #[.int .i64 d, .int .i64 h, .int .i64 off, .int .i64 M] 39)).alloc (.cells #[.int .i64 0, .int .i64 r] 35) := ⟨_, rfl⟩
  have hwB : Below w.heap.size w B := by rw [hB]; exact ((Below.refl _ w).alloc (Nat.le_refl _) _).alloc (by simp) _
  have hBs : B.heap.size = w.heap.size + 2 := by rw [hB]; simp
  have b0 : B.heap[w.heap.size]? = some (.cells #[.int .i64 d, .int .i64 h, .int .i64 off, .int .i64 M] 39 (0, 0)) := by rw [hB]; exact alloc_heap' _ _ _
  have b1 : B.heap[w.heap.size + 1]? = some (.cells #[.int .i64 0, .int .i64 r] 35 (0, 0)) := by rw [hB, ← World.size_alloc w (.cells #[.int .i64 d, .int .i64 h, .int .i64 off, .int .i64 M] 39)]; exact alloc_heap _ _
  have ca := refAnswer_any (hR.nt (NT.of_below hwB)) hG hN.1 d h off M
  rw [ha] at ca
  unfold opV resV at ca
  generalize ansE S d h off M = E at ca
  generalize ansN' S d h off M = N at ca
  have hb : ∀ (y : Later B) (o : Obj), Below w.heap.size w (y.at'.alloc o) := fun y o => by
    have h1 := hwB.trans (y.below.mono (Below.size hwB))
    exact h1.alloc (Below.size h1) _
  have hbB : ∀ (y : Later B) (o : Obj), Below B.heap.size B (y.at'.alloc o) := fun y o => y.below.alloc (Below.size y.below) _
  have ct := fun (y : Later B) (o : Obj) => refTell_any (hR.nt (NT.of_below (hb y o))) hN.2 r
  have hfin : ∀ (y : Later B) (o : Obj) en w', TellRet (y.at'.alloc o) k S r en w' → en = .returned (.bool true) ∧ RefAt w' k ⟨S.L, putT S.T r⟩ ∧ NT (some k) w w' ∧ w'.cell? ⟨w.heap.size + 1, 1, none⟩ = some (.int .i64 r) ∧ w'.cell? ⟨w.heap.size, 3, none⟩ = some (.int .i64 M) ∧ w.heap.size + 1 < w'.heap.size := fun y o en w' ⟨h1, h2, h3⟩ => by
    rw [hnb] at h1
    rw [if_pos hnb] at h2
    refine ⟨h1, h2, (NT.of_below (hb y o)).trans h3, ?_, ?_, by have := Below.size (hbB y o); have := h3.size; omega⟩
    · have e1 := ((hbB y o).block _ (Array.getElem?_eq_some_iff.1 b1).1).trans b1
      exact cell_of_row ((h3.block _ _ _ _ e1 (by decide) (by simp; omega)).trans e1) rfl
    · have e1 := ((hbB y o).block _ (Array.getElem?_eq_some_iff.1 b0).1).trans b0
      exact cell_of_row ((h3.block _ _ _ _ e1 (by decide) (by simp; omega)).trans e1) rfl
  have hmk := run_make_row' (P := Try.prog) 29 3 (.int .i64 0) 8 Try.underlying29 info_num rfl .i64 .i64 M (by omega) (by omega)
  subst hB
  clear hwB hb hbB b0 b1 hBs hd ha hnb
  go_enter Try.func17, Try.ntmps17
  go_wp2_with (first
    | (go_at_call 14; (with_reducible refine ca.mono ?_); rintro _ _ ⟨rfl, y, rfl⟩)
    | (go_at_call 37; (with_reducible refine (ct _ _).mono ?_); rintro en w5 hp; obtain ⟨rfl, hR5, hNT, q1, q3, a6⟩ := hfin _ _ _ _ hp; clear hp))
  have hw5 : w.heap.size ≤ w5.heap.size := hNT.size
  have hR5d := hR5
  obtain ⟨l, e, p, c, p', c', hbk, h1, h2, h3⟩ := hR5d
  have hk5 : k < w5.heap.size := by omega
  have hl : l.length ≤ 1000 := by have := congrArg List.length e; simp at this; omega
  have a5 : w.heap.size < w5.heap.size := by omega
  have hkS : ∀ V, Snc w5 V → LaidS w5 k w.heap.size (w.heap.size + 1) (.slice p l.length c) r M V := fun V hV =>
    ⟨(hV.cell (p := ⟨k, 0, none⟩) hk5).trans (by simp [World.cell?, hbk]), (hV.cell (p := ⟨w.heap.size + 1, 1, none⟩) a6).trans q1, (hV.cell (p := ⟨w.heap.size, 3, none⟩) a5).trans q3, hV⟩
  have hSd : Snc w5 w5.drew := (Below.refl _ _).drew
  have hS0 := hkS _ hSd
  clear hfin ct ca hR q1 q3
  refine wp_region_T (n := 14) (S := LaidS w5 k w.heap.size (w.heap.size + 1) (.slice p l.length c) r M) (by kernel_rfl) ⟨by kernel_rfl, by kernel_rfl, by kernel_rfl, rfl⟩ ?_
  intro hL inv
  refine wpAnyT_take 0 (v := .pointer (some ⟨k, 0, none⟩)) hL inv rfl (by decide) (by kernel_rfl) (by kernel_rfl) (fun _ _ _ h => h) (.inl ⟨rfl, fun V hS => ?_⟩) hS0 ?_
  · obtain ⟨g0, g1, g2, _⟩ := hS
    go_simp
  clear inv
  intro inv
  refine wpAnyT_take 1 (v := .pointer (some ⟨k, 0, none⟩)) hL inv rfl (by decide) (by kernel_rfl) (by kernel_rfl) (fun _ _ _ h => h) (.inl ⟨rfl, fun V hS => ?_⟩) hS0 ?_
  · obtain ⟨g0, g1, g2, _⟩ := hS
    go_simp
  clear inv
  intro inv
  refine wpAnyT_take 2 (v := .pointer (some ⟨k, 0, none⟩)) hL inv rfl (by decide) (by kernel_rfl) (by kernel_rfl) (fun _ _ _ h => h) (.inl ⟨rfl, fun V hS => ?_⟩) hS0 ?_
  · obtain ⟨g0, g1, g2, _⟩ := hS
    go_simp
  clear inv
  intro inv
  refine wpAnyT_take 3 (v := .pointer (some ⟨k, 0, none⟩)) hL inv rfl (by decide) (by kernel_rfl) (by kernel_rfl) (fun _ _ _ h => h) (.inl ⟨rfl, fun V hS => ?_⟩) hS0 ?_
  · obtain ⟨g0, g1, g2, _⟩ := hS
    go_simp
  clear inv
  intro inv
  refine wpAnyT_take 4 (v := .slice p l.length c) hL inv rfl (by decide) (by kernel_rfl) (by kernel_rfl) (fun _ _ _ h => h) (.inl ⟨rfl, fun V hS => ?_⟩) hS0 ?_
  · obtain ⟨g0, g1, g2, _⟩ := hS
    go_simp
  clear inv
  intro inv
  refine wpAnyT_take 5 (v := .pointer (some ⟨w.heap.size + 1, 1, none⟩)) hL inv rfl (by decide) (by kernel_rfl) (by kernel_rfl) (fun _ _ _ h => h) (.inl ⟨rfl, fun V hS => ?_⟩) hS0 ?_
  · obtain ⟨g0, g1, g2, _⟩ := hS
    go_simp
  clear inv
  intro inv
  refine wpAnyT_take 6 (v := .int .i64 r) hL inv rfl (by decide) (by kernel_rfl) (by kernel_rfl) (fun _ _ _ h => h) (.inl ⟨rfl, fun V hS => ?_⟩) hS0 ?_
  · obtain ⟨g0, g1, g2, _⟩ := hS
    go_simp
  clear inv
  intro inv
  refine wpAnyT_take 7 (v := .pointer (some ⟨w.heap.size, 3, none⟩)) hL inv rfl (by decide) (by kernel_rfl) (by kernel_rfl) (fun _ _ _ h => h) (.inl ⟨rfl, fun V hS => ?_⟩) hS0 ?_
  · obtain ⟨g0, g1, g2, _⟩ := hS
    go_simp
  clear inv
  intro inv
  refine wpAnyT_take 8 (v := .int .i64 M) hL inv rfl (by decide) (by kernel_rfl) (by kernel_rfl) (fun _ _ _ h => h) (.inl ⟨rfl, fun V hS => ?_⟩) hS0 ?_
  · obtain ⟨g0, g1, g2, _⟩ := hS
    go_simp
  clear inv
  intro inv
  generalize w5.drew = U at hS0 hSd ⊢
  refine wpAnyT_one 9 rfl (by kernel_rfl) ?_
  go_wp2_with fail
  have hSa : Snc w5 (U.alloc (.cells (madeCells #[.int .i64 0] M) 3)) := Snc.alloc hSd _
  first | refine ⟨.inr (hkS _ hSa), ?_⟩ | refine ⟨hkS _ hSa, ?_⟩
  have hUh : (U.alloc (.cells (madeCells #[.int .i64 0] M) 3)).heap[U.heap.size]? = some (.cells (madeCells #[.int .i64 0] M) 3 (0, 0)) := alloc_heap _ _
  have cp := put_any (c := c) (h1.nt (NT.of_below (k := none) hSa) (fun _ e => by cases e)) hl ⟨⟨r, List.replicate M 0, 0⟩, some ⟨U.heap.size, 0, none⟩, M⟩
  simp only [List.length_replicate] at cp
  generalize U.alloc (.cells (madeCells #[.int .i64 0] M) 3) = U2 at hSa hUh cp ⊢
  refine wpAnyT_one 10 rfl (by kernel_rfl) ?_
  go_wp2_with fail
  first | refine ⟨.inr (hkS _ hSa), ?_⟩ | refine ⟨hkS _ hSa, ?_⟩
  refine wpAnyT_one 11 rfl (by kernel_rfl) ?_
  go_wp2_with (first
    | (go_at_call 38; (with_reducible refine cp.mono ?_); rintro _ _ ⟨v, l', rfl, hm, hz, y2, rfl, hO⟩))
  have hSy : Snc w5 y2.at' := sncBehind hSa y2.below
  first | refine ⟨.inr (hkS _ hSy), ?_⟩ | refine ⟨hkS _ hSy, ?_⟩
  have hby : ∀ x ∈ l', IRow y2.at' x.q (intsOf x.o.bs) := fun x hx => by
    rcases hz x hx with rfl | hx
    · exact zeros_row ((y2.below.block _ (Array.getElem?_eq_some_iff.1 hUh).1).trans hUh)
    · exact (h2 x hx).nt (NT.of_below (k := none) hSy) (fun _ e => by cases e)
  obtain ⟨pv, cv, rfl⟩ := ths_len hO
  obtain ⟨hfR, hfN⟩ := hR5.laid hSy (hO.low (Below.size hSa)) hby
  rw [hm, e, putF_put hG.up (by simp; omega)] at hfR
  have cl : y2.at'.cell? ⟨k, 0, none⟩ = some (.slice p l.length c) := (hkS _ hSy).1
  have cf : y2.at'.frozen? ⟨k, 0, none⟩ = false := (hSy.frozen (p := ⟨k, 0, none⟩) hk5).trans (by simp [World.frozen?, hbk])
  refine wpAnyT_one 12 rfl (by kernel_rfl) ?_
  go_wp2_with fail
  first | refine ⟨.inr (hkS _ hSy), ?_⟩ | refine ⟨hkS _ hSy, ?_⟩
  refine wpAnyT_one 13 rfl (by kernel_rfl) ?_
  go_wp2_with fail
  first | refine ⟨.inr (hkS _ hSy), ?_⟩ | refine ⟨hkS _ hSy, ?_⟩
  refine wpAnyT_one 14 rfl (by kernel_rfl) ?_
  go_wp2_with fail
  first | refine ⟨.inl rfl, wpAnyT_done (by kernel_rfl) ?_⟩ | refine ⟨trivial, wpAnyT_done (by kernel_rfl) ?_⟩ | refine (show wpAnyT Try.prog Region.Mode.any _ _ (LaidS w5 k w.heap.size (w.heap.size + 1) (.slice p l.length c) r M) 14 0 _ _ _ from wpAnyT_done (by kernel_rfl) ?_)
  clear hkS hS0 hL inv cp hz hO hby
  go_wp2
  go_ret
  exact ⟨rfl, by simpa [newS] using hfR, hNT.trans hfN⟩
end Go.Proofs.Ytlcegnehlhakdaa
