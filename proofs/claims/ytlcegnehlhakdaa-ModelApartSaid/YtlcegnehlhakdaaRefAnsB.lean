/-
  What the document's own Answer, Pins and Bytes come to, whatever is asked, for layer 7.
  Conditions: that its map stands in memory and is a good one.
-/
import Derived.Test.YtlcegnehlhakdaaRefAns
namespace Go.Proofs.Ytlcegnehlhakdaa
open Go.RowKit Go.Maps Go
attribute [local go_sem] Later.cell Later.frozen Later.lt Later.le
set_option linter.unusedVariables false
set_option linter.unusedSimpArgs false
set_option maxRecDepth 4000

theorem findI_spec (h : Int) : ∀ L : List Ob, (getO L h = none ∧ findI L h = -1) ∨ ∃ i : Nat, i < L.length ∧ getO L h = some (L[i]!) ∧ findI L h = i ∧ (L[i]!).h = h
  | [] => .inl ⟨rfl, rfl⟩
  | y :: r => by
    by_cases e : y.h = h
    · refine .inr ⟨0, by simp, ?_, ?_, by simpa using e⟩
      · simp [getO, e]
      · simp [findI, List.findIdx?_cons, e]
    · have e' : (y.h == h) = false := by simpa using e
      rcases findI_spec h r with ⟨h1, h2⟩ | ⟨i, h1, h2, h3, h4⟩
      · refine .inl ⟨?_, ?_⟩
        · unfold getO at *
          rw [List.find?_cons, e']
          exact h1
        · unfold findI at *
          rw [List.findIdx?_cons, e']
          cases k : r.findIdx? (fun x => x.h == h) with
          | none => rfl
          | some j => rw [k] at h2; simp at h2
      · refine .inr ⟨i + 1, by simp; exact h1, ?_, ?_, by simpa using h4⟩
        · unfold getO at *
          rw [List.find?_cons, e']
          simpa using h2
        · unfold findI at *
          rw [List.findIdx?_cons, e']
          cases k : r.findIdx? (fun x => x.h == h) with
          | none => rw [k] at h3; simp at h3
          | some j => rw [k] at h3; simp at h3 ⊢; omega

/-- Where an object's thing lies. -/
theorem RefAt.thing {W : World} {k : Nat} {S : St} (hR : RefAt W k S) {h : Int} {i : Nat} (hi : i < S.L.length) (hh : (S.L[i]!).h = h) :
    ∃ g len c q c2, len = S.L.length ∧ W.cell? ⟨k, 0, none⟩ = some (.slice (some ⟨g, 0, none⟩) len c) ∧ W.cell? ⟨g, i * 3, none⟩ = some (.int .i64 h) ∧ W.cell? ⟨g, i * 3 + 1, none⟩ = some (.slice q (S.L[i]!).bs.length c2) ∧
      W.cell? ⟨g, i * 3 + 2, none⟩ = some (.int .i64 (S.L[i]!).pins) ∧ IRow W q (intsOf (S.L[i]!).bs) := by
  obtain ⟨l, e, p, c, p', c', hb, h1, h2, h3⟩ := hR
  have hl : l.length = S.L.length := by rw [← e]; simp
  have hil : i < l.length := by omega
  obtain ⟨g, cs, rfl, hg, g0, g1, g2⟩ := h1 i hil
  have hel : (S.L[i]!) = (l[i]!).o := by
    rw [← e, getElem!_pos _ i (by simpa using hil), getElem!_pos _ i hil]
    simp
  have hm : l[i]! ∈ l := by rw [getElem!_pos _ i hil]; exact List.getElem_mem hil
  have h4 := h2 _ hm
  rw [hel] at hh ⊢
  rw [hh] at g0
  exact ⟨g, l.length, c, (l[i]!).q, (l[i]!).c, hl, by simp [World.cell?, hb], cell_of_row hg g0, cell_of_row hg g1, cell_of_row hg g2, h4⟩

theorem refAnswer_any {w : World} {k : Nat} {S : St} (hR : RefAt w k S) (hG : Good S) (hN : S.L.length ≤ 1000) (d h off n : Int) :
    Calls Try.prog 14 #[.pointer (some ⟨k, 0, none⟩), opV d h off n] w (Ret w (.tuple #[resV (ansE S d h off n) (ansN' S d h off n), .bool (ansH d n)])) := by
  unfold opV resV
  by_cases d0 : d = 0
  · subst d0
    have e1 : ansE S 0 h off n = rdE n := by simp [ansE, rdE]
    have e2 : ansN' S 0 h off n = 0 := by simp [ansN']
    have e3 : ansH 0 n = !rdB n := by simp [ansH]
    rw [e1, e2, e3]
    by_cases n1 : n < 1
    · have kb : rdB n = false := rdB_false (by omega)
      rw [rdE_bad kb, kb]
      exact refAns_bad1 h off n n1
    · by_cases n2 : 256 < n
      · have kb : rdB n = false := rdB_false (by omega)
        rw [rdE_bad kb, kb]
        exact refAns_bad2 h off n n1 n2
      · have kb : rdB n = true := rdB_true (by omega)
        rw [rdE_ok kb, kb]
        exact refAns_ok h off n n1 n2
  · by_cases dd : d < 0 ∨ 5 < d
    · have e1 : ansE S d h off n = 1 := by simp [ansE, d0, dd]
      have e2 : ansN' S d h off n = 0 := by simp [ansN', d0, dd]
      have e3 : ansH d n = true := by simp [ansH, d0]
      rw [e1, e2, e3]
      by_cases d1 : d < 0
      · exact refAns_odd1 h off n d1
      · exact refAns_odd2 h off n d1 (by omega)
    · have e1 : ansE S d h off n = match getO S.L h with | Option.none => 4 | some x => obE x d off := by unfold ansE; rw [if_neg d0, if_neg dd]; cases getO S.L h <;> rfl
      have e2 : ansN' S d h off n = match getO S.L h with | Option.none => 0 | some x => obN x d off := by unfold ansN'; rw [if_neg d0, if_neg dd]; cases getO S.L h <;> rfl
      have e3 : ansH d n = true := by simp [ansH, d0]
      rw [e1, e2, e3]
      obtain ⟨B, hB⟩ : ∃ B, B = ((w.alloc (.cells #[.int .i64 d, .int .i64 h, .int .i64 off, .int .i64 n] 39)).alloc (.cells #[.int .i64 0, .int .i64 0] 35)) := ⟨_, rfl⟩
      have hwB : Below w.heap.size w B := by rw [hB]; exact ((Below.refl _ w).alloc (Nat.le_refl _) _).alloc (by simp) _
      have hRB := hR.nt (NT.of_below hwB)
      have cf := refFind_any hRB hN h
      rcases findI_spec h S.L with ⟨g1, g2⟩ | ⟨i, hi, g1, g2, g3⟩
      · rw [g2, hB] at cf
        rw [g1]
        exact refAns_none h off n (by omega) (by omega) d0 cf
      · rw [g2, hB] at cf
        rw [g1]
        obtain ⟨g, len, c, q, c2, hlen, k0, q0, q1, q2, hq⟩ := hRB.thing hi g3
        have hgood := hG.live _ (getO_some g1).1
        generalize (S.L[i]!) = x at *
        have hbl := hgood.2.1
        have hil : i < len := by omega
        have hlc : len ≤ 1000 := by omega
        obtain rfl | rfl | rfl | rfl | rfl : d = 1 ∨ d = 2 ∨ d = 3 ∨ d = 4 ∨ d = 5 := by omega
        · rw [hB] at k0 q0 q1 q2
          by_cases c : 0 < x.pins
          · have a1 : obE x 1 off = 6 := by simp [obE, c]
            have a2 : obN x 1 off = 0 := by simp [obN]
            simp only [a1, a2]
            exact refAns_f6 h off n hil hlc hbl cf k0 q0 q1 q2 c
          · have a1 : obE x 1 off = 0 := by simp [obE, c]
            have a2 : obN x 1 off = 0 := by simp [obN]
            simp only [a1, a2]
            exact refAns_f0 h off n hil hlc hbl cf k0 q0 q1 q2 c
        · by_cases c1 : off < 0
          · rw [hB] at k0 q0 q1 q2
            have hr : ¬ (0 ≤ off ∧ off < x.bs.length) := by omega
            have a1 : obE x 2 off = 5 := by simp [obE, hr]
            have a2 : obN x 2 off = 0 := by unfold obN; rw [if_neg (fun k => hr k.2)]
            simp only [a1, a2]
            exact refAns_r5a h off n hil hlc hbl cf k0 q0 q1 q2 c1
          · by_cases c2 : (x.bs.length : Int) ≤ off
            · rw [hB] at k0 q0 q1 q2
              have hr : ¬ (0 ≤ off ∧ off < x.bs.length) := by omega
              have a1 : obE x 2 off = 5 := by simp [obE, hr]
              have a2 : obN x 2 off = 0 := by unfold obN; rw [if_neg (fun k => hr k.2)]
              simp only [a1, a2]
              exact refAns_r5b h off n hil hlc hbl cf k0 q0 q1 q2 c1 c2
            · have hr : 0 ≤ off ∧ off < x.bs.length := by omega
              have a1 : obE x 2 off = 0 := by simp [obE, hr]
              have a2 : obN x 2 off = byteAt x off := by unfold obN; rw [if_pos ⟨rfl, hr⟩]
              simp only [a1, a2]
              have ho : off.toNat < x.bs.length := by omega
              obtain ⟨gq, cq, eq, hgq, hcq⟩ := hq off.toNat (by rw [intsOf_len]; exact ho)
              have hv : (intsOf x.bs).getD off.toNat 0 = byteAt x off := by simp [intsOf, byteAt, ho]
              rw [hv] at hcq
              have rB : ∀ o, (B.alloc o).cell? ⟨gq, off.toNat, none⟩ = some (.int .i64 (byteAt x off)) := fun o =>
                (((Below.refl _ B).alloc (Nat.le_refl _) o).cell (p := ⟨gq, off.toNat, none⟩) (Array.getElem?_eq_some_iff.1 hgq).1).trans (cell_of_row hgq hcq)
              rw [hB] at k0 q0 q1 q2 rB
              exact refAns_r0 h off n hil hlc hbl cf k0 q0 q1 q2 c1 c2 eq rB
        · rw [hB] at k0 q0 q1 q2
          have a2 : obN x 3 off = 0 := by simp [obN]
          by_cases c1 : off < 0
          · have hr : ¬ (0 ≤ off ∧ off < x.bs.length) := by omega
            have a1 : obE x 3 off = 5 := by simp [obE, hr]
            simp only [a1, a2]
            exact refAns_w5a h off n hil hlc hbl cf k0 q0 q1 q2 c1
          · by_cases c2 : (x.bs.length : Int) ≤ off
            · have hr : ¬ (0 ≤ off ∧ off < x.bs.length) := by omega
              have a1 : obE x 3 off = 5 := by simp [obE, hr]
              simp only [a1, a2]
              exact refAns_w5b h off n hil hlc hbl cf k0 q0 q1 q2 c1 c2
            · have hr : 0 ≤ off ∧ off < x.bs.length := by omega
              have a1 : obE x 3 off = 0 := by simp [obE, hr]
              simp only [a1, a2]
              exact refAns_w0 h off n hil hlc hbl cf k0 q0 q1 q2 c1 c2
        · rw [hB] at k0 q0 q1 q2
          have a2 : obN x 4 off = 0 := by simp [obN]
          by_cases c1 : x.pins = 7
          · have a1 : obE x 4 off = 7 := by simp [obE, c1]
            simp only [a1, a2]
            exact refAns_p7 h off n hil hlc hbl cf k0 q0 q1 q2 c1
          · have a1 : obE x 4 off = 0 := by simp [obE, c1]
            simp only [a1, a2]
            exact refAns_p0 h off n hil hlc hbl cf k0 q0 q1 q2 c1
        · rw [hB] at k0 q0 q1 q2
          have a2 : obN x 5 off = 0 := by simp [obN]
          by_cases c1 : x.pins = 0
          · have a1 : obE x 5 off = 8 := by simp [obE, c1]
            simp only [a1, a2]
            exact refAns_u8 h off n hil hlc hbl cf k0 q0 q1 q2 c1
          · have a1 : obE x 5 off = 0 := by simp [obE, c1]
            simp only [a1, a2]
            exact refAns_u0 h off n hil hlc hbl cf k0 q0 q1 q2 c1
end Go.Proofs.Ytlcegnehlhakdaa
