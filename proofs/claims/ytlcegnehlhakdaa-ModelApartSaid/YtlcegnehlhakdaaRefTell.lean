/-
  What the document's own tell comes to, for layer 7.
  Conditions: that its map stands in memory and is a good one; at most 1000 handles told.
-/
import Derived.Test.YtlcegnehlhakdaaRefBits
import Derived.OwnWalk
namespace Go.Proofs.Ytlcegnehlhakdaa
open Go.RowKit Go.Maps Go
attribute [local go_sem] Later.cell Later.frozen Later.lt Later.le
set_option linter.unusedVariables false
set_option linter.unusedSimpArgs false
set_option maxRecDepth 4000

/-- What is laid when a stretch was gone through. -/
def anyT (h : Int) (a : List Int) : Bool := a.any fun y => decide (h < y)
def outT (h : Int) (a : List Int) : List Int := if anyT h a then insT h a else a
theorem anyT_app (h : Int) (a : List Int) (y : Int) : anyT h (a ++ [y]) = (anyT h a || decide (h < y)) := by simp [anyT]
theorem insT_app {h : Int} : ∀ {a : List Int} {b : List Int}, anyT h a = true → insT h (a ++ b) = insT h a ++ b
  | [], _, e => by simp [anyT] at e
  | y :: r, b, e => by
    by_cases c : h < y
    · simp [insT, c]
    · have : anyT h r = true := by simpa [anyT, c] using e
      simp [insT, c, insT_app this]
theorem insT_behind {h : Int} : ∀ {a : List Int} (y : Int), anyT h a = false → h < y → insT h (a ++ [y]) = a ++ [h, y]
  | [], y, _, c => by simp [insT, c]
  | z :: r, y, e, c => by
    have e' : ¬ h < z ∧ anyT h r = false := by simpa [anyT] using e
    simp [insT, e'.1, insT_behind y e'.2 c]
theorem insT_last {h : Int} : ∀ {a : List Int}, anyT h a = false → insT h a = a ++ [h]
  | [], _ => rfl
  | z :: r, e => by
    have e' : ¬ h < z ∧ anyT h r = false := by simpa [anyT] using e
    simp [insT, e'.1, insT_last e'.2]
theorem outT_lay {h y : Int} {a : List Int} (e : anyT h a = false) (c : h < y) : outT h (a ++ [y]) = (outT h a ++ [h]) ++ [y] := by
  unfold outT
  rw [anyT_app, e, insT_behind y e c]
  simp [c]
theorem outT_on {h y : Int} {a : List Int} (e : anyT h a = true ∨ ¬ h < y) : outT h (a ++ [y]) = outT h a ++ [y] := by
  unfold outT
  rw [anyT_app]
  cases k : anyT h a
  · have c : ¬ h < y := by rcases e with e | e; rw [k] at e; cases e; exact e
    simp [c]
  · simp [insT_app k]
theorem putT_new {T : List Int} {h : Int} (hn : ∀ j, j < T.length → T.getD j 0 ≠ h) : putT T h = insT h T := by
  unfold putT
  have : T.filter (fun y => !(y == h)) = T := by
    rw [List.filter_eq_self]
    intro x hx
    obtain ⟨j, hj, rfl⟩ := List.mem_iff_getElem.1 hx
    have := hn j hj
    simp [hj] at this
    simpa using this
  rw [this]

theorem cellsI {w : World} {T : TypeId} {n : Nat} (L : List Value) (hn : n = w.heap.size) : ∀ j u, L[j]? = some u → (w.alloc (.cells L.toArray T)).cell? ((⟨n, 0, none⟩ : Addr).add j) = some u := fun j u hu => by
  subst hn
  rw [Addr.add_lit, Nat.zero_add, World.cell?_alloc_new]
  simpa using hu
theorem Ints.app1 {V w w4 : World} {base : Nat} {l : List Int} {p : Int} {v v' : Value} {o : Obj} (hS : Snc V w) (hV : V.heap.size ≤ base) (hown : Ints w base v l) (hg : (w.alloc o).grownBy w4 v.ownBlock)
    (hO : w4.ownsRow base 3 1 v' (l.length + 1) (l.map (Value.int .i64) ++ [Value.int .i64 p])) : Snc V w4 ∧ Ints w4 base v' (l ++ [p]) :=
  ⟨Below.grown (Snc.alloc hS o) hg (Below.size (Snc.alloc hS o)) fun k hk => by have := (World.ownsRow.lt hown k hk).1; omega, Ints.more hO rfl⟩
theorem RefAt.told {w W : World} {k : Nat} {S : St} {v : Value} {L' : List Int} (hR : RefAt w k S) (hS : Snc w W) (ho : Ints W w.heap.size v L') : RefAt (W.setCell ⟨k, 1, none⟩ v) k ⟨S.L, L'⟩ ∧ NT (some k) w (W.setCell ⟨k, 1, none⟩ v) := by
  obtain ⟨l, e, p, c, p', c', hb, h1, h2, h3⟩ := hR
  have hk : k < w.heap.size := (Array.getElem?_eq_some_iff.1 hb).1
  have hbW := (hS.block k hk).trans hb
  have hnt : NT (some k) w (W.setCell ⟨k, 1, none⟩ v) := ⟨Nat.le_trans (Below.size hS) (by simp), fun b cs T fr hb' hT hkb => by
    have hne : ¬ k = b := fun e => hkb (by rw [e])
    have := hS.block b (Array.getElem?_eq_some_iff.1 hb').1
    rw [← this]
    simp [World.setCell, Array.getElem?_modify, hne], fun kk e => by
    obtain rfl := Option.some.inj e
    exact ⟨hS.os, hS.tape, hS.output, fun b hb' hne => by rw [← hS.block b hb']; simp [World.setCell, Array.getElem?_modify, Ne.symm hne]⟩⟩
  have hkk : ∀ b, some k = some b → ∃ cs fr, w.heap[b]? = some (.cells cs 31 fr) := fun b e => by
    obtain rfl := Option.some.inj e
    exact ⟨_, _, hb⟩
  refine ⟨⟨l, e, p, c, ?_⟩, hnt⟩
  have ht := h1.nt hnt hkk
  have hi := fun x hx => (h2 x hx).nt hnt hkk
  rcases ho.2 with ⟨rfl, h0⟩ | ⟨g, cap, cur, rfl, hg, hh, hnc, hcm, hcs, htk⟩
  · have hl : L' = [] := List.eq_nil_of_length_eq_zero h0
    subst hl
    refine ⟨none, 0, ?_, ht, hi, fun j hj => by simp at hj⟩
    simp [World.setCell, Array.getElem?_modify, hbW]
  · refine ⟨some ⟨g, 0, none⟩, cap, ?_, ht, hi, fun j hj => ⟨g, cur, rfl, ?_, ?_⟩⟩
    · simp [World.setCell, Array.getElem?_modify, hbW]
    · have hne : ¬ k = g := by omega
      simp [World.setCell, Array.getElem?_modify, hne, hh]
    · have := congrArg (fun z : List Value => z[j]?) htk
      simp only [Nat.mul_one] at this
      rw [List.getElem?_take_of_lt (by simpa using hj)] at this
      simpa [hj] using this
/-- The loop's relation. -/
def TellRel (w : World) (T : List Int) (h : Int) (v9 v10 v8 : Value) (wr : World) : Prop :=
  ∃ (i : Nat) (b : Bool), i ≤ T.length ∧ v10 = .int .i64 i ∧ v9 = .bool b ∧ anyT h (T.take i) = b ∧ (∀ j, j < i → T.getD j 0 ≠ h) ∧ Snc w wr ∧ Ints wr w.heap.size v8 (outT h (T.take i))
/-- What the loop of tell asks of the world, and what comes of it. -/
def TellRet (w : World) (k : Nat) (S : St) (h : Int) (en : Ending) (w' : World) : Prop :=
  en = .returned (.bool (newB S h)) ∧ RefAt w' k (if newB S h then ⟨S.L, putT S.T h⟩ else S) ∧ NT (some k) w w'

set_option maxHeartbeats 4000000 in
theorem refTell_any {w : World} {k : Nat} {S : St} (hR : RefAt w k S) (hN : S.T.length ≤ 1000) (h : Int) :
    Calls Try.prog 37 #[.pointer (some ⟨k, 0, none⟩), .int .i64 h] w (TellRet w k S h) := by
  have hR0 := Lib.hid hR
  obtain ⟨l, e, p, c, p', c', hb, h1, h2, h3⟩ := hR
  have hk : k < w.heap.size := (Array.getElem?_eq_some_iff.1 hb).1
  have k1 : ∀ W, Snc w W → W.cell? ⟨k, 1, none⟩ = some (.slice p' S.T.length c') := fun W hW => (hW.cell (p := ⟨k, 1, none⟩) hk).trans (by simp [World.cell?, hb])
  have kf : ∀ W, Snc w W → W.frozen? ⟨k, 1, none⟩ = false := fun W hW => (hW.frozen (p := ⟨k, 1, none⟩) hk).trans (by simp [World.frozen?, hb])
  have hrow : ∀ W, Snc w W → ∀ i, i < S.T.length → ∃ g, p' = some ⟨g, 0, none⟩ ∧ W.cell? ⟨g, i, none⟩ = some (.int .i64 (S.T.getD i 0)) := fun W hW i hi => by
    obtain ⟨g, cs, e, hg, hc⟩ := h3 i hi
    exact ⟨g, e, (hW.cell (p := ⟨g, i, none⟩) (Array.getElem?_eq_some_iff.1 hg).1).trans (cell_of_row hg hc)⟩
  have H := Lib.hid (And.intro e (And.intro hb (And.intro h1 (And.intro h2 h3))))
  clear e hb h1 h2 h3
  have cs := fun W => refSplit_any h W
  obtain ⟨ti, hi, hz0, hz1, hz2⟩ := info_parts info_num
  generalize hT : S.T = T at k1 hrow hN
  have HT := Lib.hid hT
  clear hT
  go_enter Try.func37, Try.ntmps37
  go_wp2_with (first
    | (go_at_call 48; (with_reducible refine (cs _).mono ?_); rintro _ _ ⟨rfl, rfl⟩))
  go_loopw [8, 9, 10] (fun v8 v9 v10 wr => TellRel w T h v9 v10 v8 wr) (fun _ _ v _ => T.length - (intOf v).toNat)
  case atStart => exact ⟨0, false, by omega, rfl, rfl, rfl, fun j hj => by omega, Below.refl _ _, Ints.nil _ _⟩
  case round =>
    obtain ⟨i, b, hil, rfl, rfl, hab, hno, hS, hown⟩ := hrel
    by_cases hin : i < T.length
    · have i1 : (i : Int) < T.length := by omega
      have i0 : (0 : Int) ≤ i := by omega
      obtain ⟨g, rfl, hc⟩ := hrow wr hS i hin
      have hk1 := k1 wr hS
      have hsz := Below.size hS
      have htk : T.take (i + 1) = T.take i ++ [T.getD i 0] := by
        rw [List.take_add_one]
        simp [hin]
      have hol : (outT h (T.take i)).length ≤ 2000 := by
        unfold outT
        split
        · rw [insT_len]; simp; omega
        · simp; omega
      by_cases hx : T.getD i 0 = h
      · have hnb : newB S h = false := by
          have : h ∈ S.T := by
            rw [HT.out, ← hx]
            simp [hin]
          simp [newB, this]
        rw [hx] at hc
        have hfin : TellRet w k S h (.returned (.bool false)) wr := by
          unfold TellRet
          rw [hnb]
          exact ⟨rfl, hR0.out.nt (NT.of_below hS), NT.of_below hS⟩
        clear hrow htk hno hown hab
        go_wp2
        go_ret
        exact hfin
      · have qe : (T.getD i 0 == h) = false := by simpa using hx
        have hno' : ∀ j, j < i + 1 → T.getD j 0 ≠ h := fun j hj => by
          by_cases c : j = i
          · subst c; exact hx
          · exact hno j (by omega)
        have HTK := Lib.hid htk
        have HNO := Lib.hid hno'
        have HAB := Lib.hid hab
        have hrow2 := fun W hW => hrow W hW i hin
        clear htk hno hno' hab hrow hx
        generalize hxx : T.getD i 0 = x at *
        cases b
        · by_cases hlx : h < x
          · have hol2 : (outT h (T.take i) ++ [h]).length ≤ 2001 := by simp; omega
            go_wp2_with (at_builtin; refine mdOpen ?_)
            refine Lib.hid ?_
            refine wpList_append_own _ rfl (.tmp 48) (.tmp 50) 29 rfl w.heap.size 3 ti (.int .i64 0) 1 8 Try.underlying29 hi hz0 hz1 hz2 rfl (by decide) _ _ _ rfl (hown.alloc _) ⟨wr.heap.size, 0, none⟩ 1 1 [.int .i64 h] rfl rfl (cellsI [.int .i64 h] rfl) (fun u hu => by simp at hu; subst hu; rfl) (by unfold maxLen; omega) (by omega) (by simp; omega) ?_
            intro v' w4 hown' hgrow _
            obtain ⟨hS2, hO2⟩ := Ints.app1 hS (Nat.le_refl _) hown hgrow hown'
            clear hgrow hown'
            have hk2 := k1 w4 hS2
            have hc2 : w4.cell? ⟨g, i, none⟩ = some (.int .i64 x) := by
              obtain ⟨g', e', hc'⟩ := hrow2 w4 hS2
              simp only [Option.some.injEq, Addr.mk.injEq, and_true] at e'
              rw [e']
              exact hc'
            have hsz2 := Below.size hS2
            go_wp2_with (at_builtin; refine mdOpen ?_)
            refine Lib.hid ?_
            refine wpList_append_own _ rfl (.tmp 52) (.tmp 60) 29 rfl w.heap.size 3 ti (.int .i64 0) 1 8 Try.underlying29 hi hz0 hz1 hz2 rfl (by decide) _ _ _ rfl (hO2.alloc _) ⟨w4.heap.size, 0, none⟩ 1 1 [.int .i64 x] rfl rfl (cellsI [.int .i64 x] rfl) (fun u hu => by simp at hu; subst hu; rfl) (by unfold maxLen; omega) (by omega) (by simp; omega) ?_
            intro v2 w5 hown' hgrow _
            obtain ⟨hS3, hO3⟩ := Ints.app1 hS2 (Nat.le_refl _) hO2 hgrow hown'
            clear hgrow hown'
            go_wp2
            go_roundw
            case rel => exact ⟨i + 1, true, by omega, by go_num, rfl, by rw [HTK.out, anyT_app, HAB.out]; simp [hlx], HNO.out, hS3, by rw [HTK.out, outT_lay HAB.out hlx]; exact hO3⟩
            case measure => simp [intOf]; omega
          · have hlx' : ¬ h < x := hlx
            go_wp2_with (at_builtin; refine mdOpen ?_)
            refine Lib.hid ?_
            refine wpList_append_own _ rfl (.tmp 52) (.tmp 60) 29 rfl w.heap.size 3 ti (.int .i64 0) 1 8 Try.underlying29 hi hz0 hz1 hz2 rfl (by decide) _ _ _ rfl (hown.alloc _) ⟨wr.heap.size, 0, none⟩ 1 1 [.int .i64 x] rfl rfl (cellsI [.int .i64 x] rfl) (fun u hu => by simp at hu; subst hu; rfl) (by unfold maxLen; omega) (by omega) (by simp; omega) ?_
            intro v' w4 hown' hgrow _
            obtain ⟨hS2, hO2⟩ := Ints.app1 hS (Nat.le_refl _) hown hgrow hown'
            clear hgrow hown'
            go_wp2
            go_roundw
            case rel => exact ⟨i + 1, false, by omega, by go_num, rfl, by rw [HTK.out, anyT_app, HAB.out]; simp [hlx], HNO.out, hS2, by rw [HTK.out, outT_on (.inr (by omega))]; exact hO2⟩
            case measure => simp [intOf]; omega
        · go_wp2_with (at_builtin; refine mdOpen ?_)
          refine Lib.hid ?_
          refine wpList_append_own _ rfl (.tmp 52) (.tmp 60) 29 rfl w.heap.size 3 ti (.int .i64 0) 1 8 Try.underlying29 hi hz0 hz1 hz2 rfl (by decide) _ _ _ rfl (hown.alloc _) ⟨wr.heap.size, 0, none⟩ 1 1 [.int .i64 x] rfl rfl (cellsI [.int .i64 x] rfl) (fun u hu => by simp at hu; subst hu; rfl) (by unfold maxLen; omega) (by omega) (by simp; omega) ?_
          intro v' w4 hown' hgrow _
          obtain ⟨hS2, hO2⟩ := Ints.app1 hS (Nat.le_refl _) hown hgrow hown'
          clear hgrow hown'
          go_wp2
          go_roundw
          case rel => exact ⟨i + 1, true, by omega, by go_num, rfl, by rw [HTK.out, anyT_app, HAB.out]; simp, HNO.out, hS2, by rw [HTK.out, outT_on (.inl HAB.out)]; exact hO2⟩
          case measure => simp [intOf]; omega
    · have i1 : ¬ (i : Int) < T.length := by omega
      have hiT : i = T.length := by omega
      have hk1 := k1 wr hS
      have hsz := Below.size hS
      have hta : T.take i = T := by rw [hiT]; simp
      rw [hta] at hab hown
      have hput := putT_new (T := T) (h := h) (fun j hj => hno j (by omega))
      have hnot : S.T.contains h = false := by
        rw [HT.out]
        have : ¬ h ∈ T := fun hm => by
          obtain ⟨j, hj, e⟩ := List.mem_iff_getElem.1 hm
          exact hno j (by omega) (by simp [hj, e])
        simpa using this
      have hnb0 : newB S h = isH h := by unfold newB; rw [hnot]; simp
      have hol : (outT h T).length ≤ 2000 := by
        unfold outT
        split
        · rw [insT_len]; omega
        · omega
      have hput' : putT S.T h = insT h T := by rw [HT.out]; exact hput
      clear hno hil hiT hta hnot hput hrow
      have HE : (if b then outT h T else outT h T ++ [h]) = putT S.T h := by
        rw [hput']
        unfold outT
        rw [hab]
        cases b
        · exact (insT_last hab).symm
        · rfl
      clear hput'
      have HAB := Lib.hid hab
      clear hab
      cases hH : isH h
      · have hnb : newB S h = false := by rw [hnb0, hH]
        rw [hH] at *
        clear hnb0
        cases b
        · have hend : outT h T ++ [h] = putT S.T h := by simpa using HE
          clear HE
          go_wp2_with (at_builtin; refine mdOpen ?_)
          refine Lib.hid ?_
          refine wpList_append_own _ rfl (.tmp 64) (.tmp 66) 29 rfl w.heap.size 3 ti (.int .i64 0) 1 8 Try.underlying29 hi hz0 hz1 hz2 rfl (by decide) _ _ _ rfl (hown.alloc _) ⟨wr.heap.size, 0, none⟩ 1 1 [.int .i64 h] rfl rfl (cellsI [.int .i64 h] rfl) (fun u hu => by simp at hu; subst hu; rfl) (by unfold maxLen; omega) (by omega) (by simp; omega) ?_
          intro v' w4 hown' hgrow _
          obtain ⟨hS2, hO2⟩ := Ints.app1 hS (Nat.le_refl _) hown hgrow hown'
          clear hgrow hown'
          rw [hend] at hO2
          go_wp2
          go_ret
          unfold TellRet
          rw [hnb]
          exact ⟨rfl, hR0.out.nt (NT.of_below hS2), NT.of_below hS2⟩
        · have hend : outT h T = putT S.T h := by simpa using HE
          clear HE
          rw [hend] at hown
          go_wp2
          go_ret
          unfold TellRet
          rw [hnb]
          exact ⟨rfl, hR0.out.nt (NT.of_below hS), NT.of_below hS⟩
      · have hnb : newB S h = true := by rw [hnb0, hH]
        rw [hH] at *
        clear hnb0
        cases b
        · have hend : outT h T ++ [h] = putT S.T h := by simpa using HE
          clear HE
          go_wp2_with (at_builtin; refine mdOpen ?_)
          refine Lib.hid ?_
          refine wpList_append_own _ rfl (.tmp 64) (.tmp 66) 29 rfl w.heap.size 3 ti (.int .i64 0) 1 8 Try.underlying29 hi hz0 hz1 hz2 rfl (by decide) _ _ _ rfl (hown.alloc _) ⟨wr.heap.size, 0, none⟩ 1 1 [.int .i64 h] rfl rfl (cellsI [.int .i64 h] rfl) (fun u hu => by simp at hu; subst hu; rfl) (by unfold maxLen; omega) (by omega) (by simp; omega) ?_
          intro v' w4 hown' hgrow _
          obtain ⟨hS2, hO2⟩ := Ints.app1 hS (Nat.le_refl _) hown hgrow hown'
          clear hgrow hown'
          rw [hend] at hO2
          have hk2 := k1 w4 hS2
          have hf2 := kf w4 hS2
          obtain ⟨pS, cS, rfl, _⟩ := hO2.shape
          have hfin := hR0.out.told hS2 hO2
          go_wp2
          go_ret
          unfold TellRet
          rw [hnb]
          exact ⟨rfl, hfin⟩
        · have hend : outT h T = putT S.T h := by simpa using HE
          clear HE
          rw [hend] at hown
          have hk2 := k1 wr hS
          have hf2 := kf wr hS
          obtain ⟨pS, cS, rfl, _⟩ := hown.shape
          have hfin := hR0.out.told hS hown
          go_wp2
          go_ret
          unfold TellRet
          rw [hnb]
          exact ⟨rfl, hfin⟩
end Go.Proofs.Ytlcegnehlhakdaa
