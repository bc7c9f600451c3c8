/-
  What the program's own Try comes to for layer 7, whatever is asked and told.
  Conditions: that the map stands in memory and is a good one; at most 1000 objects.
-/
import Derived.Test.YtlcegnehlhakdaaMdTell
import Derived.Laws.StructEq
namespace Go.Proofs.Ytlcegnehlhakdaa
open Go.RowKit Go.Maps
attribute [local go_sem] Later.cell Later.frozen Later.lt Later.le
set_option linter.unusedVariables false
set_option linter.unusedSimpArgs false
set_option maxRecDepth 4000

theorem MdPost.same {w : World} {g : Nat} {bo bt : Option Nat} {S : St} (hM : MapAt w g bo bt S) (y : Later w) : MdPost w g bo bt S y.at' :=
  ⟨bo, bt, hM.later y, Kept.of_below _ y.below, fun _ h => .inl h⟩
/-- What the call came to, as the call behind it saw it. -/
theorem MdPost.before {w W w' : World} {g : Nat} {bo bt : Option Nat} {S : St} (hb : Below w.heap.size w W) (h : MdPost W g bo bt S w') : MdPost w g bo bt S w' := by
  obtain ⟨bo', bt', hM, hK, hF⟩ := h
  exact ⟨bo', bt', hM, (Kept.of_below _ hb).trans hK fun b hb => .inl hb, fun b hb' => (hF b hb').imp id fun h => Nat.le_trans (Below.size hb) h⟩
theorem MdPost.behind {w w' : World} {g : Nat} {bo bt : Option Nat} {S : St} (h : MdPost w g bo bt S w') (y : Later w') : MdPost w g bo bt S y.at' := by
  obtain ⟨bo', bt', hM, hK, hF⟩ := h
  exact ⟨bo', bt', hM.later y, hK.trans (Kept.of_below [] y.below) (by simp), hF⟩

theorem tell_any {w : World} {g : Nat} {bo bt : Option Nat} {S : St} (hM : MapAt w g bo bt S) (hN : S.L.length ≤ 1000 ∧ S.T.length ≤ 1000) (r n : Int) (hn : 1 ≤ n ∧ n ≤ 256) (hw : (Lit.int .i64 r).wf = true) :
    Calls Try.prog 46 #[.pointer (some ⟨g, 0, none⟩), .int .i64 r, .int .i64 n] w (fun en w' => en = .returned (.bool (newB S r)) ∧ MdPost w g bo bt (if newB S r then newS S n r else S) w') := by
  cases hr : newB S r
  · refine (tell_no hM r n hw hr).mono ?_
    rintro _ _ ⟨rfl, y, rfl⟩
    exact ⟨rfl, MdPost.same hM y⟩
  · cases bo with
    | none =>
      obtain rfl := hM.both.1 rfl
      exact tell_nil hM hN r n hn hw hr
    | some b =>
      cases bt with
      | none => have := hM.both.2 rfl; cases this
      | some t => exact tell_more hM hN r n hn hw hr

/-- Of an Alloc that may be: whether it is told so, and the map behind it. -/
def alB (S : St) (c r : Int) : Bool := if c = 10 ∨ c = 11 then decide (r = 0) else if c = 0 then newB S r else false
def alS (S : St) (n c r : Int) : St := if c = 0 ∧ newB S r = true then newS S n r else S

set_option maxHeartbeats 1000000 in
theorem alloc_any {w : World} {g : Nat} {bo bt : Option Nat} {S : St} (hM : MapAt w g bo bt S) (hN : S.L.length ≤ 1000 ∧ S.T.length ≤ 1000) (c r n : Int) (hn : 1 ≤ n ∧ n ≤ 256) (hw : (Lit.int .i64 r).wf = true) :
    Calls Try.prog 35 #[.pointer (some ⟨g, 0, none⟩), .int .i64 n, .agg #[.int .i64 c, .int .i64 r]] w (fun en w' => en = .returned (.bool (alB S c r)) ∧ MdPost w g bo bt (alS S n c r) w') := by
  obtain ⟨B, hB⟩ : ∃ B, B = w.alloc (.cells #[.int .i64 c, .int .i64 r] 35) := ⟨_, rfl⟩
  have hwB : Below w.heap.size w B := by rw [hB]; exact (Below.refl _ w).alloc (Nat.le_refl _) _
  have ct := tell_any (hM.below hwB) hN r n hn hw
  rw [hB] at ct hwB
  have hsame := MdPost.same hM ⟨_, hwB⟩
  clear hB
  by_cases h10 : c = 10
  · subst h10
    have e1 : alB S 10 r = decide (r = 0) := by simp [alB]
    have e2 : alS S n 10 r = S := by simp [alS]
    rw [e1, e2]
    clear ct
    go_enter Try.func35, Try.ntmps35
    go_wp2
    go_ret
    exact ⟨by by_cases q : r = 0 <;> simp [q], hsame⟩
  · by_cases h11 : c = 11
    · subst h11
      have e1 : alB S 11 r = decide (r = 0) := by simp [alB]
      have e2 : alS S n 11 r = S := by simp [alS]
      rw [e1, e2]
      clear ct
      go_enter Try.func35, Try.ntmps35
      go_wp2
      go_ret
      exact ⟨by by_cases q : r = 0 <;> simp [q], hsame⟩
    · have f10 : (c == 10) = false := by simpa using h10
      have f11 : (c == 11) = false := by simpa using h11
      by_cases h0 : c = 0
      · subst h0
        have e1 : alB S 0 r = newB S r := by simp [alB]
        have e2 : alS S n 0 r = if newB S r then newS S n r else S := by simp [alS]
        rw [e1, e2]
        obtain ⟨S1, hS1⟩ : ∃ S1, S1 = if newB S r then newS S n r else S := ⟨_, rfl⟩
        rw [← hS1] at ct ⊢
        clear hS1 e1 e2
        go_enter Try.func35, Try.ntmps35
        go_wp2_with (first
          | (go_at_call 46; (with_reducible refine ct.mono ?_); rintro _ w5 ⟨rfl, hp⟩))
        go_ret
        exact ⟨rfl, hp.before hwB⟩
      · have f0 : (c == 0) = false := by simpa using h0
        have e1 : alB S c r = false := by simp [alB, h10, h11, h0]
        have e2 : alS S n c r = S := by simp [alS, h0]
        rw [e1, e2]
        clear ct
        go_enter Try.func35, Try.ntmps35
        go_wp2
        go_ret
        exact ⟨rfl, hsame⟩

theorem Try_nil (d h off n c r : Int) (w : World) : Calls Try.prog 16 #[.pointer none, .agg #[.int .i64 d, .int .i64 h, .int .i64 off, .int .i64 n], .agg #[.int .i64 c, .int .i64 r]] w (Ret w (.bool false)) := by
  go_enter Try.func16, Try.ntmps16
  go_wp2
  go_ret
  exact Ret.mk rfl (((Below.refl _ w).alloc (Nat.le_refl _) _).alloc (by simp) _)

/-- What is done of an op that is answered by OK. -/
theorem do_any {w : World} {g : Nat} {bo bt : Option Nat} {S : St} (hM : MapAt w g bo bt S) (hG : Good S) (hN : S.L.length ≤ 1000) (d h off n : Int) (hw : (Lit.int .i64 h).wf = true) (hd : 1 ≤ d ∧ d ≤ 5)
    {x : Ob} (hx : getO S.L h = some x) (hE : obE x d off = 0) :
    Calls Try.prog 36 #[.pointer (some ⟨g, 0, none⟩), .agg #[.int .i64 d, .int .i64 h, .int .i64 off, .int .i64 n]] w (fun en w' => en = .returned (.tuple #[]) ∧ MdPost w g bo bt (doS S d h off n) w') := by
  cases bo with
  | none =>
    have e := hM.nos rfl
    rw [e] at hx
    simp [getO, St.none] at hx
  | some b =>
    have hfin : ∀ (en : Ending) (w' : World), (en = .returned (.tuple #[]) ∧ MapAt w' g (some b) bt (doS S d h off n) ∧ Kept (foot g (some b) bt) w w') → en = .returned (.tuple #[]) ∧ MdPost w g (some b) bt (doS S d h off n) w' :=
      fun en w' ⟨h1, h2, h3⟩ => ⟨h1, _, _, h2, h3, fun _ h => .inl h⟩
    by_cases d1 : d = 1
    · subst d1
      exact (do_del hM h off n hw).mono hfin
    · refine (do_put hM hG hN d h off n hw d1 hx fun d3 => ?_).mono hfin
      subst d3
      unfold obE at hE
      by_cases hr : 0 ≤ off ∧ off < x.bs.length
      · exact hr
      · simp [hr] at hE

theorem alB_eq {S : St} {d h off n c r : Int} (ha : ansH d n = false) : tryB S d h off n c r = alB S c r := by unfold tryB alB; rw [ha]; rfl
theorem alS_eq {S : St} {d h off n c r : Int} (ha : ansH d n = false) : tryS S d h off n c r = alS S n c r := by unfold tryS alS; rw [ha]; rfl

set_option maxHeartbeats 2000000 in
theorem Try_alloc {w : World} {g : Nat} {bo bt : Option Nat} {S : St} (hM : MapAt w g bo bt S) (hG : Good S) (hN : S.L.length ≤ 1000 ∧ S.T.length ≤ 1000) (d h off n c r : Int) (hw : (Lit.int .i64 h).wf = true) (hwr : (Lit.int .i64 r).wf = true) (ha : ansH d n = false) :
    Calls Try.prog 16 #[.pointer (some ⟨g, 0, none⟩), .agg #[.int .i64 d, .int .i64 h, .int .i64 off, .int .i64 n], .agg #[.int .i64 c, .int .i64 r]] w (fun en w' => en = .returned (.bool (alB S c r)) ∧ MdPost w g bo bt (alS S n c r) w') := by
  have hd : d = 0 ∧ rdB n = true := by simpa [ansH] using ha
  have hn := rdB_of hd.2
  obtain ⟨B, hB⟩ : ∃ B, B = (w.alloc (.cells #[.int .i64 d, .int .i64 h, .int .i64 off, .int .i64 n] 39)).alloc (.cells #[.int .i64 c, .int .i64 r] 35) := ⟨_, rfl⟩
  have hwB : Below w.heap.size w B := by rw [hB]; exact ((Below.refl _ w).alloc (Nat.le_refl _) _).alloc (by simp) _
  have hq : ∀ (y : Later B) (o : Obj) k v, B.cell? ⟨w.heap.size, k, none⟩ = some v → (y.at'.alloc o).cell? ⟨w.heap.size, k, none⟩ = some v := fun y o k v hv => by
    have h1 : w.heap.size < B.heap.size := by rw [hB]; simp; omega
    exact ((Below.alloc y.below (Below.size y.below) o).cell (p := ⟨w.heap.size, k, none⟩) h1).trans hv
  have q0 := fun y o => hq y o 0 (.int .i64 d) (by rw [hB]; simp [go_sem])
  have q1 := fun y o => hq y o 1 (.int .i64 h) (by rw [hB]; simp [go_sem])
  have q2 := fun y o => hq y o 2 (.int .i64 off) (by rw [hB]; simp [go_sem])
  have q3 := fun y o => hq y o 3 (.int .i64 n) (by rw [hB]; simp [go_sem])
  clear hq
  have ca := Answer_any (hM.below hwB) hG d h off n hw
  have e1 : ansE S d h off n = 0 := by simp [ansE, hd.1, hd.2]
  have e2 : ansN' S d h off n = 0 := by simp [ansN', hd.1]
  rw [ha, e1, e2] at ca
  unfold opV resV at ca
  have ct : ∀ y : Later B, Calls Try.prog 35 #[.pointer (some ⟨g, 0, none⟩), .int .i64 n, .agg #[.int .i64 c, .int .i64 r]] (y.at'.alloc (.cells #[.int .i64 0, .int .i64 0] 35)) (fun en w' => en = .returned (.bool (alB S c r)) ∧ MdPost w g bo bt (alS S n c r) w') := fun y => by
    have hb : Below w.heap.size w (y.at'.alloc (.cells #[.int .i64 0, .int .i64 0] 35)) := by
      have h1 := hwB.trans (y.below.mono (Below.size hwB))
      exact h1.alloc (Below.size h1) _
    refine (alloc_any (hM.below hb) hN c r n hn hwr).mono ?_
    rintro en w' ⟨h1, h2⟩
    exact ⟨h1, h2.before hb⟩
  generalize alB S c r = ab at ct ⊢
  generalize alS S n c r = S1 at ct ⊢
  subst hB
  clear e1 e2 hd hn
  go_enter Try.func16, Try.ntmps16
  go_wp2_with (first
    | (go_at_call 13; (with_reducible refine ca.mono ?_); rintro _ _ ⟨rfl, y, rfl⟩)
    | (go_at_call 35; (with_reducible refine (ct _).mono ?_); rintro _ w5 ⟨rfl, hp⟩))
  go_ret
  exact ⟨rfl, hp⟩
set_option maxHeartbeats 2000000 in
theorem Try_op {w : World} {g : Nat} {bo bt : Option Nat} {S : St} (hM : MapAt w g bo bt S) (hG : Good S) (hN : S.L.length ≤ 1000 ∧ S.T.length ≤ 1000) (d h off n c r : Int) (hw : (Lit.int .i64 h).wf = true) (ha : ansH d n = true) :
    Calls Try.prog 16 #[.pointer (some ⟨g, 0, none⟩), .agg #[.int .i64 d, .int .i64 h, .int .i64 off, .int .i64 n], .agg #[.int .i64 c, .int .i64 r]] w (fun en w' => en = .returned (.bool (tryB S d h off n c r)) ∧ MdPost w g bo bt (tryS S d h off n c r) w') := by
  obtain ⟨B, hB⟩ : ∃ B, B = (w.alloc (.cells #[.int .i64 d, .int .i64 h, .int .i64 off, .int .i64 n] 39)).alloc (.cells #[.int .i64 c, .int .i64 r] 35) := ⟨_, rfl⟩
  have hwB : Below w.heap.size w B := by rw [hB]; exact ((Below.refl _ w).alloc (Nat.le_refl _) _).alloc (by simp) _
  have hq : ∀ (y : Later B) (o : Obj) k v, B.cell? ⟨w.heap.size, k, none⟩ = some v → (y.at'.alloc o).cell? ⟨w.heap.size, k, none⟩ = some v := fun y o k v hv => by
    have h1 : w.heap.size < B.heap.size := by rw [hB]; simp; omega
    exact ((Below.alloc y.below (Below.size y.below) o).cell (p := ⟨w.heap.size, k, none⟩) h1).trans hv
  have q0 := fun y o => hq y o 0 (.int .i64 d) (by rw [hB]; simp [go_sem])
  have q1 := fun y o => hq y o 1 (.int .i64 h) (by rw [hB]; simp [go_sem])
  have q2 := fun y o => hq y o 2 (.int .i64 off) (by rw [hB]; simp [go_sem])
  have q3 := fun y o => hq y o 3 (.int .i64 n) (by rw [hB]; simp [go_sem])
  clear hq
  have ca := Answer_any (hM.below hwB) hG d h off n hw
  rw [ha] at ca
  unfold opV resV at ca
  obtain ⟨E, hE⟩ : ∃ E, E = ansE S d h off n := ⟨_, rfl⟩
  obtain ⟨N, hNn⟩ : ∃ N, N = ansN' S d h off n := ⟨_, rfl⟩
  have et : tryB S d h off n c r = (decide (c = E) && decide (r = N)) := by unfold tryB; rw [ha, hE, hNn]; rfl
  have es : tryS S d h off n c r = if (decide (c = E) && decide (r = N)) && decide (c = 0) && !decide (d = 0) then doS S d h off n else S := by unfold tryS; rw [ha, hE, hNn]; rfl
  rw [← hE, ← hNn] at ca
  have hsame : ∀ y : Later B, MdPost w g bo bt S (y.at'.alloc (.cells #[.int .i64 E, .int .i64 N] 35)) := fun y => by
    have h1 := hwB.trans (y.below.mono (Below.size hwB))
    exact MdPost.same hM ⟨_, h1.alloc (Below.size h1) _⟩
  by_cases hc : c = E
  · by_cases hr : r = N
    · have f1 : (c == E) = true := by simpa using hc
      have f2 : (r == N) = true := by simpa using hr
      by_cases h0 : c = 0
      · have hd0 : ¬ d = 0 := fun k => by
          have hn : rdB n = false := by simpa [ansH, k] using ha
          rw [hE] at hc
          simp [ansE, k, hn] at hc
          omega
        have hd : ¬ (d < 0 ∨ 5 < d) := fun k => by
          rw [hE, h0] at hc
          unfold ansE at hc
          rw [if_neg hd0, if_pos k] at hc
          omega
        obtain ⟨x, hx, hEx⟩ : ∃ x, getO S.L h = some x ∧ obE x d off = 0 := by
          rw [hE, h0] at hc
          unfold ansE at hc
          rw [if_neg hd0, if_neg hd] at hc
          cases hg : getO S.L h with
          | none => rw [hg] at hc; simp at hc
          | some x => rw [hg] at hc; exact ⟨x, rfl, hc.symm⟩
        have e1 : tryB S d h off n c r = true := by rw [et]; simp [hc, hr]
        have e2 : tryS S d h off n c r = doS S d h off n := by rw [es, if_pos (by simp [hr, h0, hd0, ← hc])]
        rw [e1, e2]
        have cd : ∀ y : Later B, Calls Try.prog 36 #[.pointer (some ⟨g, 0, none⟩), .agg #[.int .i64 d, .int .i64 h, .int .i64 off, .int .i64 n]] (y.at'.alloc (.cells #[.int .i64 E, .int .i64 N] 35)) (fun en w' => en = .returned (.tuple #[]) ∧ MdPost w g bo bt (doS S d h off n) w') := fun y => by
          have hb : Below w.heap.size w (y.at'.alloc (.cells #[.int .i64 E, .int .i64 N] 35)) := by
            have h1 := hwB.trans (y.below.mono (Below.size hwB))
            exact h1.alloc (Below.size h1) _
          refine (do_any (hM.below hb) hG hN.1 d h off n hw (by omega) hx hEx).mono ?_
          rintro en w' ⟨h1, h2⟩
          exact ⟨h1, h2.before hb⟩
        have f3 : (c == 0) = true := by simpa using h0
        generalize doS S d h off n = ds at cd ⊢
        subst hB
        clear e1 e2 et es hsame hE hNn hx hEx hc hr h0
        go_enter Try.func16, Try.ntmps16
        go_wp2_with (first
          | (go_at_call 13; (with_reducible refine ca.mono ?_); rintro _ _ ⟨rfl, y, rfl⟩)
          | (go_at_call 36; (with_reducible refine (cd _).mono ?_); rintro _ w5 ⟨rfl, hp⟩))
        go_ret
        exact ⟨rfl, hp⟩
      · have e1 : tryB S d h off n c r = true := by rw [et]; simp [hc, hr]
        have e2 : tryS S d h off n c r = S := by rw [es, if_neg (by simp [h0])]
        rw [e1, e2]
        have f3 : (c == 0) = false := by simpa using h0
        subst hB
        clear e1 e2 et es hE hNn hc hr h0
        go_enter Try.func16, Try.ntmps16
        go_wp2_with (first
          | (go_at_call 13; (with_reducible refine ca.mono ?_); rintro _ _ ⟨rfl, y, rfl⟩))
        go_ret
        exact ⟨rfl, hsame y⟩
    · have e1 : tryB S d h off n c r = false := by rw [et]; simp [hr]
      have e2 : tryS S d h off n c r = S := by rw [es, if_neg (by simp [hr])]
      rw [e1, e2]
      have f1 : (c == E) = true := by simpa using hc
      have f2 : (r == N) = false := by simpa using hr
      subst hB
      clear e1 e2 et es hE hNn hc hr
      go_enter Try.func16, Try.ntmps16
      go_wp2_with (first
        | (go_at_call 13; (with_reducible refine ca.mono ?_); rintro _ _ ⟨rfl, y, rfl⟩))
      go_ret
      exact ⟨rfl, hsame y⟩
  · have e1 : tryB S d h off n c r = false := by rw [et]; simp [hc]
    have e2 : tryS S d h off n c r = S := by rw [es, if_neg (by simp [hc])]
    rw [e1, e2]
    have f1 : (c == E) = false := by simpa using hc
    subst hB
    clear e1 e2 et es hE hNn hc
    go_enter Try.func16, Try.ntmps16
    go_wp2_with (first
      | (go_at_call 13; (with_reducible refine ca.mono ?_); rintro _ _ ⟨rfl, y, rfl⟩))
    go_ret
    exact ⟨rfl, hsame y⟩
/-- What the map does with any op and any Result. -/
theorem Try_any {w : World} {g : Nat} {bo bt : Option Nat} {S : St} (hM : MapAt w g bo bt S) (hG : Good S) (hN : S.L.length ≤ 1000 ∧ S.T.length ≤ 1000) (d h off n c r : Int) (hw : (Lit.int .i64 h).wf = true) (hwr : (Lit.int .i64 r).wf = true) :
    Calls Try.prog 16 #[.pointer (some ⟨g, 0, none⟩), opV d h off n, resV c r] w (fun en w' => en = .returned (.bool (tryB S d h off n c r)) ∧ MdPost w g bo bt (tryS S d h off n c r) w') := by
  cases ha : ansH d n
  · rw [alB_eq ha, alS_eq ha]
    exact Try_alloc hM hG hN d h off n c r hw hwr ha
  · exact Try_op hM hG hN d h off n c r hw ha
end Go.Proofs.Ytlcegnehlhakdaa
