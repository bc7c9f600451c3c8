/-
  What the program's own Same comes to for layer 7.
  Conditions: that both maps stand in memory and are good ones.
-/
import Derived.Test.YtlcegnehlhakdaaMdEqualN
namespace Go.Proofs.Ytlcegnehlhakdaa
open Go.RowKit Go.Maps Go.Shelf Go
attribute [local go_sem] Later.cell Later.frozen Later.lt Later.le
set_option linter.unusedVariables false
set_option linter.unusedSimpArgs false
set_option maxRecDepth 4000

/-! ### Rising lists of which one lies in the other -/
theorem sub_len {α : Type} (f : α → Int) : ∀ (L2 L1 : List α), L1.Pairwise (fun a b => f a < f b) → L2.Pairwise (fun a b => f a < f b) → (∀ x ∈ L1, x ∈ L2) → L1.length ≤ L2.length
  | [], [], _, _, _ => Nat.le_refl _
  | [], x :: s, _, _, h => by have := h x (by simp); simp at this
  | y :: r, [], _, _, _ => Nat.zero_le _
  | y :: r, x :: s, h1, h2, h => by
    obtain ⟨a1, a2⟩ := List.pairwise_cons.1 h1
    obtain ⟨b1, b2⟩ := List.pairwise_cons.1 h2
    have hs : ∀ z ∈ s, z ∈ r := fun z hz => by
      rcases List.mem_cons.1 (h z (by simp [hz])) with e | e
      · subst e
        have hx := h x (by simp)
        have := a1 z hz
        rcases List.mem_cons.1 hx with e | e
        · subst e; omega
        · have := b1 x e; omega
      · exact e
    have := sub_len f r s a2 b2 hs
    simp; omega
theorem sub_eq {α : Type} (f : α → Int) : ∀ (L2 L1 : List α), L1.Pairwise (fun a b => f a < f b) → L2.Pairwise (fun a b => f a < f b) → (∀ x ∈ L1, x ∈ L2) → L1.length = L2.length → L1 = L2
  | [], [], _, _, _, _ => rfl
  | [], x :: s, _, _, _, h => by simp at h
  | y :: r, [], _, _, _, h => by simp at h
  | y :: r, x :: s, h1, h2, h, hl => by
    obtain ⟨a1, a2⟩ := List.pairwise_cons.1 h1
    obtain ⟨b1, b2⟩ := List.pairwise_cons.1 h2
    rcases List.mem_cons.1 (h x (by simp)) with e | e
    · subst e
      have hs : ∀ z ∈ s, z ∈ r := fun z hz => by
        rcases List.mem_cons.1 (h z (by simp [hz])) with e | e
        · subst e; have := a1 z hz; omega
        · exact e
      rw [sub_eq f r s a2 b2 hs (by simpa using hl)]
    · have hall : ∀ z ∈ x :: s, z ∈ r := fun z hz => by
        rcases List.mem_cons.1 (h z hz) with c | c
        · subst c
          have hx := b1 x e
          rcases List.mem_cons.1 hz with c | c
          · subst c; omega
          · have := a1 z c; omega
        · exact c
      have := sub_len f r (x :: s) h1 b2 hall
      simp at hl this
      omega

theorem eqO_ob (x y : Ob) : eqO (obD x) (obD y) = ((x.bs == y.bs) && (x.pins == y.pins)) := rfl
theorem same_objs {L1 L2 : List Ob} (h1 : L1.Pairwise (fun x y => x.h < y.h)) (h2 : L2.Pairwise (fun x y => x.h < y.h)) : Lib.equalFuncD eqO (objD L1) (objD L2) = decide (L1 = L2) := by
  have hg : ∀ x : Ob, Lib.goodD eqO (objD L2) (.int .i64 x.h, obD x) = true ↔ x ∈ L2 := fun x => by
    unfold Lib.goodD
    simp only
    rw [objD_has, objD_at]
    cases hy : getO L2 x.h with
    | none =>
      simp only [Option.isSome_none, Bool.false_and, Bool.false_eq_true, false_iff]
      exact fun hx => getO_none hy x hx rfl
    | some y =>
      have hm := getO_some hy
      simp only [Option.isSome_some, Bool.true_and]
      rw [eqO_ob]
      simp only [Bool.and_eq_true, beq_iff_eq]
      constructor
      · rintro ⟨e1, e2⟩
        have : x = y := by
          obtain ⟨a, b, c⟩ := x
          obtain ⟨a', b', c'⟩ := y
          simp only at e1 e2 hm
          rw [e1, e2, hm.2]
        rw [this]; exact hm.1
      · intro hx
        have := getO_of h2 hx
        rw [hy] at this
        obtain rfl := Option.some.inj this
        exact ⟨rfl, rfl⟩
  unfold Lib.equalFuncD
  rw [size_objD, size_objD]
  by_cases e : L1 = L2
  · subst e
    have : (Lib.entriesD (objD L1)).all (Lib.goodD eqO (objD L1)) = true := List.all_eq_true.2 fun p hp => by
      obtain ⟨x, hx, rfl⟩ := List.mem_map.1 (show p ∈ objE L1 from hp)
      exact (hg x).2 hx
    rw [this]; simp
  · rw [decide_eq_false e]
    by_cases hl : L1.length = L2.length
    · rw [decide_eq_true hl, Bool.true_and]
      cases ha : (Lib.entriesD (objD L1)).all (Lib.goodD eqO (objD L2))
      · rfl
      · exact absurd (sub_eq (fun x : Ob => x.h) L2 L1 h1 h2 (fun x hx => (hg x).1 (List.all_eq_true.1 ha _ (List.mem_map.2 ⟨x, hx, rfl⟩))) hl) e
    · rw [decide_eq_false hl, Bool.false_and]
theorem same_told {T1 T2 : List Int} (h1 : T1.Pairwise (· < ·)) (h2 : T2.Pairwise (· < ·)) : Lib.equalFuncD eqU (setD T1) (setD T2) = decide (T1 = T2) := by
  have hg : ∀ x : Int, Lib.goodD eqU (setD T2) (.int .i64 x, .agg []) = true ↔ x ∈ T2 := fun x => by
    unfold Lib.goodD
    simp only
    rw [setD_has]
    simp [eqU]
  unfold Lib.equalFuncD
  rw [size_setD, size_setD]
  by_cases e : T1 = T2
  · subst e
    have : (Lib.entriesD (setD T1)).all (Lib.goodD eqU (setD T1)) = true := List.all_eq_true.2 fun p hp => by
      obtain ⟨x, hx, rfl⟩ := List.mem_map.1 (show p ∈ setE T1 from hp)
      exact (hg x).2 hx
    rw [this]; simp
  · rw [decide_eq_false e]
    by_cases hl : T1.length = T2.length
    · rw [decide_eq_true hl, Bool.true_and]
      cases ha : (Lib.entriesD (setD T1)).all (Lib.goodD eqU (setD T2))
      · rfl
      · exact absurd (sub_eq (fun x : Int => x) T2 T1 h1 h2 (fun x hx => (hg x).1 (List.all_eq_true.1 ha _ (List.mem_map.2 ⟨x, hx, rfl⟩))) hl) e
    · rw [decide_eq_false hl, Bool.false_and]

/-- Whether two maps are alike. -/
def sameB (S S' : St) : Bool := decide (S.L = S'.L) && decide (S.T = S'.T)
theorem MapAt.md {w : World} {g : Nat} {bo bt : Option Nat} {S : St} (h : MapAt w g bo bt S) : MD w objR bo (objD S.L) ∧ MD w unitElem bt (setD S.T) := by
  constructor
  · rcases h.objs with ⟨e, _⟩ | ⟨b, rfl, ho⟩
    · have := h.nos e
      exact .inl ⟨e, by rw [this]; rfl⟩
    · exact .inr ⟨b, _, rfl, ho⟩
  · rcases h.told with ⟨e, _⟩ | ⟨b, rfl, ho⟩
    · have := h.nos (h.both.2 e)
      exact .inl ⟨e, by rw [this]; rfl⟩
    · exact .inr ⟨b, _, rfl, ho⟩
theorem Same_nil1 (p : Value) (w : World) (hp : ∃ q, p = .pointer q) : Calls Try.prog 25 #[.pointer none, p] w (Ret w (.bool false)) := by
  obtain ⟨q, rfl⟩ := hp
  go_enter Try.func25, Try.ntmps25
  go_wp2
  go_ret
  exact Ret.mk rfl (Below.refl _ _)
theorem Same_nil2 (a : Addr) (w : World) : Calls Try.prog 25 #[.pointer (some a), .pointer none] w (Ret w (.bool false)) := by
  go_enter Try.func25, Try.ntmps25
  go_wp2
  go_ret
  exact Ret.mk rfl (Below.refl _ _)
theorem sameOf {c0 c1 c2 c3 : Prop} {V W : World} (h : c0 ∧ c1 ∧ c2 ∧ c3 ∧ Snc V W) : Snc V W := h.2.2.2.2
theorem inv_next {md : Region.Mode} {ops : Array Oper} {n i : Nat} {listed : Array Bool} (inv : HeadInv md ops n listed) (hr : (Region.ready md ops listed).contains i = true) (hin : i < n) : HeadInv md ops n (listed.setIfInBounds i true) := inv.set (by simpa using hr) hin
/-- What the region that holds two maps against each other asks of the world. -/
structure SameS (w : World) (g g' : Nat) (bo bt bo' bt' : Option Nat) (W : World) : Prop where
  all : W.cell? ⟨g, 0, none⟩ = some (.map bo) ∧ W.cell? ⟨g, 1, none⟩ = some (.map bt) ∧ W.cell? ⟨g', 0, none⟩ = some (.map bo') ∧ W.cell? ⟨g', 1, none⟩ = some (.map bt') ∧ Snc w W
set_option maxHeartbeats 2000000 in
theorem Same_any {w : World} {g g' : Nat} {bo bt bo' bt' : Option Nat} {S S' : St} (hM : MapAt w g bo bt S) (hM' : MapAt w g' bo' bt' S') (hG : Good S) (hG' : Good S') :
    Calls Try.prog 25 #[.pointer (some ⟨g, 0, none⟩), .pointer (some ⟨g', 0, none⟩)] w (Ret w (.bool (sameB S S'))) := by
  have e1 := fun W (h : Snc w W) => equal_O_any W (hM.below h).md.1 (hM'.below h).md.1
  have e2 := fun W (h : Snc w W) => equal_U_any W (hM.below h).md.2 (hM'.below h).md.2
  rw [same_objs hG.up hG'.up] at e1
  rw [same_told hG.upT hG'.upT] at e2
  have hAll : ∀ W, Snc w W → W.cell? ⟨g, 0, none⟩ = some (.map bo) ∧ W.cell? ⟨g, 1, none⟩ = some (.map bt) ∧ W.cell? ⟨g', 0, none⟩ = some (.map bo') ∧ W.cell? ⟨g', 1, none⟩ = some (.map bt') ∧ Snc w W :=
    fun W h => ⟨(hM.below h).cell0, (hM.below h).cell1, (hM'.below h).cell0, (hM'.below h).cell1, h⟩
  have hS0 : Snc w w.drew := (Below.refl _ _).drew
  have HALL := Lib.hid hAll
  clear hAll hM hM'
  unfold sameB
  cases k1 : decide (S.L = S'.L)
  · rw [k1] at e1
    clear e2
    go_enter Try.func25, Try.ntmps25
    go_wp2
    have hk : ∀ V, Snc w V → SameS w g g' bo bt bo' bt' V := fun V h => ⟨HALL.out V h⟩
    have hS1 := hk _ hS0
    refine wp_region_T (n := 20) (S := SameS w g g' bo bt bo' bt') (by kernel_rfl) ⟨by kernel_rfl, by kernel_rfl, by kernel_rfl, rfl⟩ ?_
    intro hL inv
    refine wpAnyT_take 0 (v := .pointer (some ⟨g, 0, none⟩)) hL inv rfl (by decide) (by kernel_rfl) (by kernel_rfl) (fun _ _ _ h => h) (.inl ⟨rfl, fun V hS => ?_⟩) hS1 ?_
    · obtain ⟨x0, x1, x2, x3, _⟩ := hS.all
      go_simp
    clear inv
    intro inv
    refine wpAnyT_take 1 (v := .pointer (some ⟨g, 0, none⟩)) hL inv rfl (by decide) (by kernel_rfl) (by kernel_rfl) (fun _ _ _ h => h) (.inl ⟨rfl, fun V hS => ?_⟩) hS1 ?_
    · obtain ⟨x0, x1, x2, x3, _⟩ := hS.all
      go_simp
    clear inv
    intro inv
    refine wpAnyT_take 2 (v := .pointer (some ⟨g, 0, none⟩)) hL inv rfl (by decide) (by kernel_rfl) (by kernel_rfl) (fun _ _ _ h => h) (.inl ⟨rfl, fun V hS => ?_⟩) hS1 ?_
    · obtain ⟨x0, x1, x2, x3, _⟩ := hS.all
      go_simp
    clear inv
    intro inv
    refine wpAnyT_take 3 (v := .map bo) hL inv rfl (by decide) (by kernel_rfl) (by kernel_rfl) (fun _ _ _ h => h) (.inl ⟨rfl, fun V hS => ?_⟩) hS1 ?_
    · obtain ⟨x0, x1, x2, x3, _⟩ := hS.all
      go_simp
    clear inv
    intro inv
    refine wpAnyT_take 4 (v := .pointer (some ⟨g', 0, none⟩)) hL inv rfl (by decide) (by kernel_rfl) (by kernel_rfl) (fun _ _ _ h => h) (.inl ⟨rfl, fun V hS => ?_⟩) hS1 ?_
    · obtain ⟨x0, x1, x2, x3, _⟩ := hS.all
      go_simp
    clear inv
    intro inv
    refine wpAnyT_take 5 (v := .pointer (some ⟨g', 0, none⟩)) hL inv rfl (by decide) (by kernel_rfl) (by kernel_rfl) (fun _ _ _ h => h) (.inl ⟨rfl, fun V hS => ?_⟩) hS1 ?_
    · obtain ⟨x0, x1, x2, x3, _⟩ := hS.all
      go_simp
    clear inv
    intro inv
    refine wpAnyT_take 6 (v := .pointer (some ⟨g', 0, none⟩)) hL inv rfl (by decide) (by kernel_rfl) (by kernel_rfl) (fun _ _ _ h => h) (.inl ⟨rfl, fun V hS => ?_⟩) hS1 ?_
    · obtain ⟨x0, x1, x2, x3, _⟩ := hS.all
      go_simp
    clear inv
    intro inv
    refine wpAnyT_take 7 (v := .map bo') hL inv rfl (by decide) (by kernel_rfl) (by kernel_rfl) (fun _ _ _ h => h) (.inl ⟨rfl, fun V hS => ?_⟩) hS1 ?_
    · obtain ⟨x0, x1, x2, x3, _⟩ := hS.all
      go_simp
    clear inv
    intro inv
    generalize w.drew = V at hS0 hS1
    refine wpAnyT_one 8 rfl (by kernel_rfl) ?_
    go_wp2_with (first
        | (go_at_call 42; (with_reducible refine (e1 _ hS0).mono ?_); rintro _ _ ⟨rfl, y1, rfl⟩))
    have hS2 := hk _ (Snc.later hS0 y1)
    refine ⟨.inr hS2, ?_⟩
    replace inv := inv_next inv (i := 8) (by kernel_rfl) (by decide)
    refine wpAnyT_take 9 (v := .bool false) hL inv rfl (by decide) (by kernel_rfl) (by kernel_rfl) (fun _ _ _ h => h) (.inl ⟨rfl, fun V hS => ?_⟩) hS2 ?_
    · go_simp
    clear inv
    intro inv
    refine wpAnyT_take 10 (v := undef) hL inv rfl (by decide) (by kernel_rfl) (by kernel_rfl) (fun _ _ _ h => h) (.inr ⟨by kernel_rfl, rfl⟩) hS2 ?_
    clear inv
    intro inv
    refine wpAnyT_take 11 (v := undef) hL inv rfl (by decide) (by kernel_rfl) (by kernel_rfl) (fun _ _ _ h => h) (.inr ⟨by kernel_rfl, rfl⟩) hS2 ?_
    clear inv
    intro inv
    refine wpAnyT_take 12 (v := undef) hL inv rfl (by decide) (by kernel_rfl) (by kernel_rfl) (fun _ _ _ h => h) (.inr ⟨by kernel_rfl, rfl⟩) hS2 ?_
    clear inv
    intro inv
    refine wpAnyT_take 13 (v := undef) hL inv rfl (by decide) (by kernel_rfl) (by kernel_rfl) (fun _ _ _ h => h) (.inr ⟨by kernel_rfl, rfl⟩) hS2 ?_
    clear inv
    intro inv
    refine wpAnyT_take 14 (v := undef) hL inv rfl (by decide) (by kernel_rfl) (by kernel_rfl) (fun _ _ _ h => h) (.inr ⟨by kernel_rfl, rfl⟩) hS2 ?_
    clear inv
    intro inv
    refine wpAnyT_take 15 (v := undef) hL inv rfl (by decide) (by kernel_rfl) (by kernel_rfl) (fun _ _ _ h => h) (.inr ⟨by kernel_rfl, rfl⟩) hS2 ?_
    clear inv
    intro inv
    refine wpAnyT_take 16 (v := undef) hL inv rfl (by decide) (by kernel_rfl) (by kernel_rfl) (fun _ _ _ h => h) (.inr ⟨by kernel_rfl, rfl⟩) hS2 ?_
    clear inv
    intro inv
    refine wpAnyT_take 17 (v := undef) hL inv rfl (by decide) (by kernel_rfl) (by kernel_rfl) (fun _ _ _ h => h) (.inr ⟨by kernel_rfl, rfl⟩) hS2 ?_
    clear inv
    intro inv
    refine wpAnyT_take 18 (v := undef) hL inv rfl (by decide) (by kernel_rfl) (by kernel_rfl) (fun _ _ _ h => h) (.inr ⟨by kernel_rfl, rfl⟩) hS2 ?_
    clear inv
    intro inv
    refine wpAnyT_take 19 (v := .bool false) hL inv rfl (by decide) (by kernel_rfl) (by kernel_rfl) (fun _ _ _ h => h) (.inl ⟨rfl, fun V hS => ?_⟩) hS2 ?_
    · go_simp
    clear inv
    intro inv
    refine wpAnyT_one 20 rfl (by kernel_rfl) ?_
    go_wp2_with fail
    first | refine ⟨.inl rfl, wpAnyT_done (by kernel_rfl) ?_⟩ | refine ⟨by kernel_rfl, ?_⟩ | refine wpAnyT_done (by kernel_rfl) ?_
    go_wp2
    go_ret
    exact Ret.mk (by simp) (sncBehind hS0 y1.below)
  · rw [k1] at e1
    go_enter Try.func25, Try.ntmps25
    go_wp2
    go_region_held3 (fun w' => w'.cell? ⟨g, 0, none⟩ = some (.map bo) ∧ w'.cell? ⟨g, 1, none⟩ = some (.map bt) ∧ w'.cell? ⟨g', 0, none⟩ = some (.map bo') ∧ w'.cell? ⟨g', 1, none⟩ = some (.map bt') ∧ Snc w w')
      (first | (with_reducible exact HALL.out _ hS0) | (with_reducible assumption) | (with_reducible exact HALL.out _ (Snc.later (sameOf ‹_ ∧ _›) _)))
      (first
        | (go_at_call 42; (with_reducible refine (e1 _ (sameOf ‹_ ∧ _›)).mono ?_); rintro _ _ ⟨rfl, y1, rfl⟩)
        | (go_at_call 43; (with_reducible refine (e2 _ (sameOf ‹_ ∧ _›)).mono ?_); rintro _ _ ⟨rfl, y2, rfl⟩))
    all_goals
      go_wp2
      go_ret
      exact Ret.mk (by simp) (sncBehind (sncBehind hS0 y1.below) y2.below)
end Go.Proofs.Ytlcegnehlhakdaa
