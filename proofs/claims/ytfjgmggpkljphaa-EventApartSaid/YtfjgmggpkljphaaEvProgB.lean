/-
  What the program's own Calls answers for layer 8.
  Conditions: that the events lie in memory.
-/
import Derived.Test.YtfjgmggpkljphaaEvWait
import Derived.Test.YtfjgmggpkljphaaEvProgA
namespace Go.Proofs.Ytfjgmggpkljphaa
open Go.RowKit
attribute [local go_sem] Later.cell Later.frozen Later.lt Later.le
set_option linter.unusedVariables false
set_option maxRecDepth 4000

/-- Who waits, as it lies in memory. -/
def waitL (l : List Ev) (k : Nat) : List Value := (List.range 4).map fun (t : Nat) => Value.int .i64 (wait l k (t : Int) : Nat)
/-- The call's own array of those who wait, and its row of calls. -/
structure CwAt (w W : World) (L : List Value) (v : Value) (l : List Cl) : Prop where
  since : Since' w W
  blk : W.heap[w.heap.size]? = some (.cells L.toArray 105 (0, 0))
  own : Cls 72 W (w.heap.size + 1) v l
theorem Cls.mono {T : TypeId} {w : World} {base b' : Nat} {v : Value} {l : List Cl} (h : Cls T w base v l) (hb : b' ≤ base) : Cls T w b' v l := by
  refine ⟨h.1, ?_⟩
  rcases h.2 with hn | ⟨g, cap, cur, hv, hg, r⟩
  · exact .inl hn
  · exact .inr ⟨g, cap, cur, hv, Nat.le_trans hb hg, r⟩
namespace CwAt
variable {w W : World} {L : List Value} {v : Value} {l : List Cl}
theorem apart (h : CwAt w W L v l) : v.ownBlock ≠ some w.heap.size := fun e => by have := (World.ownsRow.lt h.own _ e).1; omega
theorem later (h : CwAt w W L v l) (x : Later W) : CwAt w x.at' L v l :=
  ⟨Since'.later h.since x, (x.below.block _ (Array.getElem?_eq_some_iff.1 h.blk).1).trans h.blk, Cls.later h.own x⟩
theorem alloc (h : CwAt w W L v l) (o : Obj) : CwAt w (W.alloc o) L v l := h.later ⟨W.alloc o, (Below.refl _ _).alloc (Nat.le_refl _) _⟩
theorem cell (h : CwAt w W L v l) (j : Nat) : W.cell? ⟨w.heap.size, j, none⟩ = L[j]? := by simp [World.cell?, h.blk]
theorem frozen (h : CwAt w W L v l) (j : Nat) : W.frozen? ⟨w.heap.size, j, none⟩ = false := by simp [World.frozen?, h.blk]
theorem lt (h : CwAt w W L v l) : w.heap.size < W.heap.size := (Array.getElem?_eq_some_iff.1 h.blk).1
theorem set (h : CwAt w W L v l) (j : Nat) (u : Value) : CwAt w (W.setCell ⟨w.heap.size, j, none⟩ u) (L.set j u) v l :=
  ⟨Below.setCell h.since (Nat.le_refl _) u, by simp [World.setCell, Array.getElem?_modify, h.blk], ownsRow_setCell_other h.own (by simpa using h.apart) u⟩
end CwAt
/-- A call of the row is turned, cell by cell. -/
theorem CwAt.put {w W : World} {L : List Value} {g n cap p : Nat} {l : List Cl} {x : Cl} {c r to : Int} (h : CwAt w W L (.slice (some ⟨g, 0, none⟩) n cap) l) (hx : l[p]? = some x) :
    CwAt w ((((W.setCell ⟨g, p * 10 + 5, none⟩ (.int .i64 c)).setCell ⟨g, p * 10 + 6, none⟩ (.int .i64 r)).setCell ⟨g, p * 10 + 7, none⟩ (.bool true)).setCell ⟨g, p * 10 + 9, none⟩ (.int .i64 to)) L (.slice (some ⟨g, 0, none⟩) n cap) (l.set p { x with c := c, r := r, done := true, to := to }) := by
  have hn : l.length = n := by
    rcases h.own.2 with ⟨e, _⟩ | ⟨_, _, _, e, _⟩
    · simp at e
    · simp at e; exact e.2.1.symm
  subst hn
  have hg : w.heap.size + 1 ≤ g := (World.ownsRow.lt h.own g rfl).1
  have h1 := World.ownsRow.stored h.own (p * 10 + 5) (.int .i64 c)
  have h2 := World.ownsRow.stored h1.1 (p * 10 + 6) (.int .i64 r)
  have h3 := World.ownsRow.stored h2.1 (p * 10 + 7) (.bool true)
  have h4 := World.ownsRow.stored h3.1 (p * 10 + 9) (.int .i64 to)
  have hne : g ≠ w.heap.size := by omega
  refine ⟨?_, ?_, ?_⟩
  · exact Below.setCell (Below.setCell (Below.setCell (Below.setCell h.since (by simp; omega) _) (by simp; omega) _) (by simp; omega) _) (by simp; omega) _
  · simp [World.setCell, Array.getElem?_modify, hne, h.blk]
  · have := h4.1
    rw [clsCells_put l p x c r to hx] at this
    unfold Cls
    rw [List.length_set]
    exact this
/-- Behind the row's growth. -/
theorem CwAt.grown {w W w4 : World} {L : List Value} {v v' : Value} {l : List Cl} {x : Cl} {o : Obj} (h : CwAt w W L v l) (hg : (W.alloc o).grownBy w4 v.ownBlock)
    (hO : w4.ownsRow (w.heap.size + 1) 72 10 v' (l.length + 1) (clsCells l ++ clCells x)) : CwAt w w4 L v' (l ++ [x]) := by
  have h' := h.alloc o
  have hr : ∀ k, v.ownBlock = some k → w.heap.size ≤ k := fun k hk => by have := (World.ownsRow.lt h.own k hk).1; omega
  refine ⟨Below.grown h'.since hg (Below.size h'.since) hr, ?_, ?_⟩
  · rw [hg.block _ h'.lt (fun e => h'.apart e.symm), h'.blk]
  · unfold Cls
    rw [clsCells_app, List.length_append]
    have e : clsCells [x] = clCells x := by simp [clsCells]
    rw [e]
    exact hO
theorem waitL_at (l : List Ev) (k t : Nat) (h : t < 4) : (waitL l k)[t]? = some (.int .i64 (wait l k t)) := by
  unfold waitL
  simp [h]
theorem waitL_succ {l : List Ev} {k t : Nat} (h : t < 4) (ht : (evAt l k).th = t) : waitL l (k + 1) = (waitL l k).set t (.int .i64 (if (evAt l k).bk then 0 else (asksTo l (k + 1)).length : Nat)) := by
  apply List.ext_getElem?
  intro j
  by_cases hj : j < 4
  · rw [waitL_at _ _ _ hj]
    by_cases e : j = t
    · subst e
      rw [List.getElem?_set_self (by simp [waitL, h])]
      simp [wait, ht]
    · rw [List.getElem?_set_ne (Ne.symm e), waitL_at _ _ _ hj]
      have : ¬ (t : Int) = j := by omega
      simp [wait, ht, this]
  · rw [List.getElem?_eq_none (by simp [waitL]; omega), List.getElem?_eq_none (by simp [waitL]; omega)]
/-- The loop's relation. -/
def CpRel (w : World) (l : List Ev) (v i : Value) (wr : World) : Prop :=
  ∃ k : Nat, k ≤ l.length ∧ i = .int .i64 k ∧ (∀ j, j < k → okAt l j = true) ∧ CwAt w wr (waitL l k) v (callsUp l k)

theorem info_pcall : (Try.prog.info? 72).map (fun i => (i.zero, i.size, i.bytes)) = some (some (.agg #[.int .i64 0, .int .i64 0, .int .i64 0, .int .i64 0, .int .i64 0, .int .i64 0, .int .i64 0, .bool false, .int .i64 0, .int .i64 0]), 10, 80) := by kernel_rfl

theorem clsCells_at : ∀ (L : List Cl) (p : Nat) (x : Cl) (j : Nat), L[p]? = some x → j < 10 → (clsCells L)[p * 10 + j]? = (clCells x)[j]?
  | [], p, x, j, h, _ => by simp at h
  | y :: L, 0, x, j, h, hj => by
    obtain rfl : y = x := by simpa using h
    have e : clsCells (y :: L) = clCells y ++ clsCells L := by simp [clsCells]
    rw [e, Nat.zero_mul, Nat.zero_add, List.getElem?_append_left (by simpa [clCells] using hj)]
  | y :: L, p + 1, x, j, h, hj => by
    have e : clsCells (y :: L) = clCells y ++ clsCells L := by simp [clsCells]
    have hl : (clCells y).length = 10 := rfl
    rw [e, List.getElem?_append_right (by rw [hl]; omega), hl, show (p + 1) * 10 + j - 10 = p * 10 + j by omega]
    exact clsCells_at L p x j (by simpa using h) hj
theorem calls_none {l : List Ev} {w W : World} (h : histE l = 2) (hS : Since' w W) : ClsRet 72 w (callsOf l) (histE l) (.returned (.tuple #[.slice Option.none 0 0, .int .i64 2])) W := by
  have e : callsOf l = [] := by unfold callsOf; rw [h, if_neg (by decide)]
  rw [h, e]
  exact ⟨_, rfl, ⟨W, hS⟩, rfl, Cls.nil _ _ _⟩
set_option maxHeartbeats 4000000 in
theorem Calls_any {b off cap : Nat} {l : List Ev} {w : World} (hE : EvsAt w b off l) (hl : l.length ≤ 1000000) : Calls Try.prog 36 #[.slice (some ⟨b, off, none⟩) l.length cap] w (ClsRet 72 w (callsOf l) (histE l)) := by
  have hb := hE.lt
  obtain ⟨ti, hi, hz0, hz1, hz2⟩ := info_parts info_pcall
  have HE := Lib.hid hE
  clear hE
  go_enter Try.func36, Try.ntmps36
  go_wp2
  go_loopw [4, 6, 7, 8, 11] (fun v _ _ _ i wr => CpRel w l v i wr) (fun _ _ _ _ i _ => l.length - (intOf i).toNat)
  case atStart => exact ⟨0, by omega, rfl, fun j hj => absurd hj (Nat.not_lt_zero _), ⟨(Below.refl _ _).alloc (Nat.le_refl _) _, Go.Deep.blk_alloc_new _ _, World.ownsRow_nil _ _ _ _⟩⟩
  case round =>
    obtain ⟨k, hk, rfl, hok, hC⟩ := hrel
    by_cases hkl : k < l.length
    · have hE := HE.out.below hC.since
      have k0 := hE.c0 k hkl
      have k1 := hE.c1 k hkl
      have k2 := hE.c2 k hkl
      have k3 := hE.c3 k hkl
      have k4 := hE.c4 k hkl
      have k5 := hE.c5 k hkl
      have k6 := hE.c6 k hkl
      have k7 := hE.c7 k hkl
      have i0 : (0 : Int) ≤ k := by omega
      have i1 : (k : Int) < l.length := by omega
      have hodd := wait_odd k k hok
      have hbad : okAt l k = false → histE l = 2 := histE_bad hkl
      have hokk := hok
      rw [okAt_parts] at hbad
      have hmB := fun W => mayBe_any (evAt l k) W
      have hmv : mayB (evAt l k) = (decide (0 ≤ (evAt l k).th ∧ (evAt l k).th ≤ 3) && (if (evAt l k).bk then opZ (evAt l k) else rsZ (evAt l k))) := rfl
      have hlt := hC.lt
      have HC := Lib.hid hC
      clear hC hE
      cases hm : mayB (evAt l k)
      case false =>
        have hB : histE l = 2 := hbad (by
          rw [hmv] at hm
          revert hm
          cases decide (0 ≤ (evAt l k).th ∧ (evAt l k).th ≤ 3) <;> cases ((evAt l k).bk == decide (turnTo l k k % 2 = 1)) <;> simp)
        rw [hm] at hmB
        have HB := Lib.hid hB
        clear hbad hodd hok hokk hmv hm hB
        generalize evAt l k = e at k0 k1 k2 k3 k4 k5 k6 k7 hmB
        obtain ⟨th, bk, d, h, o, n, c, r⟩ := e
        simp only [evVP, evCellsP] at hmB k0 k1 k2 k3 k4 k5 k6 k7
        go_wp2_with fail
        refine wp_region_later (by kernel_rfl) (by kernel_rfl) ?_
        repeat (go_big_quiet_step ((go_at_call 63; (with_reducible exact later_of _ (hmB _)))))
        refine wpQuiet_nil ?_
        rintro _ ⟨z, rfl⟩
        go_wp2
        go_ret2
        exact calls_none HB.out (Since'.later (Since'.alloc HC.out.since _) z)
      case true =>
        rw [hm] at hmB
        have hth : 0 ≤ (evAt l k).th ∧ (evAt l k).th ≤ 3 := by
          rw [hmv] at hm
          by_cases c : 0 ≤ (evAt l k).th ∧ (evAt l k).th ≤ 3
          · exact c
          · simp [c] at hm
        have hz : (if (evAt l k).bk then opZ (evAt l k) else rsZ (evAt l k)) = true := by
          rw [hmv] at hm
          revert hm
          cases (if (evAt l k).bk then opZ (evAt l k) else rsZ (evAt l k)) <;> simp
        obtain ⟨t, ht⟩ : ∃ t : Nat, (evAt l k).th = t := ⟨(evAt l k).th.toNat, by omega⟩
        have ht4 : t < 4 := by omega
        have hcw := HC.out.cell t
        rw [waitL_at l k t ht4] at hcw
        have hiff : okAt l k = true ↔ ((evAt l k).bk = true ↔ 0 < wait l k t) := by
          rw [okAt_parts, hz, show decide (0 ≤ (evAt l k).th ∧ (evAt l k).th ≤ 3) = true by simpa using hth]
          rw [← ht]
          rw [hodd]
          cases (evAt l k).bk <;> simp
        clear hmv hm hz hth hodd
        by_cases hw0 : 0 < wait l k t
        case neg =>
          have ew : wait l k t = 0 := by omega
          rw [ew] at hcw
          cases hbk : (evAt l k).bk
          case true =>
            have hB : histE l = 2 := histE_bad hkl (by
              cases h : okAt l k
              · rfl
              · exact absurd ((hiff.1 h).1 hbk) hw0)
            have HB := Lib.hid hB
            rw [hbk] at k1
            have he : evVP (evAt l k) = .agg #[.int .i64 t, .bool true, .int .i64 (evAt l k).d, .int .i64 (evAt l k).h, .int .i64 (evAt l k).o, .int .i64 (evAt l k).n, .int .i64 (evAt l k).c, .int .i64 (evAt l k).r] := by simp only [evVP, evCellsP, ht, hbk]
            rw [he] at hmB
            rw [ht] at k0
            clear hbad hok hokk hiff hw0 hbk he ht
            generalize evAt l k = e at k0 k1 k2 k3 k4 k5 k6 k7 hmB
            have t0 : (0 : Int) ≤ t := by omega
            have t1 : (t : Int) < 4 := by omega
            go_wp2_with fail
            refine wp_region_later (by kernel_rfl) (by kernel_rfl) ?_
            repeat (go_big_quiet_step ((go_at_call 63; (with_reducible exact later_of _ (hmB _)))))
            refine wpQuiet_nil ?_
            rintro _ ⟨z, rfl⟩
            go_wp2
            go_ret2
            exact calls_none HB.out (Since'.later (Since'.alloc HC.out.since _) z)
          case false =>
            have hok1 : okAt l k = true := hiff.2 (by rw [hbk]; simp; omega)
            have hup := callsUp_ask hkl (fun j hj => by
              by_cases e : j = k
              · subst e; exact hok1
              · exact hok j (by omega)) hbk
            have hwl := waitL_succ ht4 ht
            rw [hbk, asksTo_ask hbk] at hwl
            have hlen := callsUp_len l k
            have hale := asksTo_le l k
            have hok2 : ∀ j, j < k + 1 → okAt l j = true := fun j hj => by
              by_cases e : j = k
              · subst e; exact hok1
              · exact hok j (by omega)
            rw [ht] at hup
            rw [hbk] at k1
            have he : evVP (evAt l k) = .agg #[.int .i64 t, .bool false, .int .i64 (evAt l k).d, .int .i64 (evAt l k).h, .int .i64 (evAt l k).o, .int .i64 (evAt l k).n, .int .i64 (evAt l k).c, .int .i64 (evAt l k).r] := by simp only [evVP, evCellsP, ht, hbk]
            rw [he] at hmB
            rw [ht] at k0
            have HUP := Lib.hid hup
            have HWL := Lib.hid hwl
            have HOK2 := Lib.hid hok2
            clear hbad hok hokk hiff hw0 hbk he ht hup hwl hok2 hok1
            generalize evAt l k = e at k0 k1 k2 k3 k4 k5 k6 k7 hmB HUP
            have t0 : (0 : Int) ≤ t := by omega
            have t1 : (t : Int) < 4 := by omega
            go_wp2_with fail
            refine wp_region_later (by kernel_rfl) (by kernel_rfl) ?_
            repeat (go_big_quiet_step ((go_at_call 63; (with_reducible exact later_of _ (hmB _)))))
            refine wpQuiet_nil ?_
            rintro _ ⟨z, rfl⟩
            have hZ := (HC.out.alloc _).later z
            have HZ := Lib.hid hZ
            have hec : z.at'.cell? ⟨wr.heap.size, 0, Option.none⟩ = some (.int .i64 t) := by
              rw [z.cell _ _ _ (by simp), World.cell?_alloc_new]; rfl
            have hne : some wr.heap.size ≠ u4.ownBlock := fun h => by have := (World.ownsRow.lt HC.out.own _ h.symm).2; omega
            have hzs : wr.heap.size < z.at'.heap.size := z.lt _ (by simp)
            have HEC := Lib.hid hec
            clear hZ hec
            go_wp2_with (at_builtin; refine unhid ?_)
            refine Lib.hid ?_
            refine wpList_append_own _ rfl (.tmp 53) (.tmp 62) 58 rfl (w.heap.size + 1) 72 ti _ 10 80 Try.underlying58 hi hz0 hz1 hz2 rfl (by decide) _ _ _ rfl (Cls.alloc HZ.out.own _) ⟨z.at'.heap.size, 0, Option.none⟩ 1 1 (clCells ⟨(t : Int), e.d, e.h, e.o, e.n, 0, 0, false, (k : Int), (l.length : Int)⟩) rfl rfl (cells_at (clCells ⟨(t : Int), e.d, e.h, e.o, e.n, 0, 0, false, (k : Int), (l.length : Int)⟩) rfl) (clCells_one _) (by unfold maxLen; omega) (by omega) (by have := HZ.out.lt; simp; omega) ?_
            intro v' w4 hO hg _
            have hC2 := HZ.out.grown (x := ⟨(t : Int), e.d, e.h, e.o, e.n, 0, 0, false, (k : Int), (l.length : Int)⟩) hg hO
            have hec2 : w4.cell? ⟨wr.heap.size, 0, Option.none⟩ = some (.int .i64 t) := hg.cell ((((Below.refl _ z.at').alloc (Nat.le_refl _) _).cell (p := ⟨wr.heap.size, 0, Option.none⟩) hzs).trans HEC.out) hne
            have hcw2 := hC2.cell t
            rw [waitL_at l k t ht4] at hcw2
            have hf2 := hC2.frozen t
            have hlt2 := hC2.lt
            have hlen2 : (callsUp l k ++ [(⟨(t : Int), e.d, e.h, e.o, e.n, 0, 0, false, (k : Int), (l.length : Int)⟩ : Cl)]).length = (asksTo l k).length + 1 := by simp [hlen]
            clear hO hg
            rcases hC2.own.2 with ⟨_, h0⟩ | ⟨g2, cap2, cur2, rfl, _⟩
            · rw [hlen2] at h0; omega
            · rw [hlen2] at hC2 ⊢
              have HC2 := Lib.hid hC2
              clear hC2 hlen2 hcw
              go_wp2
              go_roundw
              case rel => exact ⟨k + 1, by omega, by go_num, HOK2.out, by rw [HWL.out, HUP.out]; simpa using HC2.out.set t (.int .i64 ((asksTo l k).length + 1 : Nat))⟩
              case measure => simp [intOf]; omega
        case pos =>
          obtain ⟨p, ew⟩ : ∃ p, wait l k t = p + 1 := ⟨wait l k t - 1, by omega⟩
          have hwle := wait_le l k t
          rw [ew, Int.natCast_add] at hcw
          cases hbk : (evAt l k).bk
          case false =>
            have hB : histE l = 2 := histE_bad hkl (by
              cases h : okAt l k
              · rfl
              · have := (hiff.1 h).2 hw0
                rw [hbk] at this
                cases this)
            have HB := Lib.hid hB
            rw [hbk] at k1
            have he : evVP (evAt l k) = .agg #[.int .i64 t, .bool false, .int .i64 (evAt l k).d, .int .i64 (evAt l k).h, .int .i64 (evAt l k).o, .int .i64 (evAt l k).n, .int .i64 (evAt l k).c, .int .i64 (evAt l k).r] := by simp only [evVP, evCellsP, ht, hbk]
            rw [he] at hmB
            rw [ht] at k0
            clear hbad hok hokk hiff hw0 hbk he ht
            generalize evAt l k = e at k0 k1 k2 k3 k4 k5 k6 k7 hmB
            have t0 : (0 : Int) ≤ t := by omega
            have t1 : (t : Int) < 4 := by omega
            have p0 : (0 : Int) < (p : Int) + ((1 : Nat) : Int) := by omega
            go_wp2_with fail
            refine wp_region_later (by kernel_rfl) (by kernel_rfl) ?_
            repeat (go_big_quiet_step ((go_at_call 63; (with_reducible exact later_of _ (hmB _)))))
            refine wpQuiet_nil ?_
            rintro _ ⟨z, rfl⟩
            go_wp2
            go_ret2
            exact calls_none HB.out (Since'.later (Since'.alloc HC.out.since _) z)
          case true =>
            have hok1 : okAt l k = true := hiff.2 (by rw [hbk]; simp; omega)
            obtain ⟨x, hp1, hp2, hup⟩ := callsUp_bk hkl hbk (by rw [ht]; exact ew)
            have hwl := waitL_succ ht4 ht
            rw [hbk] at hwl
            have hlen := callsUp_len l k
            have hale := asksTo_le l k
            have hok2 : ∀ j, j < k + 1 → okAt l j = true := fun j hj => by
              by_cases e : j = k
              · subst e; exact hok1
              · exact hok j (by omega)
            rw [hbk] at k1
            have he : evVP (evAt l k) = .agg #[.int .i64 t, .bool true, .int .i64 (evAt l k).d, .int .i64 (evAt l k).h, .int .i64 (evAt l k).o, .int .i64 (evAt l k).n, .int .i64 (evAt l k).c, .int .i64 (evAt l k).r] := by simp only [evVP, evCellsP, ht, hbk]
            rw [he] at hmB
            rw [ht] at k0
            have HUP := Lib.hid hup
            have HWL := Lib.hid hwl
            have HOK2 := Lib.hid hok2
            have HP2 := Lib.hid hp2
            clear hbad hok hokk hiff hw0 hbk he ht hup hwl hok2 hok1 hp2
            generalize evAt l k = e at k0 k1 k2 k3 k4 k5 k6 k7 hmB HUP
            have t0 : (0 : Int) ≤ t := by omega
            have t1 : (t : Int) < 4 := by omega
            have p0 : (0 : Int) < (p : Int) + ((1 : Nat) : Int) := by omega
            have p1 : (p : Int) < (callsUp l k).length := by omega
            have p2 : (0 : Int) ≤ p := by omega
            go_wp2_with fail
            refine wp_region_later (by kernel_rfl) (by kernel_rfl) ?_
            repeat (go_big_quiet_step ((go_at_call 63; (with_reducible exact later_of _ (hmB _)))))
            refine wpQuiet_nil ?_
            rintro _ ⟨z, rfl⟩
            have hZ := (HC.out.alloc _).later z
            have hfr := hZ.frozen t
            rcases hZ.own.2 with ⟨_, h0⟩ | ⟨g2, cap2, cur2, rfl, hg2, hgb, hgc, _, hcs, _⟩
            · omega
            · have hfg := fun j => World.ownsRow.frozenAt hZ.own j
              have hneg : g2 ≠ w.heap.size := by omega
              have hgt : g2 < wr.heap.size := (World.ownsRow.lt HC.out.own g2 rfl).2
              have HZ := Lib.hid hZ
              have hca : ∀ j, j < 10 → z.at'.cell? ⟨g2, p * 10 + j, Option.none⟩ = (clCells x)[j]? := fun j hj => by
                rw [World.ownsRow.cellAt hZ.own _ (by omega)]
                exact clsCells_at _ p x j HP2.out hj
              have h5 : z.at'.cell? ⟨g2, p * 10 + 5, Option.none⟩ = some (.int .i64 x.c) := hca 5 (by omega)
              have h6 : z.at'.cell? ⟨g2, p * 10 + 6, Option.none⟩ = some (.int .i64 x.r) := hca 6 (by omega)
              have h7 : z.at'.cell? ⟨g2, p * 10 + 7, Option.none⟩ = some (.bool x.done) := hca 7 (by omega)
              have h9 : z.at'.cell? ⟨g2, p * 10 + 9, Option.none⟩ = some (.int .i64 x.to) := hca 9 (by omega)
              have hneg2 : g2 ≠ wr.heap.size := by omega
              clear hZ hgb hcs hca
              go_wp2
              refine ⟨⟨k + 1, by omega, by go_num, HOK2.out, ?_⟩, by simp [intOf]; omega⟩
              rw [HWL.out, HUP.out]
              exact (HZ.out.put (c := e.c) (r := e.r) (to := k) HP2.out).set t (.int .i64 0)
    · have ek : k = l.length := by omega
      subst ek
      have i1 : ¬ (l.length : Int) < l.length := by omega
      have hH : Hist l := hok
      have hL : callsOf l = callsTo l l.length := by unfold callsOf; rw [histE_ok hH, if_pos rfl]
      rw [callsUp_done, ← hL] at hC
      have hhe := histE_ok hH
      have HH := Lib.hid hhe
      clear hhe hH hok hL
      go_wp2
      go_ret2
      exact ⟨_, by rw [HH.out]; rfl, ⟨_, hC.since⟩, rfl, Cls.mono hC.own (by omega)⟩
theorem Calls_nil (p : Option Addr) (c : Nat) (w : World) : Calls Try.prog 36 #[.slice p 0 c] w (ClsRet 72 w [] 0) := by
  go_enter Try.func36, Try.ntmps36
  go_wp2
  refine wp_loop_rounds 1 ?_
  rw [rounds_succ]
  go_wp2
  go_ret2
  exact ⟨_, rfl, ⟨_, (Below.refl _ _).alloc (Nat.le_refl _) _⟩, rfl, Cls.nil _ _ _⟩
theorem Calls_p {p : Option Addr} {cap : Nat} {l : List Ev} {w : World} (hE : EvsP w p l) (hl : l.length ≤ 1000000) : Calls Try.prog 36 #[.slice p l.length cap] w (ClsRet 72 w (callsOf l) (histE l)) := by
  by_cases h : l = []
  · subst h
    rw [histE_nil]
    exact Calls_nil p cap w
  · obtain ⟨b, off, rfl, hE2⟩ := hE h
    exact Calls_any hE2 hl
theorem Check_p {p : Option Addr} {cap : Nat} {l : List Ev} {w : World} (hE : EvsP w p l) (hl : l.length ≤ 1000000) : Calls Try.prog 40 #[.slice p l.length cap] w (Ret w (.int .i64 (histE l))) := by
  have hc := Calls_p (cap := cap) hE hl
  generalize histE l = E at hc ⊢
  generalize callsOf l = C at hc
  go_enter Try.func40, Try.ntmps40
  go_wp2_with (go_at_call 36; (with_reducible refine hc.mono ?_); rintro _ _ ⟨v, rfl, x, rfl, _⟩)
  go_ret
  exact Ret.mk rfl x.below
end Go.Proofs.Ytfjgmggpkljphaa
