/-
  What the document's own Calls answers for layer 8, of events that are a history.
  Conditions: that the events lie in memory.
-/
import Derived.Test.YtfjgmggpkljphaaEvCalls
import Derived.Deep.RegionHeld3
import Derived.OwnWalk
namespace Go.Proofs.Ytfjgmggpkljphaa
open Go.RowKit
attribute [local go_sem] Later.cell Later.frozen Later.lt Later.le
set_option linter.unusedVariables false

/-- The loop's relation: the calls of the first k events. -/
def CaRel (T : TypeId) (w : World) (l : List Ev) (v i : Value) (wr : World) : Prop :=
  ∃ k : Nat, k ≤ l.length ∧ i = .int .i64 k ∧ ∃ y : Later w, wr = y.at' ∧ Cls T y.at' w.heap.size v (callsTo l k)

/-- What a call answers that makes a row of calls, and an error. -/
def ClsRet (T : TypeId) (w : World) (l : List Cl) (e : Int) (en : Ending) (w' : World) : Prop :=
  ∃ v, en = .returned (.tuple #[v, .int .i64 e]) ∧ ∃ y : Later w, w' = y.at' ∧ Cls T y.at' w.heap.size v l


theorem callAt_some {l : List Ev} {k Q : Nat} (h : ansN l k = Q) (hQ : Q < l.length) : callAt l k = ⟨(evAt l k).th, (evAt l k).d, (evAt l k).h, (evAt l k).o, (evAt l k).n, (evAt l Q).c, (evAt l Q).r, true, k, Q⟩ := by
  simp [callAt, h, hQ]
theorem callAt_none {l : List Ev} {k Q : Nat} (h : ansN l k = Q) (hQ : ¬ Q < l.length) : callAt l k = ⟨(evAt l k).th, (evAt l k).d, (evAt l k).h, (evAt l k).o, (evAt l k).n, 0, 0, false, k, Q⟩ := by
  simp [callAt, h, hQ]
theorem asksTo_le (l : List Ev) : ∀ k, (asksTo l k).length ≤ k
  | 0 => Nat.le_refl _
  | k + 1 => by
    have := asksTo_le l k
    show (asksTo l k ++ _).length ≤ _
    rw [List.length_append]
    cases (evAt l k).bk <;> simp <;> omega
theorem unhid {p : Prop} (h : Hid p) : p := h.out
theorem cells_at {w : World} {T : TypeId} {n : Nat} (L : List Value) (hn : n = w.heap.size) : ∀ j u, L[j]? = some u → (w.alloc (.cells L.toArray T)).cell? ((⟨n, 0, none⟩ : Addr).add j) = some u := by
  subst hn
  exact cells_list L
theorem set_size (w : World) (a : Addr) (v : Value) : (w.setCell a v).heap.size = w.heap.size := by simp
theorem World.size_le_of_since {V W : World} (h : Since' V W) : V.heap.size ≤ W.heap.size := Below.size h
/-- Behind the row's growth. -/
theorem Cls.round {T : TypeId} {w W w4 : World} {l : List Cl} {v v' : Value} {x : Cl} (hS : Since' w W) (hown : Cls T W w.heap.size v l) (hg : (W.alloc (.cells (clCells x).toArray T)).grownBy w4 v.ownBlock)
    (hO : w4.ownsRow w.heap.size T 10 v' (l.length + 1) (clsCells l ++ clCells x)) : ∃ y : Later w, w4 = y.at' ∧ Cls T y.at' w.heap.size v' (l ++ [x]) :=
  Cls.grown (V := w) (W := W.alloc (.cells (clCells x).toArray T)) (Since'.alloc hS _) (Cls.alloc hown _) hg hO
set_option maxHeartbeats 4000000 in
theorem rCalls_ok {b off cap : Nat} {l : List Ev} {w : World} (hE : EvsAt w b off l) (hl : l.length ≤ 1000000) (H : Hist l) : Calls Try.prog 37 #[.slice (some ⟨b, off, none⟩) l.length cap] w (ClsRet 70 w (callsTo l l.length) 0) := by
  have hc := rCheck_any (cap := cap) hE hl
  rw [histE_ok H] at hc
  have hb := hE.lt
  obtain ⟨ti, hi, hz0, hz1, hz2⟩ := info_parts info_call
  have HE := Lib.hid hE
  clear hE
  go_enter Try.func37, Try.ntmps37
  go_wp2_with (go_at_call 41; (with_reducible refine hc.mono ?_); rintro _ _ ⟨rfl, x, rfl⟩)
  go_loopw [4, 5] (fun v i wr => CaRel 70 w l v i wr) (fun _ i _ => l.length - (intOf i).toNat)
  case atStart => exact ⟨0, by omega, rfl, x, rfl, Cls.nil _ _ _⟩
  case round =>
    obtain ⟨k, hk, rfl, y, rfl, hown⟩ := hrel
    clear hc
    by_cases hkl : k < l.length
    · have k0 := HE.out.c0 k hkl
      have k1 := HE.out.c1 k hkl
      have k2 := HE.out.c2 k hkl
      have k3 := HE.out.c3 k hkl
      have k4 := HE.out.c4 k hkl
      have k5 := HE.out.c5 k hkl
      have i0 : (0 : Int) ≤ k := by omega
      have i1 : (k : Int) < l.length := by omega
      have hsucc := Lib.hid (callsTo_succ l k)
      cases hbk : (evAt l k).bk
      · rw [hbk] at k1 hsucc
        have hA := fun (W : World) (h : Since' w W) => answer_any (cap := cap) (HE.out.below h) hl k hkl
        have hS0 : Since' w y.at'.drew := y.below.drew
        have hS00 : Since' w y.at' := y.below
        have hSS := evS HE.out hkl hS0
        generalize hcell : callAt l k = C at hsucc
        have HCC := Lib.hid hcell
        clear hcell k0 k2 k3 k4 k5
        go_wp2_with fail
        go_region_held3 (fun w' => w'.cell? ⟨b, off + k * 8, none⟩ = some (.int .i64 (evAt l k).th) ∧ w'.cell? ⟨b, off + k * 8 + 2, none⟩ = some (.int .i64 (evAt l k).d) ∧ w'.cell? ⟨b, off + k * 8 + 3, none⟩ = some (.int .i64 (evAt l k).h) ∧
            w'.cell? ⟨b, off + k * 8 + 4, none⟩ = some (.int .i64 (evAt l k).o) ∧ w'.cell? ⟨b, off + k * 8 + 5, none⟩ = some (.int .i64 (evAt l k).n) ∧ Since' w w')
          (first | (with_reducible exact hSS) | (with_reducible assumption) | (with_reducible exact evS HE.out hkl (since_put10 hS0 _)) | (with_reducible exact evS HE.out hkl (Since'.later (sinceOf ‹_ ∧ _›) _)) | (with_reducible exact evS HE.out hkl (Since'.alloc (sinceOf ‹_ ∧ _›) _)) | (with_reducible exact evS HE.out hkl (Since'.alloc (Since'.later hS0 _) _))) (first
          | (go_at_call 64; (with_reducible refine (hA _ (sinceOf ‹_ ∧ _›)).mono ?_); rintro _ _ ⟨rfl, x, rfl⟩))
        · have hM := Mid.mk1 (T := 70) (W := x.at') [.int .i64 (evAt l k).th, .int .i64 (evAt l k).d, .int .i64 (evAt l k).h, .int .i64 (evAt l k).o, .int .i64 (evAt l k).n, .int .i64 0, .int .i64 0, .bool false, .int .i64 k, .int .i64 (ansN l k)] (Since'.later hS0 x) (Cls.later (w := y.at'.drew) hown x)
          revert hM
          clear hS0 hS00 hSS hA
          generalize x.at'.alloc (.cells (List.toArray [.int .i64 (evAt l k).th, .int .i64 (evAt l k).d, .int .i64 (evAt l k).h, .int .i64 (evAt l k).o, .int .i64 (evAt l k).n, .int .i64 0, .int .i64 0, .bool false, .int .i64 k, .int .i64 (ansN l k)]) 70) = W8
          generalize x.at'.heap.size = g
          intro hM
          have hbg : b ≠ g := by have := hM.lo; omega
          have HM := Lib.hid hM
          have hMs := hM.since
          have e6 := fun (hA : ansN l k < l.length) => (HE.out.below hMs).c6 (ansN l k) hA
          have e7 := fun (hA : ansN l k < l.length) => (HE.out.below hMs).c7 (ansN l k) hA
          have m0 := hM.cell 0
          have m1 := hM.cell 1
          have m2 := hM.cell 2
          have m3 := hM.cell 3
          have m4 := hM.cell 4
          have m5 := hM.cell 5
          have m6 := hM.cell 6
          have m7 := hM.cell 7
          have m8 := hM.cell 8
          have m9 := hM.cell 9
          have f5 := hM.frozen 5
          have f6 := hM.frozen 6
          have f7 := hM.frozen 7
          simp only [List.getElem?_cons_zero, List.getElem?_cons_succ] at m0 m1 m2 m3 m4 m5 m6 m7 m8 m9
          clear hM hMs hown
          generalize hAA : ansN l k = Q at *
          by_cases hQ : Q < l.length
          · have e6' := e6 hQ
            have e7' := e7 hQ
            have hQ' : (Q : Int) < l.length := by omega
            clear e6 e7
            have hM9 := (((HM.out.set 7 (.bool true)).set 5 (.int .i64 (evAt l Q).c)).set 6 (.int .i64 (evAt l Q).r))
            have hkk : (callsTo l k).length ≤ k := by rw [callsTo_len]; exact asksTo_le l k
            go_wp2_with (at_builtin; refine unhid ?_)
            refine Lib.hid ?_
            refine wpList_append_own _ rfl (.tmp 49) (.tmp 51) 61 rfl w.heap.size 70 ti _ 10 80 Try.underlying61 hi hz0 hz1 hz2 rfl (by decide) _ _ _ rfl (Cls.alloc hM9.own _) ⟨W8.heap.size, 0, none⟩ 1 1 (clCells ⟨(evAt l k).th, (evAt l k).d, (evAt l k).h, (evAt l k).o, (evAt l k).n, (evAt l Q).c, (evAt l Q).r, true, (k : Int), (Q : Int)⟩) rfl rfl (cells_at (clCells ⟨(evAt l k).th, (evAt l k).d, (evAt l k).h, (evAt l k).o, (evAt l k).n, (evAt l Q).c, (evAt l Q).r, true, (k : Int), (Q : Int)⟩) (by rw [set_size, set_size, set_size])) (clCells_one _) (by unfold maxLen; omega) (by omega) (World.size_le_of_since (Since'.alloc hM9.since _)) ?_
            intro v' w4 hO hg _
            obtain ⟨y9, rfl, hO9⟩ := Cls.round (x := ⟨(evAt l k).th, (evAt l k).d, (evAt l k).h, (evAt l k).o, (evAt l k).n, (evAt l Q).c, (evAt l Q).r, true, (k : Int), (Q : Int)⟩) hM9.since hM9.own hg hO
            clear hg hO hM9 m0 m1 m2 m3 m4 m5 m6 m7 m8 m9 f5 f6 f7
            go_wp2
            go_roundw
            case rel => exact ⟨k + 1, by omega, by go_num, y9, rfl, by rw [hsucc.out, ← HCC.out, callAt_some hAA hQ]; exact hO9⟩
            case measure => simp [intOf]; omega
          · have hQ' : ¬ (Q : Int) < l.length := by omega
            clear e6 e7
            have hM9 := HM.out
            have hkk : (callsTo l k).length ≤ k := by rw [callsTo_len]; exact asksTo_le l k
            go_wp2_with (at_builtin; refine unhid ?_)
            refine Lib.hid ?_
            refine wpList_append_own _ rfl (.tmp 49) (.tmp 51) 61 rfl w.heap.size 70 ti _ 10 80 Try.underlying61 hi hz0 hz1 hz2 rfl (by decide) _ _ _ rfl (Cls.alloc hM9.own _) ⟨W8.heap.size, 0, none⟩ 1 1 (clCells ⟨(evAt l k).th, (evAt l k).d, (evAt l k).h, (evAt l k).o, (evAt l k).n, 0, 0, false, (k : Int), (Q : Int)⟩) rfl rfl (cells_at (clCells ⟨(evAt l k).th, (evAt l k).d, (evAt l k).h, (evAt l k).o, (evAt l k).n, 0, 0, false, (k : Int), (Q : Int)⟩) rfl) (clCells_one _) (by unfold maxLen; omega) (by omega) (World.size_le_of_since (Since'.alloc hM9.since _)) ?_
            intro v' w4 hO hg _
            obtain ⟨y9, rfl, hO9⟩ := Cls.round (x := ⟨(evAt l k).th, (evAt l k).d, (evAt l k).h, (evAt l k).o, (evAt l k).n, 0, 0, false, (k : Int), (Q : Int)⟩) hM9.since hM9.own hg hO
            clear hg hO hM9 m0 m1 m2 m3 m4 m5 m6 m7 m8 m9 f5 f6 f7
            go_wp2
            go_roundw
            case rel => exact ⟨k + 1, by omega, by go_num, y9, rfl, by rw [hsucc.out, ← HCC.out, callAt_none hAA hQ]; exact hO9⟩
            case measure => simp [intOf]; omega
        · obtain ⟨y2, hy2⟩ := put10 (V := y.at') (T := 70) (c0 := .int .i64 0) (c1 := .int .i64 0) (c2 := .int .i64 0) (c3 := .int .i64 0) (c4 := .int .i64 0) (c5 := .int .i64 0) (c6 := .int .i64 0) (c7 := .bool false) (c8 := .int .i64 0) (c9 := .int .i64 0) (v0 := .int .i64 (evAt l k).th) (v1 := .int .i64 (evAt l k).d) (v2 := .int .i64 (evAt l k).h) (v3 := .int .i64 (evAt l k).o) (v4 := .int .i64 (evAt l k).n) (v5 := .int .i64 0) (v6 := .int .i64 0) (v7 := .bool false) (v8 := .int .i64 k) (v9 := .int .i64 (ansN l k)) ⟨x.at', (Below.refl _ _).drew.trans x.below⟩
          rw [hy2]
          have hM := (Mid.mk1 (T := 70) (W := y.at') [.int .i64 (evAt l k).th, .int .i64 (evAt l k).d, .int .i64 (evAt l k).h, .int .i64 (evAt l k).o, .int .i64 (evAt l k).n, .int .i64 0, .int .i64 0, .bool false, .int .i64 k, .int .i64 (ansN l k)] hS00 hown).later y2
          revert hM
          clear hS0 hS00 hSS hA
          generalize y2.at' = W8
          generalize y.at'.heap.size = g
          intro hM
          have hbg : b ≠ g := by have := hM.lo; omega
          have HM := Lib.hid hM
          have hMs := hM.since
          have e6 := fun (hA : ansN l k < l.length) => (HE.out.below hMs).c6 (ansN l k) hA
          have e7 := fun (hA : ansN l k < l.length) => (HE.out.below hMs).c7 (ansN l k) hA
          have m0 := hM.cell 0
          have m1 := hM.cell 1
          have m2 := hM.cell 2
          have m3 := hM.cell 3
          have m4 := hM.cell 4
          have m5 := hM.cell 5
          have m6 := hM.cell 6
          have m7 := hM.cell 7
          have m8 := hM.cell 8
          have m9 := hM.cell 9
          have f5 := hM.frozen 5
          have f6 := hM.frozen 6
          have f7 := hM.frozen 7
          simp only [List.getElem?_cons_zero, List.getElem?_cons_succ] at m0 m1 m2 m3 m4 m5 m6 m7 m8 m9
          clear hM hMs hown
          generalize hAA : ansN l k = Q at *
          by_cases hQ : Q < l.length
          · have e6' := e6 hQ
            have e7' := e7 hQ
            have hQ' : (Q : Int) < l.length := by omega
            clear e6 e7
            have hM9 := (((HM.out.set 7 (.bool true)).set 5 (.int .i64 (evAt l Q).c)).set 6 (.int .i64 (evAt l Q).r))
            have hkk : (callsTo l k).length ≤ k := by rw [callsTo_len]; exact asksTo_le l k
            go_wp2_with (at_builtin; refine unhid ?_)
            refine Lib.hid ?_
            refine wpList_append_own _ rfl (.tmp 49) (.tmp 51) 61 rfl w.heap.size 70 ti _ 10 80 Try.underlying61 hi hz0 hz1 hz2 rfl (by decide) _ _ _ rfl (Cls.alloc hM9.own _) ⟨W8.heap.size, 0, none⟩ 1 1 (clCells ⟨(evAt l k).th, (evAt l k).d, (evAt l k).h, (evAt l k).o, (evAt l k).n, (evAt l Q).c, (evAt l Q).r, true, (k : Int), (Q : Int)⟩) rfl rfl (cells_at (clCells ⟨(evAt l k).th, (evAt l k).d, (evAt l k).h, (evAt l k).o, (evAt l k).n, (evAt l Q).c, (evAt l Q).r, true, (k : Int), (Q : Int)⟩) (by rw [set_size, set_size, set_size])) (clCells_one _) (by unfold maxLen; omega) (by omega) (World.size_le_of_since (Since'.alloc hM9.since _)) ?_
            intro v' w4 hO hg _
            obtain ⟨y9, rfl, hO9⟩ := Cls.round (x := ⟨(evAt l k).th, (evAt l k).d, (evAt l k).h, (evAt l k).o, (evAt l k).n, (evAt l Q).c, (evAt l Q).r, true, (k : Int), (Q : Int)⟩) hM9.since hM9.own hg hO
            clear hg hO hM9 m0 m1 m2 m3 m4 m5 m6 m7 m8 m9 f5 f6 f7
            go_wp2
            go_roundw
            case rel => exact ⟨k + 1, by omega, by go_num, y9, rfl, by rw [hsucc.out, ← HCC.out, callAt_some hAA hQ]; exact hO9⟩
            case measure => simp [intOf]; omega
          · have hQ' : ¬ (Q : Int) < l.length := by omega
            clear e6 e7
            have hM9 := HM.out
            have hkk : (callsTo l k).length ≤ k := by rw [callsTo_len]; exact asksTo_le l k
            go_wp2_with (at_builtin; refine unhid ?_)
            refine Lib.hid ?_
            refine wpList_append_own _ rfl (.tmp 49) (.tmp 51) 61 rfl w.heap.size 70 ti _ 10 80 Try.underlying61 hi hz0 hz1 hz2 rfl (by decide) _ _ _ rfl (Cls.alloc hM9.own _) ⟨W8.heap.size, 0, none⟩ 1 1 (clCells ⟨(evAt l k).th, (evAt l k).d, (evAt l k).h, (evAt l k).o, (evAt l k).n, 0, 0, false, (k : Int), (Q : Int)⟩) rfl rfl (cells_at (clCells ⟨(evAt l k).th, (evAt l k).d, (evAt l k).h, (evAt l k).o, (evAt l k).n, 0, 0, false, (k : Int), (Q : Int)⟩) rfl) (clCells_one _) (by unfold maxLen; omega) (by omega) (World.size_le_of_since (Since'.alloc hM9.since _)) ?_
            intro v' w4 hO hg _
            obtain ⟨y9, rfl, hO9⟩ := Cls.round (x := ⟨(evAt l k).th, (evAt l k).d, (evAt l k).h, (evAt l k).o, (evAt l k).n, 0, 0, false, (k : Int), (Q : Int)⟩) hM9.since hM9.own hg hO
            clear hg hO hM9 m0 m1 m2 m3 m4 m5 m6 m7 m8 m9 f5 f6 f7
            go_wp2
            go_roundw
            case rel => exact ⟨k + 1, by omega, by go_num, y9, rfl, by rw [hsucc.out, ← HCC.out, callAt_none hAA hQ]; exact hO9⟩
            case measure => simp [intOf]; omega
      · rw [hbk] at k1 hsucc
        clear hbk k0 k2 k3 k4 k5
        go_wp2
        go_roundw
        case rel => exact ⟨k + 1, by omega, by go_num, y, rfl, by rw [hsucc.out]; simpa using hown⟩
        case measure => simp [intOf]; omega
    · have ek : k = l.length := by omega
      subst ek
      have i1 : ¬ (l.length : Int) < l.length := by omega
      go_wp2
      go_ret2
      exact ⟨_, rfl, y, rfl, hown⟩
end Go.Proofs.Ytfjgmggpkljphaa
