/-
  Start of package layout over plain cells: what its words are behind it.
  Conditions: that the cells lie in memory as a struct, its words and its bytes; that the package's two fields of heads read as they are laid.
-/
import Derived.Test.YtfomephgallpmaaDoorLayWalks
import Derived.Test.YtfomephgallpmaaDoorPlain
import Derived.Test.YtfomephgallpmaaDoorHeadPack
import Derived.Test.YtfomephgallpmaaDoorPlainFace
import Derived.Deep.RegionHeld3
namespace Go.Proofs.YtfomephgallpmaaDoor
open Go.RowKit
attribute [local go_sem] Later.cell Later.frozen Later.lt Later.le Turned.cell_lo Turned.cell_hi Turned.frozen_lo Turned.frozen_hi Turned.lt Turned.le
set_option linter.unusedVariables false

/-- Plain cells behind the interface. -/
def ifc (A : PAt) : Value := .iface 25 (.pointer (some ⟨A.p, 0, none⟩))

theorem atI_set (l : List Int) (i v x : Int) (h : inI l i = true) : atI (setI l i v) x = if x = i then v else atI l x := by
  rw [setI_in h]
  obtain ⟨h0, h1⟩ := inI_iff.1 h
  unfold atI
  by_cases hx : x = i
  · subst hx
    simp [h0, show x.toNat < l.length by omega]
  · rw [if_neg hx]
    split
    · rename_i hx0
      simp [show ¬ i.toNat = x.toNat by omega]
    · rfl

/-- The links of the last k slots are laid. -/
def faV (t s : Int) (k : Int) (f : Int → Int) (x : Int) : Int :=
  if (x - 6 - t) % 3 = 0 ∧ s - k ≤ (x - 6 - t) / 3 ∧ (x - 6 - t) / 3 < s then (if (x - 6 - t) / 3 + 1 < s then (x - 6 - t) / 3 + 2 else 0) else f x
theorem faV_zero (t s : Int) (f : Int → Int) (x : Int) : faV t s 0 f x = f x := if_neg (by omega)
theorem faV_next {t s k : Int} {f : Int → Int} {x : Int} (h0 : 0 ≤ k) (h1 : k < s) : faV t s (k + 1) f x = if x = 4 + t + (s - 1 - k) * 3 + 2 then (if k = 0 then 0 else s - k + 1) else faV t s k f x := by
  unfold faV
  by_cases hx : x = 4 + t + (s - 1 - k) * 3 + 2
  · rw [if_pos hx, if_pos (by omega)]
    by_cases hk : k = 0
    · rw [if_pos hk, if_neg (by omega)]
    · rw [if_neg hk, if_pos (by omega)]; omega
  · rw [if_neg hx]
    by_cases hc : (x - 6 - t) % 3 = 0 ∧ s - k ≤ (x - 6 - t) / 3 ∧ (x - 6 - t) / 3 < s
    · rw [if_pos hc, if_pos (by omega)]
    · rw [if_neg hc, if_neg (by omega)]

/-- The top that a slot's link is to be. -/
def faTop (s : Int) (k : Nat) : Int := if k = 0 then 0 else s - k + 1
theorem faTop_next (s : Int) (k : Nat) : faTop s (k + 1) = s - 1 - k + 1 := by unfold faTop; rw [if_neg (by omega)]; omega

/-- The relation of freeAll's loop. -/
def FaRel (A : PAt) (w : World) (t s : Int) (ws bs : List Int) (u v : Value) (wr : World) : Prop :=
  ∃ k : Nat, (k : Int) ≤ s ∧ u = .int .i64 (faTop s k) ∧ v = .int .i64 (s - 1 - k) ∧ ∃ x : Turned A.lo A.hi w, wr = x.at' ∧ ∃ ws' n', Mem x.at' A ws' bs n' ∧ ws'.length = ws.length ∧ ∀ y, atI ws' y = faV t s k (atI ws) y

/-- Behind freeAll: the links, and the stack. -/
def lkV (t s : Int) (f : Int → Int) (y : Int) : Int := if y = 1 then 1 else faV t s s f y

/-- What a call answers that may turn the words of plain cells so that they tell g. -/
def WRet (A : PAt) (w : World) (v : Value) (len : Nat) (g : Int → Int) (bs : List Int) (e : Ending) (w' : World) : Prop :=
  e = .returned v ∧ ∃ x : Turned A.lo A.hi w, w' = x.at' ∧ ∃ ws' n', Mem x.at' A ws' bs n' ∧ ws'.length = len ∧ ∀ y, atI ws' y = g y

theorem HasHead.touch {lo hi : Nat} {w w' : World} (h : HasHead w) (t : Touch lo hi w w') (h0 : 1 < lo) (h1 : 2 < lo) : HasHead w' :=
  ⟨Nat.lt_of_lt_of_le h.lt0 t.size, Nat.lt_of_lt_of_le h.lt1 t.size, (t.cell _ _ _ h.lt0 (Or.inl h0)).trans h.c0, (t.cell _ _ _ h.lt0 (Or.inl h0)).trans h.c1, (t.cell _ _ _ h.lt1 (Or.inl h1)).trans h.c2, (t.cell _ _ _ h.lt1 (Or.inl h1)).trans h.c3⟩
theorem Pack_one (w : World) (hF : HasHead w) : Calls Tryd.prog 50 #[.int .i64 1, .int .i64 0] w (Ret w (.tuple #[.int .i64 1, .int .i64 0])) := by
  have h := HdPack_any 1 0 w hF
  have e1 : hpV 1 0 = 1 := by decide +kernel
  have e2 : hpE 1 0 = 0 := by decide +kernel
  rw [e1, e2] at h
  exact h

theorem freeAll_any (t s : Int) (A : PAt) (ws bs : List Int) (n : Int) (w : World) (hF : HasHead w) (g0 : 1 < A.lo) (g1 : 2 < A.lo) (hM : Mem w A ws bs n) (h0 : 1 ≤ t) (h1 : t ≤ 4) (h2 : 1 ≤ s) (h3 : s ≤ 64) (hl : wordsN t s ≤ ws.length) :
    Calls Tryd.prog 32 #[.agg #[.int .i64 t, .int .i64 s], .iface 25 (.pointer (some ⟨A.p, 0, none⟩))] w (WRet A w (.tuple #[]) ws.length (lkV t s (atI ws)) bs) := by
  unfold wordsN at hl
  have hs := hM.hs
  have hns := nil_Store
  have hms := met_Store
  go_enter Tryd.func32, Tryd.ntmps32
  go_wp2_with fail
  go_loopw [4, 5] (fun u v wr => FaRel A (w.alloc (.cells #[.int .i64 t, .int .i64 s] 63)) t s ws bs u v wr) (fun _ v _ => (intOf v + 1).toNat)
  case atStart => exact ⟨0, by omega, rfl, by simp, Turned.none _ _ _, rfl, ws, n, hM.alloc _, rfl, fun y => (faV_zero t s _ y).symm⟩
  case round =>
    obtain ⟨k, hk, rfl, rfl, x, rfl, ws', n', hM', hlen, hat⟩ := hrel
    have HL := Lib.hid hlen
    have HA := Lib.hid hat
    have hc0 : x.at'.cell? ⟨w.heap.size, 0, none⟩ = some (.int .i64 t) := by rw [x.cell_hi _ _ _ (by simp) (by omega)]; simp
    have hc1 : x.at'.cell? ⟨w.heap.size, 1, none⟩ = some (.int .i64 s) := by rw [x.cell_hi _ _ _ (by simp) (by omega)]; simp
    have hlt : w.heap.size < x.at'.drew.heap.size := x.lt _ (by simp)
    have hd0 : x.at'.drew.cell? ⟨w.heap.size, 0, none⟩ = some (.int .i64 t) := hc0
    have hd1 : x.at'.drew.cell? ⟨w.heap.size, 1, none⟩ = some (.int .i64 s) := hc1
    clear hlen hat
    by_cases hks : (k : Int) < s
    · have hin : inI ws' (4 + t + (s - 1 - k) * 3 + 2) = true := inI_iff.2 (by rw [HL.out]; omega)
      have hlk := fun W => LLink_any (t := t) (s := s) (by omega) h1 (by omega) h3 (s - 1 - k) W
      have ep : partN t s (s - 1 - k) 2 = 4 + t + (s - 1 - k) * 3 + 2 := partN_in (by omega)
      rw [ep] at hlk
      have hst := fun (W : World) (h : Mem W A ws' bs n') => Store_any (4 + t + (s - 1 - k) * 3 + 2) (faTop s k) h
      generalize hpl : 4 + t + (s - 1 - (k : Int)) * 3 + 2 = pl at hlk hst hin
      have HP := Lib.hid hpl
      generalize htp : faTop s k = tp at hst ⊢
      have HT := Lib.hid htp
      have HI := Lib.hid hin
      clear hpl htp ep hin
      go_wp2_with fail
      go_region_held3 (fun w' => w'.cell? ⟨w.heap.size, 0, none⟩ = some (.int .i64 t) ∧ w'.cell? ⟨w.heap.size, 1, none⟩ = some (.int .i64 s)) (first | exact ⟨hc0, hc1⟩ | exact ⟨(Later.cell _ _ _ _ hlt).trans hd0, (Later.cell _ _ _ _ hlt).trans hd1⟩ | exact ⟨(Turned.cell_hi _ _ _ _ (Later.lt _ _ hlt) hs).trans ((Later.cell _ _ _ _ hlt).trans hd0), (Turned.cell_hi _ _ _ _ (Later.lt _ _ hlt) hs).trans ((Later.cell _ _ _ _ hlt).trans hd1)⟩) (first
        | (go_at_call 49; refine (hlk _).mono ?_; rintro _ _ ⟨rfl, y, rfl⟩)
        | (go_at_call 117; refine (hst _ (hM'.drew.later y)).mono ?_; rintro _ _ ⟨rfl, z, rfl, hM2⟩))
      all_goals
        go_wp2
        go_roundw
        case rel =>
          refine ⟨k + 1, by omega, ?_, by go_num, ⟨z.at', ((x.turn.drew).trans (Touch.of_below y.below)).trans z.turn⟩, rfl, setI ws' pl tp, _, hM2, by rw [setI_length]; exact HL.out, fun q => ?_⟩
          · rw [faTop_next]
          · rw [atI_set _ _ _ _ HI.out, HA.out, ← HT.out, ← HP.out]
            have := faV_next (t := t) (s := s) (k := k) (f := atI ws) (x := q) (by omega) hks
            rw [Int.natCast_add, Int.natCast_one, this]
            unfold faTop
            split
            · split
              · rw [if_pos (by omega)]
              · rw [if_neg (by omega)]
            · rfl
        case measure => simp [intOf]; omega
    · have ek : (k : Int) = s := by omega
      have et : faTop s k = 1 := by unfold faTop; rw [if_neg (by omega)]; omega
      rw [et]
      have hF' : HasHead x.at' := (hF.below ((Below.refl _ _).alloc (Nat.le_refl _) _)).touch x.turn g0 g1
      have hin : inI ws' 1 = true := inI_iff.2 (by rw [HL.out]; omega)
      have HI := Lib.hid hin
      have EK := Lib.hid ek
      have hsk := fun W => LStack_ok (t := t) (s := s) h0 W
      have hst := fun (W : World) (h : Mem W A ws' bs n') => Store_any 1 1 h
      have hge : ¬ (k : Int) ≤ s - 1 := by omega
      clear et ek hin hk hks hd0 hd1 hlt
      have hlt : w.heap.size < x.at'.heap.size := x.lt _ (by simp)
      go_wp2_with (go_at_call 50; refine (Pack_one _ hF').mono ?_; rintro _ _ ⟨rfl, x2, rfl⟩)
      have hz : w.heap.size < x2.at'.heap.size := x2.lt _ hlt
      have he0 : x2.at'.cell? ⟨w.heap.size, 0, none⟩ = some (.int .i64 t) := (x2.cell _ _ _ hlt).trans hc0
      have he1 : x2.at'.cell? ⟨w.heap.size, 1, none⟩ = some (.int .i64 s) := (x2.cell _ _ _ hlt).trans hc1
      have hzd : w.heap.size < x2.at'.drew.heap.size := hz
      have hd0 : x2.at'.drew.cell? ⟨w.heap.size, 0, none⟩ = some (.int .i64 t) := he0
      have hd1 : x2.at'.drew.cell? ⟨w.heap.size, 1, none⟩ = some (.int .i64 s) := he1
      clear hc0 hc1 hlt
      go_region_held3 (fun w' => w'.cell? ⟨w.heap.size, 0, none⟩ = some (.int .i64 t) ∧ w'.cell? ⟨w.heap.size, 1, none⟩ = some (.int .i64 s)) (first | exact ⟨he0, he1⟩ | exact ⟨(Later.cell _ _ _ _ hzd).trans hd0, (Later.cell _ _ _ _ hzd).trans hd1⟩ | exact ⟨(Turned.cell_hi _ _ _ _ (Later.lt _ _ hzd) hs).trans ((Later.cell _ _ _ _ hzd).trans hd0), (Turned.cell_hi _ _ _ _ (Later.lt _ _ hzd) hs).trans ((Later.cell _ _ _ _ hzd).trans hd1)⟩) (first
        | (go_at_call 51; refine (hsk _).mono ?_; rintro _ _ ⟨rfl, y, rfl⟩)
        | (go_at_call 117; refine (hst _ ((hM'.later x2).drew.later y)).mono ?_; rintro _ _ ⟨rfl, z, rfl, hM2⟩))
      all_goals
        go_wp2
        go_end0
        refine ⟨rfl, ⟨z.at', (((((Touch.refl _ _ _).alloc _).trans x.turn).trans (Touch.of_below x2.below)).drew.trans (Touch.of_below y.below)).trans z.turn⟩, rfl, _, _, hM2, by rw [setI_length]; exact HL.out, fun q => ?_⟩
        rw [atI_set _ _ _ _ HI.out, HA.out, EK.out]
        rfl
end Go.Proofs.YtfomephgallpmaaDoor
