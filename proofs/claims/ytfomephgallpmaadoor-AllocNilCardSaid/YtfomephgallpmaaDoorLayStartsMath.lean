/-
  Contracts over plain cells met in later worlds; what a Start's words are, place by place.
  Conditions: none; plain lemmas.
-/
import Derived.Test.YtfomephgallpmaaDoorLayRefStart
import Derived.Test.YtfomephgallpmaaDoorLayGo
namespace Go.Proofs.YtfomephgallpmaaDoor
open Go.RowKit
set_option linter.unusedVariables false

theorem wret_of {P : Program} {f : FuncId} {args : Array Value} {A : PAt} {w : World} {v : Value} {len : Nat} {g : Int → Int} {bs : List Int} (x : Turned A.lo A.hi w) (h : Calls P f args x.at' (WRet A x.at' v len g bs)) :
    Calls P f args x.at' (WRet A w v len g bs) :=
  h.mono fun _ _ ⟨he, y, hy, r⟩ => ⟨he, x.on y.turn, hy, r⟩
theorem HasHead.turned {lo hi : Nat} {w : World} (h : HasHead w) (x : Turned lo hi w) (h0 : 1 < lo) (h1 : 2 < lo) : HasHead x.at' := h.touch x.turn h0 h1

/-- A contract that turns nothing, met where plain cells lie. -/
theorem tmem_of {P : Program} {f : FuncId} {args : Array Value} {A : PAt} {w : World} {v : Value} {ws bs : List Int} {n : Int} (x : Turned A.lo A.hi w) (hm : Mem x.at' A ws bs n) (h : Calls P f args x.at' (Ret x.at' v)) :
    Calls P f args x.at' (PRet A w v ws bs n) :=
  h.mono fun _ _ ⟨he, y, hy⟩ => ⟨he, x.late y, hy, hm.later y⟩

/-- All words of the first k places are j. -/
def jkV (j k y : Int) : Int := if 0 ≤ y ∧ y < k then j else 0
theorem jkV_next {j k y : Int} (h : 0 ≤ k) : jkV j (k + 1) y = if y = k then j else jkV j k y := by
  unfold jkV
  by_cases e : y = k
  · rw [if_pos e, if_pos (by omega)]
  · rw [if_neg e]
    by_cases c : 0 ≤ y ∧ y < k
    · rw [if_pos c, if_pos (by omega)]
    · rw [if_neg c, if_neg (by omega)]
theorem atI_zeros (n : Nat) (y : Int) : atI (List.replicate n 0) y = 0 := by
  unfold atI
  split
  · exact getD_zeros _ _
  · rfl

theorem st_in {t s : Int} {f : Int → Int} (h0 : 1 ≤ t) (h1 : 1 ≤ s) (k : Nat) (hk : (k : Int) < wordsN t s) : stV t s f k = rsF t s k := by
  unfold wordsN at hk
  unfold stV lkV rsF
  by_cases e : (k : Int) = 1
  · rw [if_pos e, if_pos (by omega)]
  · rw [if_neg e, if_neg (by omega)]
    unfold faV rsV zV wordsN
    by_cases c : ((k : Int) - 6 - t) % 3 = 0 ∧ s - s ≤ ((k : Int) - 6 - t) / 3 ∧ ((k : Int) - 6 - t) / 3 < s
    · rw [if_pos c]
      by_cases d : ((k : Int) - 6 - t) / 3 + 1 < s
      · rw [if_pos d, if_pos (by omega)]
      · rw [if_neg d, if_neg (by omega)]
    · rw [if_neg c, if_pos (by omega), if_neg (by omega)]
theorem st_out {t s : Int} {f : Int → Int} (h0 : 1 ≤ t) (h1 : 1 ≤ s) (y : Int) (hy : wordsN t s ≤ y) : stV t s f y = f y := by
  unfold wordsN at hy
  unfold stV lkV
  rw [if_neg (by omega)]
  unfold faV zV wordsN
  rw [if_neg (by omega), if_neg (by omega)]
end Go.Proofs.YtfomephgallpmaaDoor
