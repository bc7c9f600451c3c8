/-
  A whole number from 0 to 2^53 - 1 that is made a float of 64 bits, and cut to an int again, is as it was.
  Conditions: the number is in that range.
-/
import Derived.WalkKit
import Derived.WalkLawsBesides
import Derived.Laws.FloatArith
namespace Go.Proofs.YtfomephgallpmaaDoor
open Go.RowKit

theorem shl_nat (n k : Nat) : n <<< k = n * 2 ^ k := Nat.shiftLeft_eq n k

theorem cut_none (way : Ieee.Toward) (neg : Bool) (n : Nat) : way.cut neg n 0 = n := by
  cases way <;> simp [Ieee.Toward.cut, shl_nat, Nat.mod_one]

theorem dbl_place : Ieee.double.leastPlace = -1074 := by kernel_rfl
theorem dbl_frac : Ieee.double.fractionBits = 52 := rfl
theorem dbl_binade : Ieee.double.binade = 4503599627370496 := by kernel_rfl
theorem dbl_inf : Ieee.double.infRung = 9218868437227405312 := by kernel_rfl
theorem dbl_sign : Ieee.double.signWeight = 9223372036854775808 := by kernel_rfl

/-- A number's digits, the first of them in the highest place of the fraction. -/
theorem digits_bd (N : Nat) (h0 : 0 < N) (h1 : N < 9007199254740992) : N.log2 < 53 ∧ 4503599627370496 ≤ N * 2 ^ (52 - N.log2) ∧ N * 2 ^ (52 - N.log2) < 9007199254740992 := by
  have hL : N.log2 < 53 := (Nat.log2_lt (by omega)).2 h1
  have hlo : 2 ^ N.log2 ≤ N := Nat.log2_self_le (by omega)
  have hhi : N < 2 ^ (N.log2 + 1) := Nat.lt_log2_self
  refine ⟨hL, ?_, ?_⟩
  · have h2 : 2 ^ N.log2 * 2 ^ (52 - N.log2) ≤ N * 2 ^ (52 - N.log2) := Nat.mul_le_mul_right _ hlo
    rw [← Nat.pow_add, show N.log2 + (52 - N.log2) = 52 by omega] at h2
    exact h2
  · have h2 : N * 2 ^ (52 - N.log2) < 2 ^ (N.log2 + 1) * 2 ^ (52 - N.log2) := Nat.mul_lt_mul_of_pos_right hhi (Nat.two_pow_pos _)
    rw [← Nat.pow_add, show N.log2 + 1 + (52 - N.log2) = 53 by omega] at h2
    exact h2

theorem min_rung (L K : Nat) (hL : L < 53) (hK : K < 9007199254740992) : min ((L + 1022) * 4503599627370496 + K) 9218868437227405312 = (L + 1022) * 4503599627370496 + K := by omega

theorem nearest_small (N : Nat) (h0 : 0 < N) (h1 : N < 9007199254740992) :
    Ieee.double.nearest false N 0 = (N.log2 + 1022) * 4503599627370496 + N * 2 ^ (52 - N.log2) := by
  obtain ⟨hL, _, hk⟩ := digits_bd N h0 h1
  unfold Ieee.Format.nearest
  rw [if_neg (Nat.pos_iff_ne_zero.1 h0)]
  have e1 : max ((0 : Int) + (N.log2 : Int) - ((52 : Nat) : Int)) (-1074) = (N.log2 : Int) - 52 := by omega
  have e2 : ((0 : Int) - ((N.log2 : Int) - 52)).toNat = 52 - N.log2 := by omega
  have e3 : ((N.log2 : Int) - 52 - 0).toNat = 0 := by omega
  have e4 : ((N.log2 : Int) - 52 - (-1074)).toNat = N.log2 + 1022 := by omega
  simp only [dbl_frac, dbl_place, e1, e2, e3, e4, cut_none, shl_nat, dbl_binade, dbl_inf, min_rung _ _ hL hk, Ieee.Format.word]
  rw [if_neg Bool.false_ne_true]

theorem read_rung (L K : Nat) (hL : L < 53) (hlo : 4503599627370496 ≤ K) (hK : K < 9007199254740992) :
    Ieee.double.read ((L + 1022) * 4503599627370496 + K) = .number false K ((L : Int) - 52) := by
  unfold Ieee.Format.read
  have d1 : ((L + 1022) * 4503599627370496 + K) / 9223372036854775808 % 2 = 0 := by omega
  have d2 : ((L + 1022) * 4503599627370496 + K) % 9223372036854775808 = (L + 1022) * 4503599627370496 + K := by omega
  have d3 : 4503599627370496 + ((L + 1022) * 4503599627370496 + K) % 4503599627370496 = K := by omega
  have d4 : ((L + 1022) * 4503599627370496 + K) / 4503599627370496 = L + 1023 := by omega
  have d5 : (-1074 : Int) + ((L + 1023 - 1 : Nat) : Int) = (L : Int) - 52 := by omega
  have d6 : ¬ ((L + 1022) * 4503599627370496 + K < 4503599627370496) := by omega
  have d7 : (L + 1022) * 4503599627370496 + K < 9218868437227405312 := by omega
  simp only [dbl_sign, dbl_binade, dbl_inf, dbl_place, d1, d2, d3, d4, d5]
  rw [if_neg d6, if_pos d7]
  rfl

theorem decode_small (N : Nat) (h0 : 0 < N) (h1 : N < 9007199254740992) :
    Ieee.double.read (Ieee.double.nearest false N 0) = .number false (N * 2 ^ (52 - N.log2)) ((N.log2 : Int) - 52) := by
  obtain ⟨hL, hlo, hk⟩ := digits_bd N h0 h1
  rw [nearest_small N h0 h1]
  exact read_rung _ _ hL hlo hk

/-- A whole number made a float, cut to an int again. -/
theorem float_back (n : Int) (h0 : 0 ≤ n) (h1 : n < 9007199254740992) : floatToIntVal .f64 (floatOfInt .f64 n) .i64 = some n := by
  obtain ⟨N, rfl⟩ := Int.eq_ofNat_of_zero_le h0
  have hN : N < 9007199254740992 := by omega
  unfold floatToIntVal floatOfInt FloatKind.nearest FloatKind.encode FloatKind.decode
  show (match Ieee.Datum.toInt .zero (Ieee.double.read (Ieee.double.write (.number (decide ((N : Int) < 0)) (N : Int).natAbs 0))) with | some n => _ | none => _) = _
  have e0 : decide ((N : Int) < 0) = false := by simp
  have e1 : (N : Int).natAbs = N := by omega
  rw [e0, e1]
  show (match Ieee.Datum.toInt .zero (Ieee.double.read (Ieee.double.nearest false N 0)) with | some n => _ | none => _) = _
  have key : Ieee.Datum.toInt .zero (Ieee.double.read (Ieee.double.nearest false N 0)) = some (N : Int) := by
    by_cases hz : N = 0
    · subst hz
      decide
    · have hL : N.log2 < 53 := (Nat.log2_lt (by omega)).2 hN
      rw [decode_small N (by omega) hN]
      unfold Ieee.Datum.toInt Ieee.Datum.integral
      have e2 : ((N.log2 : Int) - 52).toNat = 0 := by omega
      have e3 : (-((N.log2 : Int) - 52)).toNat = 52 - N.log2 := by omega
      simp only [e2, e3]
      have e4 : Ieee.Toward.zero.cut false ((N * 2 ^ (52 - N.log2)) <<< 0) (52 - N.log2) = N := by
        have hK : N * 2 ^ (52 - N.log2) ≠ 0 := by
          have := Nat.two_pow_pos (52 - N.log2)
          exact Nat.mul_ne_zero hz (by omega)
        have hl : 52 - N.log2 ≤ (N * 2 ^ (52 - N.log2)).log2 + 2 := by
          have : 52 - N.log2 ≤ (N * 2 ^ (52 - N.log2)).log2 := (Nat.le_log2 hK).2 (Nat.le_mul_of_pos_left _ (by omega))
          omega
        unfold Ieee.Toward.cut
        simp only [shl_nat, Nat.pow_zero, Nat.mul_one, Nat.one_mul]
        rw [Nat.min_eq_left hl, Nat.mul_div_cancel _ (Nat.two_pow_pos _)]
        simp
      rw [e4]
      simp [Ieee.signed]
  rw [key]
  show (if _ then _ else _) = _
  rw [if_pos]
  constructor
  · show (-9223372036854775808 : Int) ≤ _
    omega
  · show _ ≤ (9223372036854775807 : Int)
    omega
end Go.Proofs.YtfomephgallpmaaDoor
