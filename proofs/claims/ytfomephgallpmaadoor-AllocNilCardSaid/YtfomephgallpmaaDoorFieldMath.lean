/-
  The plain arithmetic of fields of bits: what a field of a word is, what the word is with another number in it, and that other fields are as they were.
  Conditions: none; statements over whole numbers.
-/
import Derived.WalkKit
import Derived.Laws.BitsAllLaws
import Derived.Laws.BitsLemmas
namespace Go.Proofs.YtfomephgallpmaaDoor
open Go.RowKit

def isw (x : Int) : Bool := decide (0 ≤ x ∧ x ≤ 4611686018427387903)
def fok (a b : Int) : Bool := decide (1 ≤ b ∧ b ≤ 32 ∧ 0 ≤ a ∧ a ≤ 62 - b)
/-- Two to the power of n. -/
def tw (n : Int) : Int := 2 ^ n.toNat
/-- The number in a word's field. -/
def fget (x a b : Int) : Int := x / tw a % tw b
/-- The word with that field n. -/
def fput (x a b n : Int) : Int := x - fget x a b * tw a + n * tw a

theorem isw_true {x : Int} (h0 : 0 ≤ x) (h1 : x ≤ 4611686018427387903) : isw x = true := by simp [isw, h0, h1]
theorem isw_of {x : Int} (h : isw x = true) : 0 ≤ x ∧ x ≤ 4611686018427387903 := by simpa [isw] using h
theorem isw_false {x : Int} (h : x < 0 ∨ 4611686018427387903 < x) : isw x = false := by simp [isw]; omega
theorem fok_true {a b : Int} (h1 : 1 ≤ b) (h2 : b ≤ 32) (h3 : 0 ≤ a) (h4 : a ≤ 62 - b) : fok a b = true := by simp [fok, h1, h2, h3, h4]
theorem fok_of {a b : Int} (h : fok a b = true) : 1 ≤ b ∧ b ≤ 32 ∧ 0 ≤ a ∧ a ≤ 62 - b := by simpa [fok] using h
theorem fok_false {a b : Int} (h : ¬ (1 ≤ b ∧ b ≤ 32 ∧ 0 ≤ a ∧ a ≤ 62 - b)) : fok a b = false := by simpa [fok] using h

theorem tw_pos (n : Int) : 1 ≤ tw n := by
  unfold tw
  have : (0 : Int) < 2 ^ n.toNat := Int.pow_pos (by decide)
  omega
theorem tw_nat (n : Nat) : tw (n : Int) = ((2 ^ n : Nat) : Int) := by simp [tw]
theorem tw_le {n m : Int} (h : n ≤ m) : tw n ≤ tw m := by
  have h1 : ((2 ^ n.toNat : Nat) : Int) ≤ ((2 ^ m.toNat : Nat) : Int) := by
    have := Nat.pow_le_pow_right (n := 2) (by decide) (show n.toNat ≤ m.toNat by omega)
    omega
  simpa [tw] using h1
theorem tw_add {n m : Int} (h : 0 ≤ n) (k : 0 ≤ m) : tw (n + m) = tw n * tw m := by
  unfold tw
  rw [show (n + m).toNat = n.toNat + m.toNat by omega, Int.pow_add]
theorem tw_succ {n : Int} (h : 0 ≤ n) : tw (n + 1) = tw n * 2 := by rw [tw_add h (by decide)]; rfl
theorem ediv2 (a c : Int) {b : Int} (h : 0 < b) : a / b / c = a / (b * c) := by
  rw [Int.ediv_ediv, if_neg (by omega)]
  omega
theorem tw_32 : tw 32 = 4294967296 := by decide
theorem tw_62 : tw 62 = 4611686018427387904 := by decide
theorem tw_b {b : Int} (h : b ≤ 32) : 1 ≤ tw b ∧ tw b ≤ 4294967296 := ⟨tw_pos b, by rw [← tw_32]; exact tw_le h⟩
theorem tw_a {b : Int} (h : b ≤ 62) : 1 ≤ tw b ∧ tw b ≤ 4611686018427387904 := ⟨tw_pos b, by rw [← tw_62]; exact tw_le h⟩

theorem i64_wrap_id {n : Int} (h : -9223372036854775808 ≤ n) (h' : n ≤ 9223372036854775807) : wrap64 n = n := IntWalk.wrap64_in n ⟨h, h'⟩

theorem tw_most {b : Int} (h2 : b ≤ 62) : wrap64 (wrap64 (2 ^ b.toNat) - 1) = tw b - 1 := by
  have h := tw_a h2
  show wrap64 (wrap64 (tw b) - 1) = tw b - 1
  rw [i64_wrap_id (n := tw b) (by omega) (by omega), i64_wrap_id (by omega) (by omega)]

/-! ### bits at int -/
theorem ofInt_i64 (a : Nat) (ha : a < 9223372036854775808) : (BitVec.ofInt 64 (a : Int)).toNat = a := by
  rw [BitVec.ofInt_natCast, BitVec.toNat_ofNat]; exact Nat.mod_eq_of_lt (by omega)
theorem i64_and_nat (a b : Nat) (ha : a < 9223372036854775808) (hb : b < 9223372036854775808) : bits .and .i64 (a : Int) (b : Int) = ((a &&& b : Nat) : Int) := by
  have hx : a &&& b < 2 ^ 63 := Nat.and_lt_two_pow _ (by omega)
  show IntKind.i64.wrap ((BitVec.ofInt 64 (a : Int) &&& BitVec.ofInt 64 (b : Int)).toNat : Int) = _
  rw [BitVec.toNat_and, ofInt_i64 a ha, ofInt_i64 b hb, IntKind.wrap_i64]
  omega
theorem i64_or_nat (a b : Nat) (ha : a < 9223372036854775808) (hb : b < 9223372036854775808) : bits .or .i64 (a : Int) (b : Int) = ((a ||| b : Nat) : Int) := by
  have hx : a ||| b < 2 ^ 63 := Nat.or_lt_two_pow (by omega) (by omega)
  show IntKind.i64.wrap ((BitVec.ofInt 64 (a : Int) ||| BitVec.ofInt 64 (b : Int)).toNat : Int) = _
  rw [BitVec.toNat_or, ofInt_i64 a ha, ofInt_i64 b hb, IntKind.wrap_i64]
  omega
theorem i64_andNot_nat (a b : Nat) (ha : a < 9223372036854775808) (hb : b < 9223372036854775808) : bits .andNot .i64 (a : Int) (b : Int) = ((a &&& (2 ^ 64 - (b + 1)) : Nat) : Int) := by
  have hx : a &&& (2 ^ 64 - (b + 1)) < 2 ^ 63 := Nat.lt_of_le_of_lt Nat.and_le_left (by omega)
  show IntKind.i64.wrap ((BitVec.ofInt 64 (a : Int) &&& ~~~BitVec.ofInt 64 (b : Int)).toNat : Int) = _
  rw [BitVec.toNat_and, BitVec.toNat_not, ofInt_i64 a ha, ofInt_i64 b hb, IntKind.wrap_i64]
  have e : 2 ^ 64 - 1 - b = 2 ^ 64 - (b + 1) := by omega
  rw [e]
  omega

/-- The bits of a word's field are the field. -/
theorem and_mask {x a b : Int} (h2 : b ≤ 32) (h5 : 0 ≤ x) (h6 : x ≤ 4611686018427387903) (h1 : 0 ≤ b) (h0 : 0 ≤ a) : bits .and .i64 (x / 2 ^ a.toNat) (tw b - 1) = fget x a b := by
  obtain ⟨X, rfl⟩ := Int.eq_ofNat_of_zero_le h5
  obtain ⟨A, rfl⟩ := Int.eq_ofNat_of_zero_le h0
  obtain ⟨B, rfl⟩ := Int.eq_ofNat_of_zero_le h1
  have hb := tw_b h2
  unfold fget
  rw [tw_nat] at hb ⊢
  have e1 : (X : Int) / 2 ^ (A : Int).toNat = ((X / 2 ^ A : Nat) : Int) := by simp
  have hp : 0 < 2 ^ B := Nat.two_pow_pos B
  have e2 : ((2 ^ B : Nat) : Int) - 1 = ((2 ^ B - 1 : Nat) : Int) := by omega
  have hle : X / 2 ^ A ≤ X := Nat.div_le_self _ _
  rw [e1, e2, i64_and_nat _ _ (by omega) (by omega), Nat.and_two_pow_sub_one_eq_mod, tw_nat]
  simp

theorem nat_put (X A B n : Nat) (hX : X < 2 ^ 62) (hAB : A + B ≤ 62) (hn : n < 2 ^ B) :
    (X &&& (2 ^ 64 - ((2 ^ B - 1) * 2 ^ A + 1))) ||| (n * 2 ^ A) = 2 ^ A * (2 ^ B * (X / 2 ^ (A + B)) + n) + X % 2 ^ A := by
  have hM : (2 ^ B - 1) * 2 ^ A < 2 ^ 64 := by
    have h1 : 2 ^ B * 2 ^ A = 2 ^ (A + B) := by rw [← Nat.pow_add, Nat.add_comm]
    have h2 : 2 ^ (A + B) ≤ 2 ^ 62 := Nat.pow_le_pow_right (by decide) hAB
    have h3 : (2 ^ B - 1) * 2 ^ A ≤ 2 ^ B * 2 ^ A := Nat.mul_le_mul_right _ (Nat.sub_le _ _)
    omega
  apply Nat.eq_of_testBit_eq
  intro i
  have hXi : 62 ≤ i → X.testBit i = false := fun h => Nat.testBit_lt_two_pow (Nat.lt_of_lt_of_le hX (Nat.pow_le_pow_right (by decide) h))
  rw [Nat.testBit_or, Nat.testBit_and, Nat.testBit_two_pow_sub_succ hM, Nat.mul_comm (2 ^ B - 1), Nat.testBit_two_pow_mul, Nat.testBit_two_pow_sub_one, Nat.mul_comm n, Nat.testBit_two_pow_mul,
    Nat.testBit_two_pow_mul_add _ (Nat.mod_lt _ (Nat.two_pow_pos A)), Nat.testBit_mod_two_pow]
  by_cases h1 : i < A
  · have h2 : ¬ A ≤ i := by omega
    have h3 : i < 64 := by omega
    simp [h1, h2, h3]
  · rw [if_neg h1, Nat.testBit_two_pow_mul_add _ hn, Nat.testBit_div_two_pow]
    have h2 : A ≤ i := by omega
    by_cases h3 : i - A < B
    · simp [h2, h3]
    · have e : i - A - B + (A + B) = i := by omega
      rw [if_neg h3, e, Nat.testBit_lt_two_pow (x := n) (i := i - A) (Nat.lt_of_lt_of_le hn (Nat.pow_le_pow_right (by decide) (by omega)))]
      by_cases h4 : i < 64
      · simp [h2, h3, h4]
      · rw [hXi (by omega)]; simp

theorem nat_fput (X A B n : Nat) : 2 ^ A * (2 ^ B * (X / 2 ^ (A + B)) + n) + X % 2 ^ A + X / 2 ^ A % 2 ^ B * 2 ^ A = X + n * 2 ^ A := by
  have e1 : X / 2 ^ (A + B) = X / 2 ^ A / 2 ^ B := by rw [Nat.pow_add, Nat.div_div_eq_div_mul]
  rw [e1]
  have h1 := Nat.div_add_mod X (2 ^ A)
  have h2 := Nat.div_add_mod (X / 2 ^ A) (2 ^ B)
  generalize X / 2 ^ A / 2 ^ B = H at *
  generalize X / 2 ^ A % 2 ^ B = g at *
  generalize X % 2 ^ A = l at *
  generalize X / 2 ^ A = q at *
  subst h2
  rw [← h1, Nat.mul_add, Nat.mul_add, Nat.mul_comm g, Nat.mul_comm n]
  omega

/-- The word's other bits, and the number's bits in their place. -/
theorem or_put {x a b n : Int} (h1 : 1 ≤ b) (h2 : b ≤ 32) (h3 : 0 ≤ a) (h4 : a ≤ 62 - b) (h5 : 0 ≤ x) (h6 : x ≤ 4611686018427387903) (h7 : 0 ≤ n) (h8 : n ≤ tw b - 1) :
    bits .or .i64 (bits .andNot .i64 x (wrap64 ((tw b - 1) * 2 ^ a.toNat))) (wrap64 (n * 2 ^ a.toNat)) = fput x a b n := by
  obtain ⟨X, rfl⟩ := Int.eq_ofNat_of_zero_le h5
  obtain ⟨A, rfl⟩ := Int.eq_ofNat_of_zero_le h3
  obtain ⟨B, rfl⟩ := Int.eq_ofNat_of_zero_le (show 0 ≤ b by omega)
  obtain ⟨N, rfl⟩ := Int.eq_ofNat_of_zero_le h7
  have hp : 0 < 2 ^ B := Nat.two_pow_pos B
  have hpa : 0 < 2 ^ A := Nat.two_pow_pos A
  unfold fput fget
  rw [tw_nat] at h8
  rw [tw_nat, tw_nat]
  have hAB : 2 ^ B * 2 ^ A = 2 ^ (A + B) := by rw [← Nat.pow_add, Nat.add_comm]
  have hle : 2 ^ (A + B) ≤ 2 ^ 62 := Nat.pow_le_pow_right (by decide) (by omega)
  have hM : (2 ^ B - 1) * 2 ^ A < 2 ^ 62 := by
    have h3 : (2 ^ B - 1) * 2 ^ A < 2 ^ B * 2 ^ A := Nat.mul_lt_mul_of_pos_right (by omega) hpa
    omega
  have hN : N * 2 ^ A < 2 ^ 62 := by
    have h3 : N * 2 ^ A < 2 ^ B * 2 ^ A := Nat.mul_lt_mul_of_pos_right (by omega) hpa
    omega
  have e1 : (((2 ^ B : Nat) : Int) - 1) * 2 ^ (A : Int).toNat = (((2 ^ B - 1) * 2 ^ A : Nat) : Int) := by
    rw [Int.natCast_mul, Int.natCast_sub hp]; simp
  have e2 : (N : Int) * 2 ^ (A : Int).toNat = ((N * 2 ^ A : Nat) : Int) := by simp
  rw [e1, e2, i64_wrap_id (by omega) (by omega), i64_wrap_id (by omega) (by omega), i64_andNot_nat _ _ (by omega) (by omega)]
  have hlt : X &&& (2 ^ 64 - ((2 ^ B - 1) * 2 ^ A + 1)) < 9223372036854775808 := Nat.lt_of_le_of_lt Nat.and_le_left (by omega)
  rw [i64_or_nat _ _ hlt (by omega), nat_put X A B N (by omega) (by omega) (by omega)]
  have h := nat_fput X A B N
  have e3 : ((X : Int) / ((2 ^ A : Nat) : Int) % ((2 ^ B : Nat) : Int)) * ((2 ^ A : Nat) : Int) = ((X / 2 ^ A % 2 ^ B * 2 ^ A : Nat) : Int) := by simp
  have e4 : (N : Int) * ((2 ^ A : Nat) : Int) = ((N * 2 ^ A : Nat) : Int) := by simp
  rw [e3, e4]
  omega

/-! ### what a field is -/
theorem fget_bd (x a b : Int) : 0 ≤ fget x a b ∧ fget x a b ≤ tw b - 1 := by
  have h := tw_pos b
  unfold fget
  have h1 := Int.emod_nonneg (x / tw a) (show tw b ≠ 0 by omega)
  have h2 := Int.emod_lt_of_pos (x / tw a) (show 0 < tw b by omega)
  omega

/-- A word in three parts: what is above the field, the field, what is below it. -/
theorem parts (x a b : Int) (h1 : 0 ≤ b) (h3 : 0 ≤ a) : ∃ H L, x = H * tw (a + b) + fget x a b * tw a + L ∧ 0 ≤ L ∧ L < tw a ∧ H = x / tw (a + b) ∧ L = x % tw a := by
  have ha := tw_pos a
  have e1 := Int.emod_add_mul_ediv x (tw a)
  have e2 := Int.emod_add_mul_ediv (x / tw a) (tw b)
  have e3 : x / tw (a + b) = x / tw a / tw b := by rw [tw_add h3 h1, ediv2 _ _ (by omega)]
  refine ⟨x / tw (a + b), x % tw a, ?_, Int.emod_nonneg _ (by omega), Int.emod_lt_of_pos _ (by omega), rfl, rfl⟩
  rw [e3, tw_add h3 h1]
  unfold fget
  generalize x / tw a / tw b = H at *
  generalize x / tw a % tw b = g at *
  generalize x % tw a = L at *
  rw [← e2] at e1
  rw [← e1, Int.mul_add, Int.mul_comm (tw a) g, ← Int.mul_assoc, Int.mul_comm (tw a * tw b) H]
  omega

/-- The word with that field n, in the same three parts. -/
theorem put_parts {x a b n : Int} (h1 : 0 ≤ b) (h3 : 0 ≤ a) (h7 : 0 ≤ n) (h8 : n ≤ tw b - 1) :
    fget (fput x a b n) a b = n ∧ fput x a b n / tw (a + b) = x / tw (a + b) ∧ fput x a b n % tw a = x % tw a := by
  obtain ⟨H, L, hx, hL0, hL1, hH, hLx⟩ := parts x a b h1 h3
  have ha := tw_pos a
  have hb := tw_pos b
  have e : fput x a b n = H * tw (a + b) + n * tw a + L := by unfold fput; omega
  have e' : fput x a b n = L + tw a * (H * tw b + n) := by
    rw [e, tw_add h3 h1, Int.mul_add, Int.mul_comm (tw a) n, ← Int.mul_assoc, ← Int.mul_assoc, Int.mul_comm (tw a) H]
    omega
  have hq : fput x a b n / tw a = H * tw b + n ∧ fput x a b n % tw a = L := (Int.ediv_emod_unique (by omega)).2 ⟨e'.symm, hL0, hL1⟩
  have hr : (H * tw b + n) / tw b = H ∧ (H * tw b + n) % tw b = n := (Int.ediv_emod_unique (by omega)).2 ⟨by rw [Int.mul_comm H]; omega, h7, by omega⟩
  refine ⟨by unfold fget; rw [hq.1]; exact hr.2, ?_, by rw [hq.2, hLx]⟩
  rw [tw_add h3 h1, ← ediv2 _ _ (by omega), hq.1, hr.1, hH, tw_add h3 h1]

theorem fget_fput {x a b n : Int} (h1 : 0 ≤ b) (h3 : 0 ≤ a) (h7 : 0 ≤ n) (h8 : n ≤ tw b - 1) : fget (fput x a b n) a b = n := (put_parts h1 h3 h7 h8).1

theorem fput_bd {x a b n : Int} (h1 : 0 ≤ b) (h3 : 0 ≤ a) (h4 : a ≤ 62 - b) (h5 : 0 ≤ x) (h6 : x ≤ 4611686018427387903) (h7 : 0 ≤ n) (h8 : n ≤ tw b - 1) : 0 ≤ fput x a b n ∧ fput x a b n ≤ 4611686018427387903 := by
  obtain ⟨_, hq, hr⟩ := put_parts (x := x) h1 h3 h7 h8
  have hab := tw_pos (a + b)
  have hc := tw_pos (62 - (a + b))
  have ec : tw (a + b) * tw (62 - (a + b)) = 4611686018427387904 := by
    rw [← tw_add (by omega) (by omega), ← tw_62]
    congr 1
    omega
  have hx : x / tw (a + b) < tw (62 - (a + b)) := Int.ediv_lt_of_lt_mul (by omega) (by rw [Int.mul_comm, ec]; omega)
  have hx0 : 0 ≤ x / tw (a + b) := Int.ediv_nonneg h5 (by omega)
  have h := Int.emod_add_mul_ediv (fput x a b n) (tw (a + b))
  have hm0 := Int.emod_nonneg (fput x a b n) (show tw (a + b) ≠ 0 by omega)
  have hm1 := Int.emod_lt_of_pos (fput x a b n) (show 0 < tw (a + b) by omega)
  rw [hq] at h
  have h9 : 0 ≤ tw (a + b) * (x / tw (a + b)) := Int.mul_nonneg (by omega) hx0
  have h10 : tw (a + b) * (x / tw (a + b)) + tw (a + b) ≤ 4611686018427387904 := by
    have h11 : tw (a + b) * (x / tw (a + b) + 1) ≤ tw (a + b) * tw (62 - (a + b)) := Int.mul_le_mul_of_nonneg_left (by omega) (by omega)
    rw [Int.mul_add, ec] at h11
    omega
  omega

/-- What is put last stands. -/
theorem fput_fput {x a b n m : Int} (h1 : 0 ≤ b) (h3 : 0 ≤ a) (h7 : 0 ≤ n) (h8 : n ≤ tw b - 1) : fput (fput x a b n) a b m = fput x a b m := by
  have e : fget (fput x a b n) a b = n := fget_fput h1 h3 h7 h8
  show fput x a b n - fget (fput x a b n) a b * tw a + m * tw a = _
  rw [e]
  unfold fput
  omega
theorem fput_same (x a b : Int) : fput x a b (fget x a b) = x := by unfold fput; omega

/-- A field below. -/
theorem fget_low {x y a a' b' : Int} (h3' : 0 ≤ a') (h1' : 0 ≤ b') (hd : a' + b' ≤ a) (h : y % tw a = x % tw a) : fget y a' b' = fget x a' b' := by
  have key : ∀ z : Int, fget z a' b' = fget (z % tw a) a' b' := fun z => by
    have ec : tw a = tw a' * (tw b' * tw (a - a' - b')) := by
      rw [← Int.mul_assoc, ← tw_add h3' h1', ← tw_add (by omega) (by omega)]
      congr 1
      omega
    have hz := Int.emod_add_mul_ediv z (tw a)
    have ha' := tw_pos a'
    unfold fget
    have e2 : z = z % tw a + tw a' * (tw b' * (tw (a - a' - b') * (z / tw a))) := by
      have : tw a' * (tw b' * (tw (a - a' - b') * (z / tw a))) = tw a * (z / tw a) := by rw [ec]; simp only [Int.mul_assoc]
      omega
    have e3 : z / tw a' = z % tw a / tw a' + tw b' * (tw (a - a' - b') * (z / tw a)) := by
      conv => lhs; rw [e2]
      exact Int.add_mul_ediv_left _ _ (by omega)
    rw [e3, Int.add_mul_emod_self_left]
  rw [key y, key x, h]

/-- A field above. -/
theorem fget_high {x y c a' b' : Int} (h3 : 0 ≤ c) (hd : c ≤ a') (h : y / tw c = x / tw c) : fget y a' b' = fget x a' b' := by
  have key : ∀ z : Int, z / tw a' = z / tw c / tw (a' - c) := fun z => by
    have hc := tw_pos c
    rw [ediv2 _ _ (by omega), ← tw_add h3 (by omega), show c + (a' - c) = a' by omega]
  unfold fget
  rw [key y, key x, h]

/-- Another field, that shares no bit with it, is as it was. -/
theorem fget_other {x a b n a' b' : Int} (h1 : 0 ≤ b) (h3 : 0 ≤ a) (h7 : 0 ≤ n) (h8 : n ≤ tw b - 1) (h1' : 0 ≤ b') (h3' : 0 ≤ a') (hd : a + b ≤ a' ∨ a' + b' ≤ a) : fget (fput x a b n) a' b' = fget x a' b' := by
  obtain ⟨_, hq, hr⟩ := put_parts (x := x) h1 h3 h7 h8
  rcases hd with hd | hd
  · exact fget_high (by omega) hd hq
  · exact fget_low h3' h1' hd hr

/-! ### what the calls answer -/
def putV (x a b n : Int) : Int := if n < 0 then 0 else if tw b - 1 < n then 0 else fput x a b n
def putE (b n : Int) : Int := if n < 0 then 1 else if tw b - 1 < n then 3 else 0
def addV (x a b n : Int) : Int := if n < -fget x a b then 0 else if tw b - 1 - fget x a b < n then 0 else fput x a b (fget x a b + n)
def addE (x a b n : Int) : Int := if n < -fget x a b then 3 else if tw b - 1 - fget x a b < n then 3 else 0
def topV (x a b n : Int) : Int := if n < -fget x a b then fput x a b 0 else if tw b - 1 - fget x a b < n then fput x a b (tw b - 1) else fput x a b (fget x a b + n)

section
variable {x a b n : Int}
theorem putV_neg (h : n < 0) : putV x a b n = 0 := if_pos h
theorem putV_over (h : 0 ≤ n) (k : tw b - 1 < n) : putV x a b n = 0 := by unfold putV; rw [if_neg (by omega), if_pos k]
theorem putV_ok (h : 0 ≤ n) (k : n ≤ tw b - 1) : putV x a b n = fput x a b n := by unfold putV; rw [if_neg (by omega), if_neg (by omega)]
theorem putE_neg (h : n < 0) : putE b n = 1 := if_pos h
theorem putE_over (h : 0 ≤ n) (k : tw b - 1 < n) : putE b n = 3 := by unfold putE; rw [if_neg (by omega), if_pos k]
theorem putE_ok (h : 0 ≤ n) (k : n ≤ tw b - 1) : putE b n = 0 := by unfold putE; rw [if_neg (by omega), if_neg (by omega)]
theorem addV_low (h : n < -fget x a b) : addV x a b n = 0 := if_pos h
theorem addV_over (h : -fget x a b ≤ n) (k : tw b - 1 - fget x a b < n) : addV x a b n = 0 := by unfold addV; rw [if_neg (by omega), if_pos k]
theorem addV_ok (h : -fget x a b ≤ n) (k : n ≤ tw b - 1 - fget x a b) : addV x a b n = fput x a b (fget x a b + n) := by unfold addV; rw [if_neg (by omega), if_neg (by omega)]
theorem addE_low (h : n < -fget x a b) : addE x a b n = 3 := if_pos h
theorem addE_over (h : -fget x a b ≤ n) (k : tw b - 1 - fget x a b < n) : addE x a b n = 3 := by unfold addE; rw [if_neg (by omega), if_pos k]
theorem addE_ok (h : -fget x a b ≤ n) (k : n ≤ tw b - 1 - fget x a b) : addE x a b n = 0 := by unfold addE; rw [if_neg (by omega), if_neg (by omega)]
theorem topV_low (h : n < -fget x a b) : topV x a b n = fput x a b 0 := if_pos h
theorem topV_over (h : -fget x a b ≤ n) (k : tw b - 1 - fget x a b < n) : topV x a b n = fput x a b (tw b - 1) := by unfold topV; rw [if_neg (by omega), if_pos k]
theorem topV_ok (h : -fget x a b ≤ n) (k : n ≤ tw b - 1 - fget x a b) : topV x a b n = fput x a b (fget x a b + n) := by unfold topV; rw [if_neg (by omega), if_neg (by omega)]
end

def checkF (a b : Int) : Int := if fok a b then 0 else 1
def mostF (a b : Int) : Int := if fok a b then tw b - 1 else -1
def getF (x a b : Int) : Int := if isw x && fok a b then fget x a b else 0
def putFV (x a b n : Int) : Int := if isw x && fok a b then putV x a b n else 0
def putFE (x a b n : Int) : Int := if isw x && fok a b then putE b n else 1
def addFV (x a b n : Int) : Int := if isw x && fok a b then addV x a b n else 0
def addFE (x a b n : Int) : Int := if isw x && fok a b then addE x a b n else 1
def topF (x a b n : Int) : Int := if isw x && fok a b then topV x a b n else 0
def topFE (x a b : Int) : Int := if isw x && fok a b then 0 else 1

section
variable {x a b n : Int}
theorem both (h : isw x = true) (k : fok a b = true) : (isw x && fok a b) = true := by rw [h, k]; rfl
theorem nboth (h : isw x = false ∨ fok a b = false) : ¬ (isw x && fok a b) = true := by rcases h with h | h <;> rw [h] <;> simp
theorem checkF_ok (k : fok a b = true) : checkF a b = 0 := if_pos k
theorem checkF_bad (k : fok a b = false) : checkF a b = 1 := if_neg (by rw [k]; decide)
theorem mostF_ok (k : fok a b = true) : mostF a b = tw b - 1 := if_pos k
theorem mostF_bad (k : fok a b = false) : mostF a b = -1 := if_neg (by rw [k]; decide)
theorem getF_both (h : isw x = true) (k : fok a b = true) : getF x a b = fget x a b := if_pos (both h k)
theorem getF_bad (h : isw x = false ∨ fok a b = false) : getF x a b = 0 := if_neg (nboth h)
theorem putV_both (h : isw x = true) (k : fok a b = true) : putFV x a b n = putV x a b n := if_pos (both h k)
theorem putV_bad (h : isw x = false ∨ fok a b = false) : putFV x a b n = 0 := if_neg (nboth h)
theorem putE_both (h : isw x = true) (k : fok a b = true) : putFE x a b n = putE b n := if_pos (both h k)
theorem putE_bad (h : isw x = false ∨ fok a b = false) : putFE x a b n = 1 := if_neg (nboth h)
theorem addV_both (h : isw x = true) (k : fok a b = true) : addFV x a b n = addV x a b n := if_pos (both h k)
theorem addV_bad (h : isw x = false ∨ fok a b = false) : addFV x a b n = 0 := if_neg (nboth h)
theorem addE_both (h : isw x = true) (k : fok a b = true) : addFE x a b n = addE x a b n := if_pos (both h k)
theorem addE_bad (h : isw x = false ∨ fok a b = false) : addFE x a b n = 1 := if_neg (nboth h)
theorem topV_both (h : isw x = true) (k : fok a b = true) : topF x a b n = topV x a b n := if_pos (both h k)
theorem topV_bad (h : isw x = false ∨ fok a b = false) : topF x a b n = 0 := if_neg (nboth h)
theorem topE_both (h : isw x = true) (k : fok a b = true) : topFE x a b = 0 := if_pos (both h k)
theorem topE_bad (h : isw x = false ∨ fok a b = false) : topFE x a b = 1 := if_neg (nboth h)
end
end Go.Proofs.YtfomephgallpmaaDoor
