/-
  The plain arithmetic of an entry and its word.
  Conditions: none; statements over whole numbers and truth values.
-/
import Derived.Test.YtfomephgallpmaaDoorFieldMath
namespace Go.Proofs.YtfomephgallpmaaDoor
open Go.RowKit

/-- Where an object is, and what may be done with it. -/
structure En where
  o : Int
  g : Int
  p : Int
  q : Int
  lk : Bool
  lv : Bool
def bitI (b : Bool) : Int := if b then 1 else 0
def En.mayP (e : En) : Prop := 0 ≤ e.g ∧ e.g ≤ 1000 ∧ 0 ≤ e.o ∧ e.o ≤ 4096 ∧ 0 ≤ e.p ∧ e.p ≤ 7 ∧ 0 ≤ e.q ∧ e.q ≤ 15 ∧ (e.lv = false → e.o = 0 ∧ e.p = 0 ∧ e.q = 0 ∧ e.lk = false) ∧ (e.lk = true → e.p = 0 ∧ e.q = 0)
instance (e : En) : Decidable e.mayP := by unfold En.mayP; infer_instance
def En.may (e : En) : Bool := decide e.mayP
def En.word (e : En) : Int := e.o + e.g * 1048576 + e.p * 1099511627776 + e.q * 17592186044416 + bitI e.lk * 281474976710656 + bitI e.lv * 562949953421312
/-- What a word's fields hold. -/
def unp (x : Int) : En := ⟨getF x 0 20, getF x 20 20, getF x 40 4, getF x 44 4, getF x 48 1 == 1, getF x 49 1 == 1⟩
/-- A word that is some entry's. -/
def uok (x : Int) : Bool := (unp x).may && ((unp x).word == x)
def packV (e : En) : Int := if e.may then e.word else 0
def packE (e : En) : Int := if e.may then 0 else 1

theorem may_of {e : En} (h : e.may = true) : e.mayP := by simpa [En.may] using h
theorem may_true {e : En} (h : e.mayP) : e.may = true := by simpa [En.may] using h
theorem may_false {e : En} (h : ¬ e.mayP) : e.may = false := by simpa [En.may] using h
theorem may_dead {g : Int} (h : 0 ≤ g ∧ g ≤ 1000) : En.may ⟨0, g, 0, 0, false, false⟩ = true := may_true (by unfold En.mayP; simp; omega)
theorem may_live {o g p q : Int} (h : 0 ≤ g ∧ g ≤ 1000) (ho : 0 ≤ o ∧ o ≤ 4096) (hp : 0 ≤ p ∧ p ≤ 7) (hq : 0 ≤ q ∧ q ≤ 15) : En.may ⟨o, g, p, q, false, true⟩ = true := may_true (by unfold En.mayP; simp; omega)
theorem may_locked {o g : Int} (h : 0 ≤ g ∧ g ≤ 1000) (ho : 0 ≤ o ∧ o ≤ 4096) : En.may ⟨o, g, 0, 0, true, true⟩ = true := may_true (by unfold En.mayP; simp; omega)
theorem packV_ok {e : En} (h : e.may = true) : packV e = e.word := if_pos h
theorem packE_ok {e : En} (h : e.may = true) : packE e = 0 := if_pos h
theorem packV_bad {e : En} (h : e.may = false) : packV e = 0 := if_neg (by rw [h]; decide)
theorem packE_bad {e : En} (h : e.may = false) : packE e = 1 := if_neg (by rw [h]; decide)
theorem bitI_bd (b : Bool) : 0 ≤ bitI b ∧ bitI b ≤ 1 := by cases b <;> decide
theorem bitI_eq (b : Bool) : (bitI b == 1) = b := by cases b <;> decide

theorem word_bd {e : En} (h : e.may = true) : 0 ≤ e.word ∧ e.word < 1125899906842624 := by
  obtain ⟨h1, h2, h3, h4, h5, h6, h7, h8, _⟩ := may_of h
  have h9 := bitI_bd e.lk
  have h10 := bitI_bd e.lv
  unfold En.word
  omega

theorem gets {x : Int} (h0 : 0 ≤ x) (h1 : x ≤ 4611686018427387903) : getF x 0 20 = x % 1048576 ∧ getF x 20 20 = x / 1048576 % 1048576 ∧ getF x 40 4 = x / 1099511627776 % 16 ∧ getF x 44 4 = x / 17592186044416 % 16 ∧
    getF x 48 1 = x / 281474976710656 % 2 ∧ getF x 49 1 = x / 562949953421312 % 2 := by
  have hw := isw_true h0 h1
  have e0 : tw 0 = 1 := by decide
  have e20 : tw 20 = 1048576 := by decide
  have e40 : tw 40 = 1099511627776 := by decide
  have e44 : tw 44 = 17592186044416 := by decide
  have e48 : tw 48 = 281474976710656 := by decide
  have e49 : tw 49 = 562949953421312 := by decide
  have e4 : tw 4 = 16 := by decide
  have e1 : tw 1 = 2 := by decide
  refine ⟨?_, ?_, ?_, ?_, ?_, ?_⟩ <;> rw [getF_both hw (by decide)] <;> unfold fget
  · rw [e0, e20, Int.ediv_one]
  · rw [e20]
  · rw [e40, e4]
  · rw [e44, e4]
  · rw [e48, e1]
  · rw [e49, e1]

/-- A word tells its entry. -/
theorem unp_word {e : En} (h : e.may = true) : unp e.word = e := by
  obtain ⟨h1, h2, h3, h4, h5, h6, h7, h8, _⟩ := may_of h
  have h9 := bitI_bd e.lk
  have h10 := bitI_bd e.lv
  have hb := word_bd h
  obtain ⟨g1, g2, g3, g4, g5, g6⟩ := gets hb.1 (by omega)
  unfold unp
  rw [g1, g2, g3, g4, g5, g6]
  have hl := bitI_eq e.lk
  have hv := bitI_eq e.lv
  obtain ⟨o, g, p, q, lk, lv⟩ := e
  simp only [En.word, En.mk.injEq] at *
  generalize bitI lk = L at *
  generalize bitI lv = V at *
  have e5 : (o + g * 1048576 + p * 1099511627776 + q * 17592186044416 + L * 281474976710656 + V * 562949953421312) / 281474976710656 % 2 = L := by omega
  have e6 : (o + g * 1048576 + p * 1099511627776 + q * 17592186044416 + L * 281474976710656 + V * 562949953421312) / 562949953421312 % 2 = V := by omega
  rw [e5, e6]
  refine ⟨by omega, by omega, by omega, by omega, hl, hv⟩

theorem uok_word {e : En} (h : e.may = true) : uok e.word = true := by
  unfold uok
  rw [unp_word h, h]
  simp
theorem uok_of {x : Int} (h : uok x = true) : (unp x).may = true ∧ (unp x).word = x := by simpa [uok] using h

/-- The fields, put one behind the other. -/
theorem puts6 {o g p q l v : Int} (h3 : 0 ≤ o) (h4 : o ≤ 4096) (h1 : 0 ≤ g) (h2 : g ≤ 1000) (h5 : 0 ≤ p) (h6 : p ≤ 7) (h7 : 0 ≤ q) (h8 : q ≤ 15) (h9 : 0 ≤ l ∧ l ≤ 1) (h10 : 0 ≤ v ∧ v ≤ 1) :
    putFV 0 0 20 o = o ∧ putFV o 20 20 g = o + g * 1048576 ∧ putFV (o + g * 1048576) 40 4 p = o + g * 1048576 + p * 1099511627776 ∧
    putFV (o + g * 1048576 + p * 1099511627776) 44 4 q = o + g * 1048576 + p * 1099511627776 + q * 17592186044416 ∧
    putFV (o + g * 1048576 + p * 1099511627776 + q * 17592186044416) 48 1 l = o + g * 1048576 + p * 1099511627776 + q * 17592186044416 + l * 281474976710656 ∧
    putFV (o + g * 1048576 + p * 1099511627776 + q * 17592186044416 + l * 281474976710656) 49 1 v = o + g * 1048576 + p * 1099511627776 + q * 17592186044416 + l * 281474976710656 + v * 562949953421312 := by
  have e0 : tw 0 = 1 := by decide
  have e20 : tw 20 = 1048576 := by decide
  have e40 : tw 40 = 1099511627776 := by decide
  have e44 : tw 44 = 17592186044416 := by decide
  have e48 : tw 48 = 281474976710656 := by decide
  have e49 : tw 49 = 562949953421312 := by decide
  have e4 : tw 4 = 16 := by decide
  have e1 : tw 1 = 2 := by decide
  have key : ∀ x a b n : Int, fok a b = true → 0 ≤ x → x < 1125899906842624 → 0 ≤ n → n ≤ tw b - 1 → putFV x a b n = x - x / tw a % tw b * tw a + n * tw a := fun x a b n hf x0 x1 n0 n1 => by
    rw [putV_both (isw_true x0 (by omega)) hf, putV_ok n0 n1]; rfl
  refine ⟨?_, ?_, ?_, ?_, ?_, ?_⟩
  · rw [key 0 0 20 o (by decide) (by omega) (by omega) (by omega) (by rw [e20]; omega), e0, e20]; omega
  · rw [key _ 20 20 g (by decide) (by omega) (by omega) (by omega) (by rw [e20]; omega), e20]; omega
  · rw [key _ 40 4 p (by decide) (by omega) (by omega) (by omega) (by rw [e4]; omega), e40, e4]; omega
  · rw [key _ 44 4 q (by decide) (by omega) (by omega) (by omega) (by rw [e4]; omega), e44, e4]; omega
  · rw [key _ 48 1 l (by decide) (by omega) (by omega) (by omega) (by rw [e1]; omega), e48, e1]; omega
  · rw [key _ 49 1 v (by decide) (by omega) (by omega) (by omega) (by rw [e1]; omega), e49, e1]; omega
theorem puts6E {o g p q l v : Int} (h3 : 0 ≤ o) (h4 : o ≤ 4096) (h1 : 0 ≤ g) (h2 : g ≤ 1000) (h5 : 0 ≤ p) (h6 : p ≤ 7) (h7 : 0 ≤ q) (h8 : q ≤ 15) (h9 : 0 ≤ l ∧ l ≤ 1) (h10 : 0 ≤ v ∧ v ≤ 1) :
    putFE 0 0 20 o = 0 ∧ putFE o 20 20 g = 0 ∧ putFE (o + g * 1048576) 40 4 p = 0 ∧
    putFE (o + g * 1048576 + p * 1099511627776) 44 4 q = 0 ∧
    putFE (o + g * 1048576 + p * 1099511627776 + q * 17592186044416) 48 1 l = 0 ∧
    putFE (o + g * 1048576 + p * 1099511627776 + q * 17592186044416 + l * 281474976710656) 49 1 v = 0 := by
  have e20 : tw 20 = 1048576 := by decide
  have e4 : tw 4 = 16 := by decide
  have e1 : tw 1 = 2 := by decide
  have key : ∀ x a b n : Int, fok a b = true → 0 ≤ x → x < 1125899906842624 → 0 ≤ n → n ≤ tw b - 1 → putFE x a b n = 0 := fun x a b n hf x0 x1 n0 n1 => by
    rw [putE_both (isw_true x0 (by omega)) hf, putE_ok n0 n1]
  exact ⟨key 0 0 20 o (by decide) (by omega) (by omega) (by omega) (by rw [e20]; omega), key _ 20 20 g (by decide) (by omega) (by omega) (by omega) (by rw [e20]; omega),
    key _ 40 4 p (by decide) (by omega) (by omega) (by omega) (by rw [e4]; omega), key _ 44 4 q (by decide) (by omega) (by omega) (by omega) (by rw [e4]; omega),
    key _ 48 1 l (by decide) (by omega) (by omega) (by omega) (by rw [e1]; omega), key _ 49 1 v (by decide) (by omega) (by omega) (by omega) (by rw [e1]; omega)⟩
/-- What Unpack tells. -/
def En.zero : En := ⟨0, 0, 0, 0, false, false⟩
def upV (x : Int) : En := if uok x then unp x else En.zero
def upE (x : Int) : Int := if uok x then 0 else 2
theorem upV_ok {x : Int} (h : uok x = true) : upV x = unp x := if_pos h
theorem upE_ok {x : Int} (h : uok x = true) : upE x = 0 := if_pos h
theorem upV_bad {x : Int} (h : uok x = false) : upV x = En.zero := if_neg (by rw [h]; decide)
theorem upE_bad {x : Int} (h : uok x = false) : upE x = 2 := if_neg (by rw [h]; decide)
/-- An entry as a value. -/
def En.val (e : En) : Value := .agg #[.int .i64 e.o, .int .i64 e.g, .int .i64 e.p, .int .i64 e.q, .bool e.lk, .bool e.lv]

/-! ### the changes -/
def pinE (e : En) : Int := if e.lk then 1 else if e.p == 7 then 7 else 0
def pinN (e : En) : En := ⟨e.o, e.g, e.p + 1, e.q, e.lk, e.lv⟩
def unpinE (e : En) : Int := if e.p == 0 then 8 else 0
def unpinN (e : En) : En := ⟨e.o, e.g, e.p - 1, e.q, e.lk, e.lv⟩
def guardN (n : Int) (e : En) : En := ⟨e.o, e.g, e.p, wrap64 (e.q + n), e.lk, e.lv⟩
def lockN (on : Bool) (e : En) : En := ⟨e.o, e.g, e.p, e.q, on, e.lv⟩
def moveN (n : Int) (e : En) : En := ⟨n, e.g, e.p, e.q, false, e.lv⟩
def nextE (e : En) : Int := if 0 < e.p then 1 else if 0 < e.q then 1 else if e.lk then 1 else 0
def nextN (e : En) : En := ⟨0, if e.g < 1000 then e.g + 1 else e.g, 0, 0, false, false⟩
/-- What a change tells: c its code, n what comes. -/
def chV (c : Int) (n : En) (x : Int) : Int := if uok x then (if (unp x).lv then (if c == 0 then packV n else 0) else 0) else 0
def chE (c : Int) (n : En) (x : Int) : Int := if uok x then (if (unp x).lv then (if c == 0 then packE n else c) else 1) else 2
def pinV (x : Int) : Int := chV (pinE (unp x)) (pinN (unp x)) x
def pinC (x : Int) : Int := chE (pinE (unp x)) (pinN (unp x)) x
def unpinV (x : Int) : Int := chV (unpinE (unp x)) (unpinN (unp x)) x
def unpinC (x : Int) : Int := chE (unpinE (unp x)) (unpinN (unp x)) x
def guardV (n x : Int) : Int := chV 0 (guardN n (unp x)) x
def guardC (n x : Int) : Int := chE 0 (guardN n (unp x)) x
def lockV (on : Bool) (x : Int) : Int := chV 0 (lockN on (unp x)) x
def lockC (on : Bool) (x : Int) : Int := chE 0 (lockN on (unp x)) x
def moveV (n x : Int) : Int := chV 0 (moveN n (unp x)) x
def moveC (n x : Int) : Int := chE 0 (moveN n (unp x)) x
def nextV (x : Int) : Int := chV (nextE (unp x)) (nextN (unp x)) x
def nextC (x : Int) : Int := chE (nextE (unp x)) (nextN (unp x)) x
def nextM (x : Int) : Bool := uok x && (unp x).lv && (nextE (unp x) == 0) && decide ((unp x).g < 1000)

section
variable {c : Int} {n : En} {x : Int}
theorem chV_form (h : uok x = false) : chV c n x = 0 := if_neg (by rw [h]; decide)
theorem chE_form (h : uok x = false) : chE c n x = 2 := if_neg (by rw [h]; decide)
theorem chV_dead (h : uok x = true) (k : (unp x).lv = false) : chV c n x = 0 := by unfold chV; rw [if_pos h, if_neg (by rw [k]; decide)]
theorem chE_dead (h : uok x = true) (k : (unp x).lv = false) : chE c n x = 1 := by unfold chE; rw [if_pos h, if_neg (by rw [k]; decide)]
theorem chV_err (h : uok x = true) (k : (unp x).lv = true) (e : (c == 0) = false) : chV c n x = 0 := by unfold chV; rw [if_pos h, if_pos k, if_neg (by rw [e]; decide)]
theorem chE_err (h : uok x = true) (k : (unp x).lv = true) (e : (c == 0) = false) : chE c n x = c := by unfold chE; rw [if_pos h, if_pos k, if_neg (by rw [e]; decide)]
theorem chV_ok (h : uok x = true) (k : (unp x).lv = true) : chV 0 n x = packV n := by unfold chV; rw [if_pos h, if_pos k]; rfl
theorem chE_ok (h : uok x = true) (k : (unp x).lv = true) : chE 0 n x = packE n := by unfold chE; rw [if_pos h, if_pos k]; rfl
end
def heldB (e : En) : Bool := !(nextE e == 0)
theorem heldB_p {o g p q : Int} {lk lv : Bool} (h : 0 < p) : heldB ⟨o, g, p, q, lk, lv⟩ = true := by unfold heldB nextE; rw [if_pos h]; rfl
theorem heldB_q {o g p q : Int} {lk lv : Bool} (h : ¬ 0 < p) (k : 0 < q) : heldB ⟨o, g, p, q, lk, lv⟩ = true := by unfold heldB nextE; rw [if_neg h, if_pos k]; rfl
theorem heldB_l {o g p q : Int} {lk lv : Bool} (h : ¬ 0 < p) (k : ¬ 0 < q) : heldB ⟨o, g, p, q, lk, lv⟩ = lk := by unfold heldB nextE; rw [if_neg h, if_neg k]; cases lk <;> rfl
theorem nextE_held {e : En} (h : heldB e = true) : nextE e = 1 := by
  unfold heldB nextE at h
  unfold nextE
  split
  · rfl
  · split
    · rfl
    · split
      · rfl
      · simp_all
theorem nextE_free {e : En} (h : heldB e = false) : nextE e = 0 := by
  unfold heldB at h
  simpa using h
end Go.Proofs.YtfomephgallpmaaDoor
