/-
  What the program's own functions of one object answer for layer 7.
  Conditions: that an object has at most 256 bytes.
-/
import Derived.Test.YtlcegnehlhakdaaMdMem
namespace Go.Proofs.Ytlcegnehlhakdaa
open Go.RowKit
attribute [local go_sem] Later.cell Later.frozen Later.lt Later.le
set_option linter.unusedVariables false
set_option linter.unusedSimpArgs false
set_option maxRecDepth 4000

def opV (d h off n : Int) : Value := .agg #[.int .i64 d, .int .i64 h, .int .i64 off, .int .i64 n]
def resV (c n : Int) : Value := .agg #[.int .i64 c, .int .i64 n]
theorem bsV_size (l : List UInt8) : (bsV l).size = l.length := by simp [bsV, ByteArray.size]

theorem failed_any (e : Int) (w : World) : Calls Try.prog 30 #[.int .i64 e] w (Ret w (.agg #[.int .i64 e, .int .i64 0])) := by
  go_enter Try.func30, Try.ntmps30
  go_wp2
  refine bodyPost_ret (v := .agg #[.int .i64 e, .int .i64 0]) (by simp [results, Try.results30, go_sem]) rfl (Ret.mk rfl ?_)
  exact (Below.refl _ _).alloc (Nat.le_refl _) _
theorem has_any (s : ByteArray) (p : Int) (m : Nat) (hs : s.size = m) (hx : m ≤ 256) (off : Int) (w : World) : Calls Try.prog 45 #[.agg #[.string s, .int .i64 p], .int .i64 off] w (Ret w (.bool (decide (0 ≤ off ∧ off < m)))) := by
  generalize hv : decide (0 ≤ off ∧ off < (m : Int)) = V
  by_cases h0 : 0 ≤ off
  · by_cases h1 : off < m
    · have hV : V = true := by rw [← hv]; simp; omega
      clear hv
      subst hV
      go_enter Try.func45, Try.ntmps45
      go_wp2
      go_ret
      exact Ret.mk (by simp [h1]) ((Below.refl _ _).alloc (Nat.le_refl _) _)
    · have hV : V = false := by rw [← hv]; simp; omega
      clear hv
      subst hV
      go_enter Try.func45, Try.ntmps45
      go_wp2
      go_ret
      exact Ret.mk (by simp [h1]) ((Below.refl _ _).alloc (Nat.le_refl _) _)
  · have hV : V = false := by rw [← hv]; simp; omega
    clear hv
    subst hV
    go_enter Try.func45, Try.ntmps45
    go_wp2
    go_ret
    exact Ret.mk (by simp [h0]) ((Below.refl _ _).alloc (Nat.le_refl _) _)

theorem byte_at (bs : List UInt8) (i : Nat) (h : i < (bsV bs).size) : wrap64 (((bsV bs)[i]'h).toNat : Int) = ((bs.getD i 0).toNat : Int) := by
  have h' : i < bs.length := by rwa [bsV_size] at h
  have e : (bsV bs)[i]'h = bs.getD i 0 := by
    simp [bsV, h', ByteArray.getElem_eq_getElem_data]
  rw [e]
  have := (bs.getD i 0).toNat_lt
  unfold wrap64
  omega
theorem answer_f1 (bs : List UInt8) (p : Int) (hb : bs.length ≤ 256) (h off n : Int) (hp : 0 < p) (w : World) :
    Calls Try.prog 32 #[.agg #[.string (bsV bs), .int .i64 p], .agg #[.int .i64 1, .int .i64 h, .int .i64 off, .int .i64 n]] w (Ret w (.agg #[.int .i64 6, .int .i64 0])) := by
  have hs := bsV_size bs
  have cf := fun W => failed_any 6 W
  have ch := fun W => has_any (bsV bs) p bs.length hs hb off W
  go_enter Try.func32, Try.ntmps32
  go_wp2_with (first
    | (go_at_call 30; (with_reducible refine (cf _).mono ?_); rintro _ _ ⟨rfl, y, rfl⟩)
    | (go_at_call 45; (with_reducible refine (ch _).mono ?_); rintro _ _ ⟨rfl, z, rfl⟩))
  refine bodyPost_ret (v := .agg #[.int .i64 6, .int .i64 0]) (by simp [results, Try.results32, go_sem]) rfl (Ret.mk rfl ?_)
  exact Below.setCell (Below.setCell (((((Below.refl _ w).alloc (Nat.le_refl _) _).alloc (by simp) _).alloc (by simp; omega) _).trans (y.below.mono (by simp; omega))) (by simp; omega) _) (by simp; omega) _
theorem answer_f0 (bs : List UInt8) (p : Int) (hb : bs.length ≤ 256) (h off n : Int) (hp : ¬ 0 < p) (w : World) :
    Calls Try.prog 32 #[.agg #[.string (bsV bs), .int .i64 p], .agg #[.int .i64 1, .int .i64 h, .int .i64 off, .int .i64 n]] w (Ret w (.agg #[.int .i64 0, .int .i64 0])) := by
  have hs := bsV_size bs
  have cf := fun W => failed_any 0 W
  have ch := fun W => has_any (bsV bs) p bs.length hs hb off W
  go_enter Try.func32, Try.ntmps32
  go_wp2_with (first
    | (go_at_call 30; (with_reducible refine (cf _).mono ?_); rintro _ _ ⟨rfl, y, rfl⟩)
    | (go_at_call 45; (with_reducible refine (ch _).mono ?_); rintro _ _ ⟨rfl, z, rfl⟩))
  refine bodyPost_ret (v := .agg #[.int .i64 0, .int .i64 0]) (by simp [results, Try.results32, go_sem]) rfl (Ret.mk rfl ?_)
  exact (((Below.refl _ w).alloc (Nat.le_refl _) _).alloc (by simp) _).alloc (by simp; omega) _
theorem answer_r1 (bs : List UInt8) (p : Int) (hb : bs.length ≤ 256) (h off n : Int) (hr : 0 ≤ off ∧ off < bs.length) (w : World) :
    Calls Try.prog 32 #[.agg #[.string (bsV bs), .int .i64 p], .agg #[.int .i64 2, .int .i64 h, .int .i64 off, .int .i64 n]] w (Ret w (.agg #[.int .i64 0, .int .i64 ((bs.getD off.toNat 0).toNat : Int)])) := by
  have hs := bsV_size bs
  have cf := fun W => failed_any 0 W
  have ch := fun W => has_any (bsV bs) p bs.length hs hb off W
  have hd : decide (0 ≤ off ∧ off < (bs.length : Int)) = true := by simpa using hr
  rw [hd] at ch
  have hr0 := hr.1
  have hr1 : off.toNat < (bsV bs).size := by rw [hs]; omega
  have hby := byte_at bs off.toNat hr1
  generalize ((bs.getD off.toNat 0).toNat : Int) = B at hby ⊢
  go_enter Try.func32, Try.ntmps32
  go_wp2_with (first
    | (go_at_call 30; (with_reducible refine (cf _).mono ?_); rintro _ _ ⟨rfl, y, rfl⟩)
    | (go_at_call 45; (with_reducible refine (ch _).mono ?_); rintro _ _ ⟨rfl, z, rfl⟩))
  refine bodyPost_ret (v := .agg #[.int .i64 0, .int .i64 B]) (by simp [results, Try.results32, go_sem]) rfl (Ret.mk rfl ?_)
  exact Below.setCell (Below.setCell (((((Below.refl _ w).alloc (Nat.le_refl _) _).alloc (by simp) _).alloc (by simp; omega) _).trans (z.below.mono (by simp; omega))) (by simp; omega) _) (by simp; omega) _
theorem answer_r0 (bs : List UInt8) (p : Int) (hb : bs.length ≤ 256) (h off n : Int) (hr : ¬ (0 ≤ off ∧ off < bs.length)) (w : World) :
    Calls Try.prog 32 #[.agg #[.string (bsV bs), .int .i64 p], .agg #[.int .i64 2, .int .i64 h, .int .i64 off, .int .i64 n]] w (Ret w (.agg #[.int .i64 5, .int .i64 0])) := by
  have hs := bsV_size bs
  have cf := fun W => failed_any 5 W
  have ch := fun W => has_any (bsV bs) p bs.length hs hb off W
  have hd : decide (0 ≤ off ∧ off < (bs.length : Int)) = false := by simpa using hr
  rw [hd] at ch
  go_enter Try.func32, Try.ntmps32
  go_wp2_with (first
    | (go_at_call 30; (with_reducible refine (cf _).mono ?_); rintro _ _ ⟨rfl, y, rfl⟩)
    | (go_at_call 45; (with_reducible refine (ch _).mono ?_); rintro _ _ ⟨rfl, z, rfl⟩))
  have eyz : y.at' = (z.on y.below).at' := rfl
  rw [eyz]
  generalize z.on y.below = z
  refine bodyPost_ret (v := .agg #[.int .i64 5, .int .i64 0]) (by simp [results, Try.results32, go_sem]) rfl (Ret.mk rfl ?_)
  exact Below.setCell (Below.setCell (((((Below.refl _ w).alloc (Nat.le_refl _) _).alloc (by simp) _).alloc (by simp; omega) _).trans (z.below.mono (by simp; omega))) (by simp; omega) _) (by simp; omega) _
theorem answer_w1 (bs : List UInt8) (p : Int) (hb : bs.length ≤ 256) (h off n : Int) (hr : 0 ≤ off ∧ off < bs.length) (w : World) :
    Calls Try.prog 32 #[.agg #[.string (bsV bs), .int .i64 p], .agg #[.int .i64 3, .int .i64 h, .int .i64 off, .int .i64 n]] w (Ret w (.agg #[.int .i64 0, .int .i64 0])) := by
  have hs := bsV_size bs
  have cf := fun W => failed_any 0 W
  have ch := fun W => has_any (bsV bs) p bs.length hs hb off W
  have hd : decide (0 ≤ off ∧ off < (bs.length : Int)) = true := by simpa using hr
  rw [hd] at ch
  go_enter Try.func32, Try.ntmps32
  go_wp2_with (first
    | (go_at_call 30; (with_reducible refine (cf _).mono ?_); rintro _ _ ⟨rfl, y, rfl⟩)
    | (go_at_call 45; (with_reducible refine (ch _).mono ?_); rintro _ _ ⟨rfl, z, rfl⟩))
  refine bodyPost_ret (v := .agg #[.int .i64 0, .int .i64 0]) (by simp [results, Try.results32, go_sem]) rfl (Ret.mk rfl ?_)
  exact Below.setCell (Below.setCell (((((Below.refl _ w).alloc (Nat.le_refl _) _).alloc (by simp) _).alloc (by simp; omega) _).trans (z.below.mono (by simp; omega))) (by simp; omega) _) (by simp; omega) _
theorem answer_w0 (bs : List UInt8) (p : Int) (hb : bs.length ≤ 256) (h off n : Int) (hr : ¬ (0 ≤ off ∧ off < bs.length)) (w : World) :
    Calls Try.prog 32 #[.agg #[.string (bsV bs), .int .i64 p], .agg #[.int .i64 3, .int .i64 h, .int .i64 off, .int .i64 n]] w (Ret w (.agg #[.int .i64 5, .int .i64 0])) := by
  have hs := bsV_size bs
  have cf := fun W => failed_any 5 W
  have ch := fun W => has_any (bsV bs) p bs.length hs hb off W
  have hd : decide (0 ≤ off ∧ off < (bs.length : Int)) = false := by simpa using hr
  rw [hd] at ch
  go_enter Try.func32, Try.ntmps32
  go_wp2_with (first
    | (go_at_call 30; (with_reducible refine (cf _).mono ?_); rintro _ _ ⟨rfl, y, rfl⟩)
    | (go_at_call 45; (with_reducible refine (ch _).mono ?_); rintro _ _ ⟨rfl, z, rfl⟩))
  have eyz : y.at' = (z.on y.below).at' := rfl
  rw [eyz]
  generalize z.on y.below = z
  refine bodyPost_ret (v := .agg #[.int .i64 5, .int .i64 0]) (by simp [results, Try.results32, go_sem]) rfl (Ret.mk rfl ?_)
  exact Below.setCell (Below.setCell (((((Below.refl _ w).alloc (Nat.le_refl _) _).alloc (by simp) _).alloc (by simp; omega) _).trans (z.below.mono (by simp; omega))) (by simp; omega) _) (by simp; omega) _
theorem answer_p1 (bs : List UInt8) (p : Int) (hb : bs.length ≤ 256) (h off n : Int) (hp : p = 7) (w : World) :
    Calls Try.prog 32 #[.agg #[.string (bsV bs), .int .i64 p], .agg #[.int .i64 4, .int .i64 h, .int .i64 off, .int .i64 n]] w (Ret w (.agg #[.int .i64 7, .int .i64 0])) := by
  have hs := bsV_size bs
  have cf := fun W => failed_any 7 W
  have ch := fun W => has_any (bsV bs) p bs.length hs hb off W
  go_enter Try.func32, Try.ntmps32
  go_wp2_with (first
    | (go_at_call 30; (with_reducible refine (cf _).mono ?_); rintro _ _ ⟨rfl, y, rfl⟩)
    | (go_at_call 45; (with_reducible refine (ch _).mono ?_); rintro _ _ ⟨rfl, z, rfl⟩))
  refine bodyPost_ret (v := .agg #[.int .i64 7, .int .i64 0]) (by simp [results, Try.results32, go_sem]) rfl (Ret.mk rfl ?_)
  exact Below.setCell (Below.setCell (((((Below.refl _ w).alloc (Nat.le_refl _) _).alloc (by simp) _).alloc (by simp; omega) _).trans (y.below.mono (by simp; omega))) (by simp; omega) _) (by simp; omega) _
theorem answer_p0 (bs : List UInt8) (p : Int) (hb : bs.length ≤ 256) (h off n : Int) (hp : ¬ p = 7) (w : World) :
    Calls Try.prog 32 #[.agg #[.string (bsV bs), .int .i64 p], .agg #[.int .i64 4, .int .i64 h, .int .i64 off, .int .i64 n]] w (Ret w (.agg #[.int .i64 0, .int .i64 0])) := by
  have hs := bsV_size bs
  have cf := fun W => failed_any 0 W
  have ch := fun W => has_any (bsV bs) p bs.length hs hb off W
  have hp' : (p == 7) = false := by simpa using hp
  go_enter Try.func32, Try.ntmps32
  go_wp2_with (first
    | (go_at_call 30; (with_reducible refine (cf _).mono ?_); rintro _ _ ⟨rfl, y, rfl⟩)
    | (go_at_call 45; (with_reducible refine (ch _).mono ?_); rintro _ _ ⟨rfl, z, rfl⟩))
  refine bodyPost_ret (v := .agg #[.int .i64 0, .int .i64 0]) (by simp [results, Try.results32, go_sem]) rfl (Ret.mk rfl ?_)
  exact (((Below.refl _ w).alloc (Nat.le_refl _) _).alloc (by simp) _).alloc (by simp; omega) _
theorem answer_u1 (bs : List UInt8) (p : Int) (hb : bs.length ≤ 256) (h off n : Int) (hp : p = 0) (w : World) :
    Calls Try.prog 32 #[.agg #[.string (bsV bs), .int .i64 p], .agg #[.int .i64 5, .int .i64 h, .int .i64 off, .int .i64 n]] w (Ret w (.agg #[.int .i64 8, .int .i64 0])) := by
  have hs := bsV_size bs
  have cf := fun W => failed_any 8 W
  have ch := fun W => has_any (bsV bs) p bs.length hs hb off W
  go_enter Try.func32, Try.ntmps32
  go_wp2_with (first
    | (go_at_call 30; (with_reducible refine (cf _).mono ?_); rintro _ _ ⟨rfl, y, rfl⟩)
    | (go_at_call 45; (with_reducible refine (ch _).mono ?_); rintro _ _ ⟨rfl, z, rfl⟩))
  refine bodyPost_ret (v := .agg #[.int .i64 8, .int .i64 0]) (by simp [results, Try.results32, go_sem]) rfl (Ret.mk rfl ?_)
  exact Below.setCell (Below.setCell (((((Below.refl _ w).alloc (Nat.le_refl _) _).alloc (by simp) _).alloc (by simp; omega) _).trans (y.below.mono (by simp; omega))) (by simp; omega) _) (by simp; omega) _
theorem answer_u0 (bs : List UInt8) (p : Int) (hb : bs.length ≤ 256) (h off n : Int) (hp : ¬ p = 0) (w : World) :
    Calls Try.prog 32 #[.agg #[.string (bsV bs), .int .i64 p], .agg #[.int .i64 5, .int .i64 h, .int .i64 off, .int .i64 n]] w (Ret w (.agg #[.int .i64 0, .int .i64 0])) := by
  have hs := bsV_size bs
  have cf := fun W => failed_any 0 W
  have ch := fun W => has_any (bsV bs) p bs.length hs hb off W
  have hp' : (p == 0) = false := by simpa using hp
  go_enter Try.func32, Try.ntmps32
  go_wp2_with (first
    | (go_at_call 30; (with_reducible refine (cf _).mono ?_); rintro _ _ ⟨rfl, y, rfl⟩)
    | (go_at_call 45; (with_reducible refine (ch _).mono ?_); rintro _ _ ⟨rfl, z, rfl⟩))
  refine bodyPost_ret (v := .agg #[.int .i64 0, .int .i64 0]) (by simp [results, Try.results32, go_sem]) rfl (Ret.mk rfl ?_)
  exact (((Below.refl _ w).alloc (Nat.le_refl _) _).alloc (by simp) _).alloc (by simp; omega) _
/-- What an op of a live object is answered by. -/
theorem answer_any (x : Ob) (hb : x.bs.length ≤ 256) (d h off n : Int) (hd : 1 ≤ d ∧ d ≤ 5) (w : World) :
    Calls Try.prog 32 #[obV x, opV d h off n] w (Ret w (resV (obE x d off) (obN x d off))) := by
  obtain ⟨xh, bs, p⟩ := x
  obtain rfl | rfl | rfl | rfl | rfl : d = 1 ∨ d = 2 ∨ d = 3 ∨ d = 4 ∨ d = 5 := by omega
  · by_cases c : 0 < p
    · have e1 : obE ⟨xh, bs, p⟩ 1 off = 6 := by simp [obE, c]
      have e2 : obN ⟨xh, bs, p⟩ 1 off = 0 := by simp [obN]
      rw [e1, e2]
      exact answer_f1 bs p hb h off n c w
    · have e1 : obE ⟨xh, bs, p⟩ 1 off = 0 := by simp [obE, c]
      have e2 : obN ⟨xh, bs, p⟩ 1 off = 0 := by simp [obN]
      rw [e1, e2]
      exact answer_f0 bs p hb h off n c w
  · by_cases c : 0 ≤ off ∧ off < bs.length
    · have e1 : obE ⟨xh, bs, p⟩ 2 off = 0 := by simp [obE, c]
      have e2 : obN ⟨xh, bs, p⟩ 2 off = ((bs.getD off.toNat 0).toNat : Int) := by simp [obN, c, byteAt]
      rw [e1, e2]
      exact answer_r1 bs p hb h off n c w
    · have e1 : obE ⟨xh, bs, p⟩ 2 off = 5 := by unfold obE; rw [if_neg (by omega), if_pos ⟨.inl rfl, c⟩]
      have e2 : obN ⟨xh, bs, p⟩ 2 off = 0 := by unfold obN; rw [if_neg (fun k => c k.2)]
      rw [e1, e2]
      exact answer_r0 bs p hb h off n c w
  · by_cases c : 0 ≤ off ∧ off < bs.length
    · have e1 : obE ⟨xh, bs, p⟩ 3 off = 0 := by simp [obE, c]
      have e2 : obN ⟨xh, bs, p⟩ 3 off = 0 := by simp [obN]
      rw [e1, e2]
      exact answer_w1 bs p hb h off n c w
    · have e1 : obE ⟨xh, bs, p⟩ 3 off = 5 := by unfold obE; rw [if_neg (by omega), if_pos ⟨.inr rfl, c⟩]
      have e2 : obN ⟨xh, bs, p⟩ 3 off = 0 := by simp [obN]
      rw [e1, e2]
      exact answer_w0 bs p hb h off n c w
  · by_cases c : p = 7
    · have e1 : obE ⟨xh, bs, p⟩ 4 off = 7 := by simp [obE, c]
      have e2 : obN ⟨xh, bs, p⟩ 4 off = 0 := by simp [obN]
      rw [e1, e2]
      exact answer_p1 bs p hb h off n c w
    · have e1 : obE ⟨xh, bs, p⟩ 4 off = 0 := by simp [obE, c]
      have e2 : obN ⟨xh, bs, p⟩ 4 off = 0 := by simp [obN]
      rw [e1, e2]
      exact answer_p0 bs p hb h off n c w
  · by_cases c : p = 0
    · have e1 : obE ⟨xh, bs, p⟩ 5 off = 8 := by simp [obE, c]
      have e2 : obN ⟨xh, bs, p⟩ 5 off = 0 := by simp [obN]
      rw [e1, e2]
      exact answer_u1 bs p hb h off n c w
    · have e1 : obE ⟨xh, bs, p⟩ 5 off = 0 := by simp [obE, c]
      have e2 : obN ⟨xh, bs, p⟩ 5 off = 0 := by simp [obN]
      rw [e1, e2]
      exact answer_u0 bs p hb h off n c w
end Go.Proofs.Ytlcegnehlhakdaa
