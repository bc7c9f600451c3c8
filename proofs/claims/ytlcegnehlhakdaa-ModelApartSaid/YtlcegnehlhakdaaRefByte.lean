/-
  A byte that is written into a row of numbers, for layer 7.
  Conditions: none; plain lemmas.
-/
import Derived.Test.YtlcegnehlhakdaaFsPlain
namespace Go.Proofs.Ytlcegnehlhakdaa
open Go.RowKit Go.Maps Go
set_option linter.unusedVariables false
set_option linter.unusedSimpArgs false

theorem tmod_bd (n : Int) : -256 < n.tmod 256 ∧ n.tmod 256 < 256 ∧ ∃ q : Int, n = 256 * q + n.tmod 256 := by
  refine ⟨?_, Int.tmod_lt_of_pos n (by decide), n.tdiv 256, (Int.mul_tdiv_add_tmod n 256).symm⟩
  by_cases h : 0 ≤ n
  · have := Int.tmod_nonneg 256 h
    omega
  · have h1 := Int.tmod_lt_of_pos (-n) (show (0 : Int) < 256 by decide)
    rw [Int.neg_tmod] at h1
    omega
theorem u8_val (n : Int) : ((u8 n).toNat : Int) = (n.tmod 256 + 256).tmod 256 := by
  obtain ⟨h1, h2, q, h3⟩ := tmod_bd n
  rw [Int.tmod_eq_emod_of_nonneg (by omega)]
  unfold u8
  rw [UInt8.toNat_ofNat']
  generalize n.tmod 256 = m at *
  subst h3
  omega
theorem ints_set (bs : List UInt8) (O : Nat) (n : Int) : intsOf (bs.set O (u8 n)) = (intsOf bs).set O ((n.tmod 256 + 256).tmod 256) := by
  unfold intsOf
  rw [List.map_set, u8_val]
theorem Ints.irow {W : World} {base n cap : Nat} {p : Option Addr} {l : List Int} (h : Ints W base (.slice p n cap) l) : IRow W p l := fun j hj => by
  rcases h.2 with ⟨e, h0⟩ | ⟨g, cap', cur, e, hg, hh, hnc, hcm, hcs, htk⟩
  · omega
  · injection e with e1 _ _
    refine ⟨g, cur, e1, hh, ?_⟩
    have := congrArg (fun z : List Value => z[j]?) htk
    simp only [Nat.mul_one] at this
    rw [List.getElem?_take_of_lt (by simpa using hj)] at this
    simpa [hj] using this
end Go.Proofs.Ytlcegnehlhakdaa
