/- The walk of rootOfWords: the whole part of the root of a word times 2^64. -/
import Derived.Test.YtdnpoacjamkhkaaWd
import Derived.Deep.CutBlock
import Derived.Deep.CutRange
import Derived.Deep.LoopGhost
namespace Go.Proofs.Ytdnpoacjamkhkaa
open Go.ChangeShapes Go.WideShapes Go.ChangeAt Go.RowKit

/-- What holds ahead of each round: j bits are still to be found. -/
def RootP (N : Nat) (j m b : Nat) : Prop := (b = if j = 0 then 0 else 2 ^ (j - 1)) ∧ m % 2 ^ j = 0 ∧ m + 2 ^ j ≤ 18446744073709551616 ∧ m * m ≤ N ∧ N < (m + 2 ^ j) * (m + 2 ^ j) ∧ j ≤ 64

theorem rootP_start {N : Nat} (hN : N < 18446744073709551616 * 18446744073709551616) : RootP N 64 0 9223372036854775808 := by
  refine ⟨rfl, by simp, by simp, by simp, ?_, Nat.le_refl _⟩
  simpa using hN

theorem rootP_or {j m : Nat} (hm : m % 2 ^ (j + 1) = 0) : m ||| 2 ^ j = m + 2 ^ j := nat_join (j + 1) m (2 ^ j) hm (Nat.pow_lt_pow_right (by omega) (by omega))

theorem mod_pow_succ {j m : Nat} (hm : m % 2 ^ (j + 1) = 0) : m % 2 ^ j = 0 :=
  Nat.mod_eq_zero_of_dvd (Nat.dvd_trans (Nat.pow_dvd_pow 2 (by omega)) (Nat.dvd_of_mod_eq_zero hm))

theorem rootP_yes {N j m b : Nat} (h : RootP N (j + 1) m b) (hle : (m + 2 ^ j) * (m + 2 ^ j) ≤ N) : RootP N j (m + 2 ^ j) (b / 2) := by
  obtain ⟨h1, h2, h3, h4, h5, h6⟩ := h
  have e : 2 ^ (j + 1) = 2 ^ j + 2 ^ j := by rw [Nat.pow_succ]; omega
  rw [e] at h3 h5
  refine ⟨?_, ?_, by omega, hle, by rw [Nat.add_assoc]; exact h5, by omega⟩
  · rw [h1, if_neg (by omega), Nat.add_sub_cancel]
    cases j with
    | zero => rfl
    | succ k => rw [if_neg (by omega), Nat.add_sub_cancel, Nat.pow_succ]; omega
  · rw [Nat.add_mod, mod_pow_succ h2, Nat.mod_self]; simp

theorem rootP_no {N j m b : Nat} (h : RootP N (j + 1) m b) (hlt : N < (m + 2 ^ j) * (m + 2 ^ j)) : RootP N j m (b / 2) := by
  obtain ⟨h1, h2, h3, h4, h5, h6⟩ := h
  have e : 2 ^ (j + 1) = 2 ^ j + 2 ^ j := by rw [Nat.pow_succ]; omega
  rw [e] at h3
  refine ⟨?_, mod_pow_succ h2, by omega, h4, hlt, by omega⟩
  rw [h1, if_neg (by omega), Nat.add_sub_cancel]
  cases j with
  | zero => rfl
  | succ k => rw [if_neg (by omega), Nat.add_sub_cancel, Nat.pow_succ]; omega

/-- The whole part of the root of N is M. -/
def IsRoot (N M : Nat) : Prop := M * M ≤ N ∧ N < (M + 1) * (M + 1)

theorem isRoot_unique {N M K : Nat} (h : IsRoot N M) (k : IsRoot N K) : M = K := by
  rcases Nat.lt_trichotomy M K with l | l | l
  · have := Nat.mul_le_mul (show M + 1 ≤ K by omega) (show M + 1 ≤ K by omega); have := h.2; have := k.1; omega
  · exact l
  · have := Nat.mul_le_mul (show K + 1 ≤ M by omega) (show K + 1 ≤ M by omega); have := k.2; have := h.1; omega

end Go.Proofs.Ytdnpoacjamkhkaa
