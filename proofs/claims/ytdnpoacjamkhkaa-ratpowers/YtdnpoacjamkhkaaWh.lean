/- Plain arithmetic of a long division by two digits of 32 bits (no Go text is spoken of here). The walk of math/bits' Div64, of a divisor whose first bit is set: quotient and rest of two words by one. -/
import Derived.WalkKit
import Derived.Test.YtdnpoacjamkhkaaWd
import Derived.Deep.CutBlock
import Derived.Deep.CutRange
import Derived.Deep.LoopGhost
namespace Go.Proofs.Ytdnpoacjamkhkaa

theorem knuth_lt {u v y : Nat} (hu : u < y) (hv : v < 4294967296) : (u * 4294967296 + v) / y < 4294967296 := by
  refine Nat.div_lt_of_lt_mul ?_
  have h : (u + 1) * 4294967296 ≤ y * 4294967296 := Nat.mul_le_mul_right _ hu
  omega

theorem knuth_start {u v y yn1 yn0 : Nat} (hy : y = yn1 * 4294967296 + yn0) (h1 : 2147483648 ≤ yn1) (hv : v < 4294967296) : (u * 4294967296 + v) / y ≤ u / yn1 := by
  rw [Nat.le_div_iff_mul_le (by omega)]
  have h := Nat.div_mul_le_self (u * 4294967296 + v) y
  generalize (u * 4294967296 + v) / y = q at *
  subst hy
  rw [Nat.mul_add, ← Nat.mul_assoc] at h
  have h2 : q * yn1 * 4294967296 < (u + 1) * 4294967296 := by omega
  have h3 := Nat.lt_of_mul_lt_mul_right h2
  omega

theorem knuth_top {u y yn1 yn0 : Nat} (hy : y = yn1 * 4294967296 + yn0) (h1 : 2147483648 ≤ yn1) (h0 : yn0 < 4294967296) (hu : u < y) : u / yn1 ≤ 4294967297 := by
  have : u / yn1 < 4294967298 := by
    refine Nat.div_lt_of_lt_mul ?_
    omega
  omega

theorem knuth_step {u v y yn1 yn0 a b : Nat} (hy : y = yn1 * 4294967296 + yn0) (h1 : 2147483648 ≤ yn1) (h : b + a * yn1 = u) : (u * 4294967296 + v) / y < a ↔ 4294967296 * b + v < a * yn0 := by
  rw [Nat.div_lt_iff_lt_mul (by omega)]
  subst hy
  subst h
  rw [Nat.mul_add, ← Nat.mul_assoc, Nat.add_mul]
  omega

end Go.Proofs.Ytdnpoacjamkhkaa

namespace Go.Proofs.Ytdnpoacjamkhkaa
open Go.ChangeShapes Go.WideShapes Go.ChangeAt Go.RowKit

end Go.Proofs.Ytdnpoacjamkhkaa
