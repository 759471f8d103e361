/- The walks of math/bits' LeadingZeros64 and Mul64: how many bits a word has; the product of two words. -/
import Derived.Test.YtmkkaljmhagdfabWa
import Derived.Test.YtmkkaljmhagdfabWm
import Derived.Lib.BitFns
import Derived.Lib.Mul64
import Derived.Laws.Bits64b
namespace Go.Proofs.Ytmkkaljmhagdfab
open Go.RowKit

theorem bitLen_log2 (m : Nat) (h0 : m ≠ 0) (h : m < 18446744073709551616) : Lib.bitLen m = m.log2 + 1 := by
  have hl : m.log2 < 64 := (Nat.log2_lt h0).2 h
  have h1 := Lib.bitLen_shift m.log2 m (Nat.log2_self_le h0) h
  have h2 : m / 2 ^ m.log2 = 1 := by
    have a := Nat.log2_self_le h0
    have b := @Nat.lt_log2_self m
    rw [Nat.pow_succ] at b
    have hp : 0 < 2 ^ m.log2 := Nat.two_pow_pos _
    have l1 : 1 ≤ m / 2 ^ m.log2 := (Nat.le_div_iff_mul_le hp).2 (by omega)
    have l2 : m / 2 ^ m.log2 < 2 := (Nat.div_lt_iff_lt_mul hp).2 (by omega)
    omega
  rw [h1, h2]
  rfl

theorem lz_w (m : Nat) (h0 : m ≠ 0) (h : m < 18446744073709551616) (w : World) :
    Calls Try.prog 39 #[.int .u64 m] w fun e w' => e = .returned (.int .i64 ((63 - m.log2 : Nat) : Int)) ∧ w = w' := by
  have hl : m.log2 < 64 := (Nat.log2_lt h0).2 h
  have c := fun w => len64_i (m : Int) w (by omega) (by omega)
  rw [Int.toNat_natCast, bitLen_log2 m h0 h] at c
  have e : (64 : Int) - (((m.log2 + 1 : Nat)) : Int) = ((63 - m.log2 : Nat) : Int) := by omega
  generalize m.log2 + 1 = l at *
  go_enter Try.func39, Try.ntmps39
  go_wp2_with (go_at_call 40; refine (c _).mono ?_; rintro _ _ ⟨rfl, rfl⟩)
  all_goals (go_ret; exact ⟨rfl, rfl⟩)

namespace mul64
theorem maskN (a : Nat) (ha : a < 18446744073709551616) : bits .and .u64 (a : Int) 4294967295 = ((a % 4294967296 : Nat) : Int) := by
  have h := bits_and_u64_nat a 4294967295 ha (by omega)
  have e : a &&& 4294967295 = a % 4294967296 := Nat.and_two_pow_sub_one_eq_mod a 32
  rw [e] at h
  exact h
theorem divN (a : Nat) : (a : Int) / 4294967296 = ((a / 4294967296 : Nat) : Int) := by omega
theorem mulN (a b : Nat) : (a : Int) * (b : Int) = ((a * b : Nat) : Int) := (Int.natCast_mul a b).symm
theorem addN (a b : Nat) : (a : Int) + (b : Int) = ((a + b : Nat) : Int) := (Int.natCast_add a b).symm
theorem wrapN (a : Nat) (ha : a < 18446744073709551616) : IntKind.u64.wrap (a : Int) = (a : Int) := by rw [IntKind.wrap_u64]; omega
theorem wrapM (a : Nat) : IntKind.u64.wrap (a : Int) = ((a % 18446744073709551616 : Nat) : Int) := by rw [IntKind.wrap_u64]; omega
end mul64

set_option maxHeartbeats 1000000 in
theorem mul64_w (x y : Nat) (hx : x < 18446744073709551616) (hy : y < 18446744073709551616) (w : World) :
    Calls Try.prog 32 #[.int .u64 x, .int .u64 y] w fun e w' => e = .returned (.tuple #[.int .u64 ((x * y / 18446744073709551616 : Nat) : Int), .int .u64 ((x * y % 18446744073709551616 : Nat) : Int)]) ∧ w = w' := by
  obtain ⟨bd, bt, bw, hhi⟩ := Lib.mul64_hi x y hx hy
  have ba := Lib.half_mul_le (a := x / 4294967296) (b := y / 4294967296) (by omega) (by omega)
  have bb := Lib.half_mul_le (a := x / 4294967296) (b := y % 4294967296) (by omega) (by omega)
  have bc := Lib.half_mul_le (a := x % 4294967296) (b := y / 4294967296) (by omega) (by omega)
  have ba' : x / 4294967296 * (y / 4294967296) < 18446744073709551616 := by omega
  have bb' : x / 4294967296 * (y % 4294967296) < 18446744073709551616 := by omega
  have bc' : x % 4294967296 * (y / 4294967296) < 18446744073709551616 := by omega
  have bh1 : x / 4294967296 * (y / 4294967296) + (x / 4294967296 * (y % 4294967296) + x % 4294967296 * (y % 4294967296) / 4294967296) / 4294967296 < 18446744073709551616 := by omega
  have bh : x / 4294967296 * (y / 4294967296) + (x / 4294967296 * (y % 4294967296) + x % 4294967296 * (y % 4294967296) / 4294967296) / 4294967296 + ((x / 4294967296 * (y % 4294967296) + x % 4294967296 * (y % 4294967296) / 4294967296) % 4294967296 + x % 4294967296 * (y / 4294967296)) / 4294967296 < 18446744073709551616 := by omega
  go_enter Try.func32, Try.ntmps32
  go_wp2
  simp only [mul64.maskN x hx, mul64.maskN y hy, mul64.divN, mul64.mulN, mul64.addN, mul64.wrapN _ bd, mul64.wrapN _ bb', mul64.wrapN _ bt, mul64.maskN _ bt, mul64.wrapN _ bc', mul64.wrapN _ bw, mul64.wrapN _ ba', mul64.wrapN _ bh1, mul64.wrapN _ bh, mul64.wrapM (x * y)]
  rw [hhi]
  go_ret2
  exact ⟨rfl, rfl⟩

end Go.Proofs.Ytmkkaljmhagdfab
