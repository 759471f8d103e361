/- The walks of math/bits' LeadingZeros64 and Mul64: how many bits a word has; the product of two words. -/
import Derived.Test.YteapiigegbdopaaWa
import Derived.Test.YteapiigegbdopaaWm
import Derived.Lib.BitFns
import Derived.Laws.Bits64b
namespace Go.Proofs.Yteapiigegbdopaa
open Go.RowKit

theorem bitLen_log2 (m : Nat) (h0 : m ≠ 0) (h : m < 18446744073709551616) : Lib.bitLen m = m.log2 + 1 := by
  have hl : m.log2 < 64 := (Nat.log2_lt h0).2 h
  have h1 := Lib.bitLen_shift m.log2 m (Nat.log2_self_le h0) h
  have h2 : m / 2 ^ m.log2 = 1 := by
    have a := Nat.log2_self_le h0
    have b := @Nat.lt_log2_self m
    rw [Nat.pow_succ] at b
    have hp : 0 < 2 ^ m.log2 := Nat.two_pow_pos _
    have l1 : 1 ≤ m / 2 ^ m.log2 := (Nat.le_div_iff_mul_le hp).2 (by omega)
    have l2 : m / 2 ^ m.log2 < 2 := (Nat.div_lt_iff_lt_mul hp).2 (by omega)
    omega
  rw [h1, h2]
  rfl

theorem lz_w (m : Nat) (h0 : m ≠ 0) (h : m < 18446744073709551616) (w : World) :
    Calls Try.prog 92 #[.int .u64 m] w fun e w' => e = .returned (.int .i64 ((63 - m.log2 : Nat) : Int)) ∧ w = w' := by
  have hl : m.log2 < 64 := (Nat.log2_lt h0).2 h
  have c := fun w => len64_i (m : Int) w (by omega) (by omega)
  rw [Int.toNat_natCast, bitLen_log2 m h0 h] at c
  have e : (64 : Int) - (((m.log2 + 1 : Nat)) : Int) = ((63 - m.log2 : Nat) : Int) := by omega
  generalize m.log2 + 1 = l at *
  go_enter Try.func92, Try.ntmps92
  go_wp2_with (go_at_call 94; refine (c _).mono ?_; rintro _ _ ⟨rfl, rfl⟩)
  all_goals (go_ret; exact ⟨rfl, rfl⟩)

theorem low32 (a : Nat) (ha : a < 18446744073709551616) : bits .and .u64 (a : Int) 4294967295 = ((a % 4294967296 : Nat) : Int) := by
  rw [show (4294967295 : Int) = ((4294967295 : Nat) : Int) from rfl, u64_and_nat a _ ha (by decide), nat_mask32]

/-- The upper word of a product, out of the products of the halves. -/
theorem upper_word {p00 p10 p01 p11 P : Nat} (hP : P = p11 * 18446744073709551616 + (p10 + p01) * 4294967296 + p00) :
    p11 + (p10 + p00 / 4294967296) / 4294967296 + ((p10 + p00 / 4294967296) % 4294967296 + p01) / 4294967296 = P / 18446744073709551616 := by
  subst hP; omega

theorem mul64_core (x y x0 x1 y0 y1 p00 c t t0 t1 s s1 p11 hi lo : Nat)
    (e1 : bits .and .u64 (x : Int) 4294967295 = (x0 : Int)) (e2 : (x : Int) / 4294967296 = (x1 : Int)) (e3 : bits .and .u64 (y : Int) 4294967295 = (y0 : Int)) (e4 : (y : Int) / 4294967296 = (y1 : Int))
    (e5 : IntKind.u64.wrap ((x0 : Int) * (y0 : Int)) = (p00 : Int)) (e6 : (p00 : Int) / 4294967296 = (c : Int)) (e7 : IntKind.u64.wrap (IntKind.u64.wrap ((x1 : Int) * (y0 : Int)) + (c : Int)) = (t : Int))
    (e8 : bits .and .u64 (t : Int) 4294967295 = (t0 : Int)) (e9 : (t : Int) / 4294967296 = (t1 : Int)) (e10 : IntKind.u64.wrap ((t0 : Int) + IntKind.u64.wrap ((x0 : Int) * (y1 : Int))) = (s : Int)) (e11 : (s : Int) / 4294967296 = (s1 : Int))
    (e12 : IntKind.u64.wrap ((x1 : Int) * (y1 : Int)) = (p11 : Int)) (e13 : IntKind.u64.wrap (IntKind.u64.wrap ((p11 : Int) + (t1 : Int)) + (s1 : Int)) = (hi : Int)) (e14 : IntKind.u64.wrap ((x : Int) * (y : Int)) = (lo : Int)) (w : World) :
    Calls Try.prog 80 #[.int .u64 x, .int .u64 y] w fun e w' => e = .returned (.tuple #[.int .u64 hi, .int .u64 lo]) ∧ w = w' := by
  go_enter Try.func80, Try.ntmps80
  go_wp2
  go_ret2
  exact ⟨rfl, rfl⟩

theorem mul64_w (x y : Nat) (hx : x < 18446744073709551616) (hy : y < 18446744073709551616) (w : World) :
    Calls Try.prog 80 #[.int .u64 x, .int .u64 y] w fun e w' => e = .returned (.tuple #[.int .u64 ((x * y / 18446744073709551616 : Nat) : Int), .int .u64 ((x * y % 18446744073709551616 : Nat) : Int)]) ∧ w = w' := by
  have le : ∀ a b : Nat, a < 4294967296 → b < 4294967296 → a * b ≤ 18446744065119617025 := fun a b h k => Nat.mul_le_mul (show a ≤ 4294967295 by omega) (show b ≤ 4294967295 by omega)
  have b00 := le (x % 4294967296) (y % 4294967296) (by omega) (by omega)
  have b10 := le (x / 4294967296) (y % 4294967296) (by omega) (by omega)
  have b01 := le (x % 4294967296) (y / 4294967296) (by omega) (by omega)
  have b11 := le (x / 4294967296) (y / 4294967296) (by omega) (by omega)
  have hP : x * y = x / 4294967296 * (y / 4294967296) * 18446744073709551616 + (x / 4294967296 * (y % 4294967296) + x % 4294967296 * (y / 4294967296)) * 4294967296 + x % 4294967296 * (y % 4294967296) := by
    have ex : x = x / 4294967296 * 4294967296 + x % 4294967296 := by omega
    have ey : y = y / 4294967296 * 4294967296 + y % 4294967296 := by omega
    generalize x / 4294967296 = u at *
    generalize x % 4294967296 = v at *
    generalize y / 4294967296 = r at *
    generalize y % 4294967296 = q at *
    subst ex ey
    grind
  have hup := upper_word hP
  have hlt : x * y < 18446744073709551616 * 18446744073709551616 := Nat.mul_lt_mul'' hx hy
  have k00 : (((x % 4294967296 : Nat) : Int)) * ((y % 4294967296 : Nat) : Int) = ((x % 4294967296 * (y % 4294967296) : Nat) : Int) := (Int.natCast_mul _ _).symm
  have k10 : (((x / 4294967296 : Nat) : Int)) * ((y % 4294967296 : Nat) : Int) = ((x / 4294967296 * (y % 4294967296) : Nat) : Int) := (Int.natCast_mul _ _).symm
  have k01 : (((x % 4294967296 : Nat) : Int)) * ((y / 4294967296 : Nat) : Int) = ((x % 4294967296 * (y / 4294967296) : Nat) : Int) := (Int.natCast_mul _ _).symm
  have k11 : (((x / 4294967296 : Nat) : Int)) * ((y / 4294967296 : Nat) : Int) = ((x / 4294967296 * (y / 4294967296) : Nat) : Int) := (Int.natCast_mul _ _).symm
  have kxy : (x : Int) * (y : Int) = ((x * y : Nat) : Int) := (Int.natCast_mul _ _).symm
  generalize x % 4294967296 * (y % 4294967296) = p00 at *
  generalize x / 4294967296 * (y % 4294967296) = p10 at *
  generalize x % 4294967296 * (y / 4294967296) = p01 at *
  generalize x / 4294967296 * (y / 4294967296) = p11 at *
  refine mul64_core x y (x % 4294967296) (x / 4294967296) (y % 4294967296) (y / 4294967296) p00 (p00 / 4294967296) (p10 + p00 / 4294967296) ((p10 + p00 / 4294967296) % 4294967296) ((p10 + p00 / 4294967296) / 4294967296)
    ((p10 + p00 / 4294967296) % 4294967296 + p01) (((p10 + p00 / 4294967296) % 4294967296 + p01) / 4294967296) p11 _ _ (low32 x hx) (by omega) (low32 y hy) (by omega) ?_ (by omega) ?_ (low32 _ (by omega)) (by omega) ?_ (by omega) ?_ ?_ ?_ w
  · rw [k00, IntKind.wrap_u64]; omega
  · rw [k10, IntKind.wrap_u64, IntKind.wrap_u64]; omega
  · rw [k01, IntKind.wrap_u64, IntKind.wrap_u64]; omega
  · rw [k11, IntKind.wrap_u64]; omega
  · rw [IntKind.wrap_u64, IntKind.wrap_u64]; generalize x * y = z at *; omega
  · rw [kxy, IntKind.wrap_u64]; generalize x * y = z at *; omega

theorem i64_odd (n : Int) : bits .and .i64 n 1 = n % 2 := by
  show IntKind.i64.wrap ((BitVec.ofInt 64 n &&& BitVec.ofInt 64 1).toNat : Nat) = _
  rw [BitVec.toNat_and, show (BitVec.ofInt 64 1).toNat = 1 from rfl, Nat.and_one_is_mod, BitVec.toNat_ofInt, IntKind.wrap_i64]
  omega

end Go.Proofs.Yteapiigegbdopaa
