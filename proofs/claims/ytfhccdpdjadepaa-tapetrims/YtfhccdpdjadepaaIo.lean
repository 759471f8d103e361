/- The walks of mirror, Neg, Add and Sub of intervals. The walks of Sub, leastProduct, stretch. The walk of Mul, of intervals that hold some number. -/
import Derived.Test.YtfhccdpdjadepaaIf
namespace Go.Proofs.Ytfhccdpdjadepaa
open Go.ChangeShapes Go.WideShapes Go.ChangeAt Go.RowKit

def emptyP : Nat × Nat := (infI 1, infI (-1))
def mirrorP (x : Nat × Nat) : Nat × Nat := makeP (negB x.2) (negB x.1)
def negP (x : Nat × Nat) : Nat × Nat := if hsB x.1 x.2 then mirrorP x else emptyP

end Go.Proofs.Ytfhccdpdjadepaa

namespace Go.Proofs.Ytfhccdpdjadepaa
open Go.ChangeShapes Go.WideShapes Go.ChangeAt Go.RowKit

/-- The product, rounded down, of words that are numbers. -/
def mulD (a b : Nat) : Nat := (mulR a b (-1)).getD 0
def lpP (a fl fh : Nat) : Nat := if ltB a 0 then mulD a fh else mulD a fl

theorem mulR_num {a b : Nat} (dir : Int) (na : nanB a = false) (nb : nanB b = false) : ∃ r, mulR a b dir = some r := by
  unfold mulR
  rw [na, nb]
  simp only [Bool.or_self, Bool.false_eq_true, if_false]
  split
  · exact ⟨_, rfl⟩
  · split <;> exact ⟨_, rfl⟩

theorem mulD_is {a b : Nat} (na : nanB a = false) (nb : nanB b = false) : mulR a b (-1) = some (mulD a b) := by
  obtain ⟨r, h⟩ := mulR_num (-1) na nb
  unfold mulD
  rw [h]; rfl

end Go.Proofs.Ytfhccdpdjadepaa

namespace Go.Proofs.Ytfhccdpdjadepaa
open Go.ChangeShapes Go.WideShapes Go.ChangeAt Go.RowKit

/-- The lesser, the greater of two words that are numbers. -/
def minW (a b : Nat) : Nat := if key a < key b then a else if key a = key b then (if (FloatKind.f64.decode a).neg then a else b) else b
def maxW (a b : Nat) : Nat := if key a < key b then b else if key a = key b then (if (FloatKind.f64.decode a).neg then b else a) else a

theorem min_f {a b : Nat} (ha : a < 18446744073709551616) (hb : b < 18446744073709551616) (na : nanB a = false) (nb : nanB b = false) (P : Program) (ts : Array TypeId) (t : TypeId) (w : World) :
    (Builtin.min_ ts t #[.float .f64 a, .float .f64 b]).run P w = .ok (.float .f64 (minW a b)) w := by
  have o := order_eq a b ha hb
  rw [na, nb] at o
  simp only [Bool.or_self, Bool.false_eq_true, if_false, compare_int] at o
  unfold minW
  by_cases c : key a < key b
  · rw [if_pos c] at o
    simp [Builtin.min_, Builtin.min2, o, c]
  · rw [if_neg c] at o
    by_cases d : key a = key b
    · rw [if_pos d] at o
      simp [Builtin.min_, Builtin.min2, o, d]
    · rw [if_neg d] at o
      simp [Builtin.min_, Builtin.min2, o, c, d]
theorem max_f {a b : Nat} (ha : a < 18446744073709551616) (hb : b < 18446744073709551616) (na : nanB a = false) (nb : nanB b = false) (P : Program) (ts : Array TypeId) (t : TypeId) (w : World) :
    (Builtin.max_ ts t #[.float .f64 a, .float .f64 b]).run P w = .ok (.float .f64 (maxW a b)) w := by
  have o := order_eq a b ha hb
  rw [na, nb] at o
  simp only [Bool.or_self, Bool.false_eq_true, if_false, compare_int] at o
  unfold maxW
  by_cases c : key a < key b
  · rw [if_pos c] at o
    simp [Builtin.max_, Builtin.max2, o, c]
  · rw [if_neg c] at o
    by_cases d : key a = key b
    · rw [if_pos d] at o
      simp [Builtin.max_, Builtin.max2, o, d]
    · rw [if_neg d] at o
      simp [Builtin.max_, Builtin.max2, o, c, d]
theorem minW_key (a b : Nat) : key (minW a b) = min (key a) (key b) ∧ (minW a b = a ∨ minW a b = b) := by
  unfold minW
  split
  · exact ⟨by omega, Or.inl rfl⟩
  · split
    · split
      · exact ⟨by omega, Or.inl rfl⟩
      · exact ⟨by omega, Or.inr rfl⟩
    · exact ⟨by omega, Or.inr rfl⟩
theorem maxW_key (a b : Nat) : key (maxW a b) = max (key a) (key b) ∧ (maxW a b = a ∨ maxW a b = b) := by
  unfold maxW
  split
  · exact ⟨by omega, Or.inr rfl⟩
  · split
    · split
      · exact ⟨by omega, Or.inr rfl⟩
      · exact ⟨by omega, Or.inl rfl⟩
    · exact ⟨by omega, Or.inl rfl⟩

end Go.Proofs.Ytfhccdpdjadepaa
