/- Plain facts on the words of float64: their order is the order of their places (no Go text is spoken of here). -/
import Derived.WalkKit
import Derived.Laws.Cover2
import Derived.Laws.FloatArith
namespace Go.Proofs.Yteapiigegbdopaa

/-- The word is no number. -/
def nanB (x : Nat) : Bool := decide (9218868437227405312 < x % 9223372036854775808)
/-- The place of a word in the order of all floats. -/
def key (x : Nat) : Int := if x < 9223372036854775808 then (x : Int) else 9223372036854775808 - (x : Int)
/-- What a rung stands for, in units of the least float above nought. -/
def val (r : Nat) : Nat := if r < 4503599627370496 then r else (4503599627370496 + r % 4503599627370496) * 2 ^ (r / 4503599627370496 - 1)

theorem val_step (r : Nat) : val r < val (r + 1) := by
  unfold val
  by_cases h : r + 1 < 4503599627370496
  · rw [if_pos (by omega), if_pos h]; omega
  · rw [if_neg h]
    by_cases h2 : r < 4503599627370496
    · rw [if_pos h2]
      have : r + 1 = 4503599627370496 := by omega
      rw [this]; simp; omega
    · rw [if_neg h2]
      by_cases h3 : r % 4503599627370496 + 1 < 4503599627370496
      · have e1 : (r + 1) % 4503599627370496 = r % 4503599627370496 + 1 := by omega
        have e2 : (r + 1) / 4503599627370496 = r / 4503599627370496 := by omega
        rw [e1, e2]
        exact Nat.mul_lt_mul_of_pos_right (by omega) (Nat.two_pow_pos _)
      · have e1 : (r + 1) % 4503599627370496 = 0 := by omega
        have e2 : (r + 1) / 4503599627370496 - 1 = (r / 4503599627370496 - 1) + 1 := by omega
        rw [e1, e2, Nat.pow_succ]
        have hp : 0 < 2 ^ (r / 4503599627370496 - 1) := Nat.two_pow_pos _
        have hm : (4503599627370496 + r % 4503599627370496) * 2 ^ (r / 4503599627370496 - 1) < 9007199254740992 * 2 ^ (r / 4503599627370496 - 1) := Nat.mul_lt_mul_of_pos_right (by omega) hp
        omega

theorem val_mono {r s : Nat} (h : r < s) : val r < val s := by
  induction s with
  | zero => omega
  | succ s ih =>
    by_cases e : r = s
    · subst e; exact val_step _
    · exact Nat.lt_trans (ih (by omega)) (val_step s)

theorem val_zero : val 0 = 0 := rfl

theorem val_lt_iff (r s : Nat) : val r < val s ↔ r < s := by
  constructor
  · intro h
    rcases Nat.lt_trichotomy r s with h1 | h1 | h1
    · exact h1
    · subst h1; omega
    · have := val_mono h1; omega
  · exact val_mono

theorem val_eq_iff (r s : Nat) : val r = val s ↔ r = s := by
  constructor
  · intro h
    rcases Nat.lt_trichotomy r s with h1 | h1 | h1
    · have := val_mono h1; omega
    · exact h1
    · have := val_mono h1; omega
  · rintro rfl; rfl

def sgn (s : Bool) (n : Nat) : Int := if s then -(n : Int) else n

theorem compare_int (a b : Int) : compare a b = if a < b then .lt else if a = b then .eq else .gt := rfl

theorem compare_sgn_val (s t : Bool) (m n : Nat) : compare (sgn s (val m)) (sgn t (val n)) = compare (sgn s m) (sgn t n) := by
  have h0 := val_zero
  have h1 := val_lt_iff m n
  have h2 := val_lt_iff n m
  have h5 := val_lt_iff 0 m
  have h6 := val_lt_iff 0 n
  have h3 : m = n → val m = val n := fun e => by rw [e]
  cases s <;> cases t <;> simp only [sgn, compare_int, if_true, Bool.false_eq_true, if_false] <;> (split <;> split <;> (try split) <;> (try split) <;> first | rfl | (exfalso; omega))

theorem signed_eq (s : Bool) (m up : Nat) : Ieee.signed s m up = sgn s (m * 2 ^ up) := by
  unfold Ieee.signed sgn
  rw [Nat.shiftLeft_eq]

theorem sgn_mul (s : Bool) (n k : Nat) : sgn s (n * k) = sgn s n * (k : Int) := by
  cases s <;> simp [sgn, Int.neg_mul]

theorem compare_scale (a b : Int) {k : Int} (hk : 0 < k) : compare (a * k) (b * k) = compare a b := by
  simp only [compare_int]
  have h1 : a * k < b * k ↔ a < b := ⟨fun h => by
    rcases Int.lt_or_le a b with h2 | h2
    · exact h2
    · have := Int.mul_le_mul_of_nonneg_right h2 (Int.le_of_lt hk); omega, fun h => Int.mul_lt_mul_of_pos_right h hk⟩
  have h2 : a * k = b * k ↔ a = b := ⟨fun h => Int.eq_of_mul_eq_mul_right (by omega) h, fun h => by rw [h]⟩
  simp only [h1, h2]

theorem compare_signed (s t : Bool) (m n a b : Nat) :
    compare (Ieee.signed s m (a - min a b)) (Ieee.signed t n (b - min a b)) = compare (sgn s (m * 2 ^ a)) (sgn t (n * 2 ^ b)) := by
  rw [signed_eq, signed_eq]
  have e1 : 2 ^ a = 2 ^ (a - min a b) * 2 ^ (min a b) := by rw [← Nat.pow_add]; congr 1; omega
  have e2 : 2 ^ b = 2 ^ (b - min a b) * 2 ^ (min a b) := by rw [← Nat.pow_add]; congr 1; omega
  rw [e1, e2, ← Nat.mul_assoc, ← Nat.mul_assoc, sgn_mul s _ (2 ^ min a b), sgn_mul t _ (2 ^ min a b)]
  rw [compare_scale]
  exact_mod_cast Nat.two_pow_pos _

theorem order_numbers (s t : Bool) (m n a b : Nat) (l : Int) :
    Ieee.Datum.order (.number s m (l + a)) (.number t n (l + b)) = some (compare (sgn s (m * 2 ^ a)) (sgn t (n * 2 ^ b))) := by
  unfold Ieee.Datum.order
  have e : min (l + (a : Int)) (l + (b : Int)) = l + ((min a b : Nat) : Int) := by omega
  simp only [e]
  have e1 : (l + (a : Int) - (l + ((min a b : Nat) : Int))).toNat = a - min a b := by omega
  have e2 : (l + (b : Int) - (l + ((min a b : Nat) : Int))).toNat = b - min a b := by omega
  rw [e1, e2, compare_signed]

/-- How a word reads. -/
theorem read_eq (x : Nat) (hx : x < 18446744073709551616) :
    Ieee.double.read x =
      (if x % 9223372036854775808 < 9218868437227405312 then
        .number (decide (9223372036854775808 ≤ x)) (if x % 9223372036854775808 < 4503599627370496 then x % 9223372036854775808 else 4503599627370496 + x % 4503599627370496)
          (-1074 + ((x % 9223372036854775808 / 4503599627370496 - 1 : Nat) : Int))
       else if x % 9223372036854775808 = 9218868437227405312 then .infinity (decide (9223372036854775808 ≤ x))
       else .nan (decide (9223372036854775808 ≤ x)) (x % 9223372036854775808 - 9218868437227405312)) := by
  unfold Ieee.Format.read
  have hs : Ieee.double.signWeight = 9223372036854775808 := by decide
  have hb : Ieee.double.binade = 4503599627370496 := by decide
  have hi : Ieee.double.infRung = 9218868437227405312 := by decide
  have hl : Ieee.double.leastPlace = -1074 := by decide
  simp only [hs, hb, hi, hl]
  have hneg : (x / 9223372036854775808 % 2 == 1) = decide (9223372036854775808 ≤ x) := by
    by_cases h : 9223372036854775808 ≤ x
    · have : x / 9223372036854775808 = 1 := by omega
      simp [h, this]
    · have : x / 9223372036854775808 = 0 := by omega
      simp [h, this]
  have hmm : x % 9223372036854775808 % 4503599627370496 = x % 4503599627370496 := by omega
  rw [hneg]
  by_cases h1 : x % 9223372036854775808 < 4503599627370496
  · have h2 : x % 9223372036854775808 < 9218868437227405312 := by omega
    have h3 : x % 9223372036854775808 / 4503599627370496 - 1 = 0 := by omega
    simp only [if_pos h1, if_pos h2, h3]
    rfl
  · simp only [if_neg h1, hmm]

theorem val_mag (r : Nat) : (if r < 4503599627370496 then r else 4503599627370496 + r % 4503599627370496) * 2 ^ (r / 4503599627370496 - 1) = val r := by
  unfold val
  by_cases h : r < 4503599627370496
  · have : r / 4503599627370496 - 1 = 0 := by omega
    simp [h, this]
  · simp [h]

theorem key_sgn (x : Nat) (hx : x < 18446744073709551616) : key x = sgn (decide (9223372036854775808 ≤ x)) (x % 9223372036854775808) := by
  unfold key sgn
  by_cases h : 9223372036854775808 ≤ x
  · rw [if_neg (by omega)]; simp only [h, decide_true, if_true]; omega
  · rw [if_pos (by omega)]; simp only [h, decide_false, Bool.false_eq_true, if_false]; omega

/-- THE ORDER OF WORDS IS THE ORDER OF THEIR PLACES. -/
theorem order_eq (x y : Nat) (hx : x < 18446744073709551616) (hy : y < 18446744073709551616) :
    FloatKind.f64.format.order x y = if nanB x || nanB y then none else some (compare (key x) (key y)) := by
  show (Ieee.double.read x).order (Ieee.double.read y) = _
  rw [read_eq x hx, read_eq y hy, key_sgn x hx, key_sgn y hy]
  have hmx : x % 4503599627370496 = x % 9223372036854775808 % 4503599627370496 := by omega
  have hmy : y % 4503599627370496 = y % 9223372036854775808 % 4503599627370496 := by omega
  rw [hmx, hmy]
  unfold nanB
  generalize decide (9223372036854775808 ≤ x) = s
  generalize decide (9223372036854775808 ≤ y) = t
  generalize x % 9223372036854775808 = r
  generalize y % 9223372036854775808 = q
  by_cases hr : r < 9218868437227405312
  · have hr' : ¬ 9218868437227405312 < r := by omega
    by_cases hq : q < 9218868437227405312
    · have hq' : ¬ 9218868437227405312 < q := by omega
      simp only [if_pos hr, if_pos hq, hr', hq', decide_false, Bool.or_self, Bool.false_eq_true, if_false]
      rw [order_numbers, val_mag, val_mag, compare_sgn_val]
    · by_cases hq2 : q = 9218868437227405312
      · subst hq2
        have : ¬ 9218868437227405312 < 9218868437227405312 := by omega
        simp only [if_pos hr, hr', this, decide_false, Bool.or_self, Bool.false_eq_true, if_false, if_true, Ieee.Datum.order]
        cases s <;> cases t <;> simp only [sgn, compare_int, if_true, Bool.false_eq_true, if_false] <;> (split <;> (try split) <;> first | rfl | (exfalso; omega))
      · have : 9218868437227405312 < q := by omega
        simp only [if_pos hr, if_neg hq, if_neg hq2, this, decide_true, Bool.or_true, if_true, Ieee.Datum.order]
  · by_cases hr2 : r = 9218868437227405312
    · subst hr2
      have h0 : ¬ 9218868437227405312 < 9218868437227405312 := by omega
      by_cases hq : q < 9218868437227405312
      · have hq' : ¬ 9218868437227405312 < q := by omega
        simp only [if_pos hq, hq', h0, decide_false, Bool.or_self, Bool.false_eq_true, if_false, if_true, Ieee.Datum.order]
        cases s <;> cases t <;> simp only [sgn, compare_int, if_true, Bool.false_eq_true, if_false] <;> (split <;> (try split) <;> first | rfl | (exfalso; omega))
      · by_cases hq2 : q = 9218868437227405312
        · subst hq2
          simp only [h0, decide_false, Bool.or_self, Bool.false_eq_true, if_false, if_true, Ieee.Datum.order]
          cases s <;> cases t <;> rfl
        · have : 9218868437227405312 < q := by omega
          simp only [if_neg hq, if_neg hq2, this, h0, decide_true, Bool.or_true, if_true, Ieee.Datum.order, if_false]
    · have : 9218868437227405312 < r := by omega
      simp only [if_neg hr, if_neg hr2, this, decide_true, Bool.true_or, if_true, Ieee.Datum.order]

end Go.Proofs.Yteapiigegbdopaa
