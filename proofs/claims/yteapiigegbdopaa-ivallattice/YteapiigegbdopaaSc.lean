/- Plain facts on the order of words, and what contracts tell of three answers. -/
import Derived.Test.YteapiigegbdopaaWv
namespace Go.Proofs.Yteapiigegbdopaa

theorem key_ofKey {i : Int} (h1 : -9223372036854775808 < i) (h2 : i < 9223372036854775808) : key (ofKey i) = i := by
  unfold key ofKey
  by_cases h : i < 0
  · rw [if_pos h, if_neg (by omega)]; omega
  · rw [if_neg h, if_pos (by omega)]; omega

theorem order_le {a b : Nat} (ha : a < 18446744073709551616) (hb : b < 18446744073709551616) (na : nanB a = false) (nb : nanB b = false) (h : key a ≤ key b) : (FloatKind.f64.format.order a b == some .lt || FloatKind.f64.format.order a b == some .eq) = true := by
  rw [order_eq a b ha hb, na, nb]
  simp only [Bool.or_self, Bool.false_eq_true, if_false, compare_int]
  by_cases c : key a < key b
  · rw [if_pos c]; rfl
  · rw [if_neg c, if_pos (by omega)]; rfl
theorem order_is {a b : Nat} (ha : a < 18446744073709551616) (hb : b < 18446744073709551616) (na : nanB a = false) (nb : nanB b = false) : (FloatKind.f64.format.order a b == some .eq) = decide (key a = key b) := by
  rw [order_eq a b ha hb, na, nb]
  simp only [Bool.or_self, Bool.false_eq_true, if_false, compare_int]
  by_cases c : key a < key b
  · have : ¬ key a = key b := by omega
    rw [if_pos c]; simp [this]
  · rw [if_neg c]
    by_cases e : key a = key b
    · rw [if_pos e]; simp [e]
    · rw [if_neg e]; simp [e]

theorem zero_or {x : Nat} (hx : x < 18446744073709551616) (hn : nanB x = false) (h0 : x ≠ 9223372036854775808) : x = 0 ∨ (FloatKind.f64.format.order x 0 == some .eq) = false := by
  by_cases c : x = 0
  · exact Or.inl c
  · refine Or.inr ?_
    rw [ord_zero hx hn]
    unfold isZ
    simp only [decide_eq_false_iff_not]
    omega

/-- Three answers, each told by what the call's contract says of it. -/
def SidesO (o1 o2 o3 : Option Nat) : Prop := (o1 = none ∧ o2 = none ∧ o3 = none) ∨ ∃ d n u, o1 = some d ∧ o2 = some n ∧ o3 = some u ∧ SidesOK d n u
def Told (o : Option Nat) (r : Nat) : Prop := r < 18446744073709551616 ∧ match o with | some v => r = v | none => nanB r = true

end Go.Proofs.Yteapiigegbdopaa
