/- The walk of Same, and plain facts on signs and neighbours of float64's words. -/
import Derived.Test.YteapiigegbdopaaWa
namespace Go.Proofs.Yteapiigegbdopaa
open Go.ChangeShapes Go.WideShapes Go.ChangeAt Go.RowKit

theorem nanB_key {x : Nat} (hx : x < 18446744073709551616) (hn : nanB x = false) : -9218868437227405312 ≤ key x ∧ key x ≤ 9218868437227405312 := by
  unfold nanB at hn; simp at hn; unfold key; split <;> omega

/-- The word with the other sign. -/
def negB (x : Nat) : Nat := if x < 9223372036854775808 then x + 9223372036854775808 else x - 9223372036854775808
theorem negB_lt {x : Nat} (hx : x < 18446744073709551616) : negB x < 18446744073709551616 := by unfold negB; split <;> omega
theorem negB_negB {x : Nat} (hx : x < 18446744073709551616) : negB (negB x) = x := by unfold negB; split <;> split <;> omega
theorem key_negB {x : Nat} (hx : x < 18446744073709551616) : key (negB x) = - key x := by unfold key negB; (repeat' split) <;> omega
theorem nanB_negB {x : Nat} (hx : x < 18446744073709551616) : nanB (negB x) = nanB x := by
  have h : negB x % 9223372036854775808 = x % 9223372036854775808 := by unfold negB; split <;> omega
  unfold nanB
  rw [h]
theorem ofKey_lt {i : Int} (h1 : -9223372036854775808 < i) (h2 : i < 9223372036854775808) : ofKey i < 18446744073709551616 := by
  unfold ofKey; split <;> omega
theorem nextB_lt {x : Nat} (hx : x < 18446744073709551616) : nextB x < 18446744073709551616 := by
  unfold nextB
  by_cases hn : nanB x = true
  · rw [if_pos hn]; exact hx
  · have hn' : nanB x = false := by simpa using hn
    have hk := nanB_key hx hn'
    rw [if_neg hn]
    split
    · exact hx
    · exact ofKey_lt (by omega) (by omega)

@[go_sem] theorem unary_neg_f64 (x : Nat) (w : World) : (Op.unary .neg (.float .f64 x)).run Try.prog w = .ok (.float .f64 (Op.negFloat .f64 x)) w := rfl

/-- What Same answers. -/
def sameB (a b : Nat) : Bool := if nanB a || nanB b then nanB a && nanB b else decide (a = b)

theorem same_w (a b : Nat) (ha : a < 18446744073709551616) (hb : b < 18446744073709551616) (w : World) :
    Calls Try.prog 60 #[.float .f64 a, .float .f64 b] w fun e w' => e = .returned (.bool (sameB a b)) ∧ w = w' := by
  have hs : nanB a = false → nanB b = false → sameB a b = ((a : Int) == (b : Int)) := fun h1 h2 => by
    unfold sameB; rw [h1, h2]
    by_cases e : a = b
    · subst e; simp
    · have : ¬ (a : Int) = (b : Int) := by omega
      simp [e, this]
  have hs2 : (nanB a || nanB b) = true → sameB a b = (nanB a && nanB b) := fun h => by unfold sameB; rw [if_pos h]
  cases hna : nanB a <;> cases hnb : nanB b
  · rw [hs hna hnb]; clear hs hs2
    go_enter Try.func60, Try.ntmps60
    go_wp2_with (first | (go_at_call 85; refine (isNum_w _ (by assumption) _).mono ?_; rintro _ _ ⟨rfl, rfl⟩))
    all_goals (go_ret; exact ⟨rfl, rfl⟩)
  all_goals
    rw [hs2 (by rw [hna, hnb]; rfl), hna, hnb]; clear hs hs2
    go_enter Try.func60, Try.ntmps60
    go_wp2_with (first | (go_at_call 85; refine (isNum_w _ (by assumption) _).mono ?_; rintro _ _ ⟨rfl, rfl⟩))
    all_goals (go_ret; exact ⟨rfl, rfl⟩)

theorem sameB_refl (a : Nat) : sameB a a = true := by unfold sameB; cases nanB a <;> simp

end Go.Proofs.Yteapiigegbdopaa
