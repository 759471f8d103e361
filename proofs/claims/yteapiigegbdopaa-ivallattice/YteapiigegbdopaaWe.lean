/- The walk of Split: how the program takes a float apart. -/
import Derived.Test.YteapiigegbdopaaWd
namespace Go.Proofs.Yteapiigegbdopaa
open Go.ChangeShapes Go.WideShapes Go.ChangeAt Go.RowKit

def splitG (x : Nat) : Bool := decide (9223372036854775808 < x)
def splitM (x : Nat) : Nat := if x % 9223372036854775808 < 4503599627370496 then x % 9223372036854775808 else 4503599627370496 + x % 4503599627370496
def splitE (x : Nat) : Int := if x % 9223372036854775808 = 0 then 0 else -1074 + ((x % 9223372036854775808 / 4503599627370496 - 1 : Nat) : Int)

theorem split_not (x : Nat) (hx : x < 18446744073709551616) (hf : finB x = false) (w : World) :
    Calls Try.prog 47 #[.float .f64 x] w fun r w' => r = .returned (.tuple #[.agg #[.bool false, .int .u64 0, .int .i64 0], .bool false]) ∧ Below w.heap.size w w' := by
  go_enter Try.func47, Try.ntmps47
  go_wp2_with (go_at_call 74; refine (isFinite_w _ hx _).mono ?_; rintro _ _ ⟨rfl, rfl⟩)
  all_goals (go_returns; refine ⟨rfl, ?_⟩; go_grown)

theorem split_zero (x : Nat) (hx : x < 18446744073709551616) (hf : finB x = true) (ho : FloatKind.f64.format.order x 0 = some .eq) (w : World) :
    Calls Try.prog 47 #[.float .f64 x] w fun r w' => r = .returned (.tuple #[.agg #[.bool false, .int .u64 0, .int .i64 0], .bool true]) ∧ Below w.heap.size w w' := by
  go_enter Try.func47, Try.ntmps47
  go_wp2_with (go_at_call 74; refine (isFinite_w _ hx _).mono ?_; rintro _ _ ⟨rfl, rfl⟩)
  all_goals (go_returns; refine ⟨rfl, ?_⟩; go_grown)

theorem split_core (x f ex fx : Nat) (g : Bool) (hx : x < 18446744073709551616) (hf : finB x = true) (ho : FloatKind.f64.format.order x 0 = some .lt ∨ FloatKind.f64.format.order x 0 = some .gt)
    (h1 : (bits .and .u64 (x : Int) 9223372036854775808 != 0) = g) (h2 : bits .and .u64 (x : Int) 4503599627370495 = (f : Int)) (h3 : bits .and .u64 ((x : Int) / 4503599627370496) 2047 = (ex : Int))
    (h4 : bits .or .u64 (f : Int) 4503599627370496 = (fx : Int)) (hex : ex < 2048) (w : World) :
    Calls Try.prog 47 #[.float .f64 x] w fun r w' => r = .returned (.tuple #[.agg #[.bool g, .int .u64 (if ex = 0 then f else fx), .int .i64 (-1074 + ((ex - 1 : Nat) : Int))], .bool true]) ∧ Below w.heap.size w w' := by
  by_cases h0 : ex = 0
  · subst h0
    have e1 : (if (0 : Nat) = 0 then (f : Int) else (fx : Int)) = f := rfl
    have e2 : (-1074 : Int) + ((0 - 1 : Nat) : Int) = -1074 := rfl
    rw [e1, e2]
    rcases ho with ho | ho
    all_goals
      go_enter Try.func47, Try.ntmps47
      go_wp2_with (go_at_call 74; refine (isFinite_w _ hx _).mono ?_; rintro _ _ ⟨rfl, rfl⟩)
      all_goals (go_returns; refine ⟨rfl, ?_⟩; go_grown)
  · have e1 : (if ex = 0 then (f : Int) else (fx : Int)) = fx := by rw [if_neg h0]
    have e2 : ((ex - 1 : Nat) : Int) = (ex : Int) - 1 := by omega
    have hp : (0 : Int) < (ex : Int) := by omega
    rw [e1, e2]
    clear e1 e2
    rcases ho with ho | ho
    all_goals
      go_enter Try.func47, Try.ntmps47
      go_wp2_with (go_at_call 74; refine (isFinite_w _ hx _).mono ?_; rintro _ _ ⟨rfl, rfl⟩)
      all_goals (go_returns; refine ⟨rfl, ?_⟩; go_grown)

theorem split_w (x : Nat) (hx : x < 18446744073709551616) (hf : finB x = true) (w : World) :
    Calls Try.prog 47 #[.float .f64 x] w fun r w' => r = .returned (.tuple #[.agg #[.bool (splitG x), .int .u64 (splitM x), .int .i64 (splitE x)], .bool true]) ∧ Below w.heap.size w w' := by
  have hr : x % 9223372036854775808 < 9218868437227405312 := by simpa [finB] using hf
  have hcases : (FloatKind.f64.format.order x 0 = some .eq ∧ x % 9223372036854775808 = 0) ∨ ((FloatKind.f64.format.order x 0 = some .lt ∨ FloatKind.f64.format.order x 0 = some .gt) ∧ x % 9223372036854775808 ≠ 0) := by
    rcases cases0 x hx with ⟨_, _, hc⟩ | ⟨_, ho, hc⟩ | ⟨_, ho, hc⟩ | ⟨_, ho, hc⟩
    · omega
    · exact Or.inl ⟨ho, hc⟩
    · exact Or.inr ⟨Or.inr ho, by omega⟩
    · exact Or.inr ⟨Or.inl ho, by omega⟩
  rcases hcases with ⟨ho, hz⟩ | ⟨ho, hz⟩
  · have e1 : splitG x = false := by unfold splitG; simp; omega
    have e2 : splitM x = 0 := by unfold splitM; rw [if_pos (by omega), hz]
    have e3 : splitE x = 0 := by unfold splitE; rw [if_pos hz]
    rw [e1, e2, e3]
    exact split_zero x hx hf ho w
  · have g1 : (bits .and .u64 (x : Int) 9223372036854775808 != 0) = splitG x := by
      rw [show (9223372036854775808 : Int) = ((9223372036854775808 : Nat) : Int) from rfl, u64_and_nat x _ hx (by decide)]
      have := nat_bit 63 x
      rw [show (2 : Nat) ^ 63 = 9223372036854775808 from rfl] at this
      rw [this]
      unfold splitG
      rw [Bool.eq_iff_iff]
      simp only [bne_iff_ne, ne_eq, decide_eq_true_eq]
      omega
    have g2 : bits .and .u64 (x : Int) 4503599627370495 = ((x % 4503599627370496 : Nat) : Int) := by
      rw [show (4503599627370495 : Int) = ((4503599627370495 : Nat) : Int) from rfl, u64_and_nat x _ hx (by decide)]
      rw [Nat.and_two_pow_sub_one_eq_mod x 52]
    have g3 : bits .and .u64 ((x : Int) / 4503599627370496) 2047 = ((x / 4503599627370496 % 2048 : Nat) : Int) := by
      rw [show (x : Int) / 4503599627370496 = ((x / 4503599627370496 : Nat) : Int) by omega, show (2047 : Int) = ((2047 : Nat) : Int) from rfl, u64_and_nat _ _ (by omega) (by decide), nat_mask11]
    have g4 : bits .or .u64 ((x % 4503599627370496 : Nat) : Int) 4503599627370496 = ((4503599627370496 + x % 4503599627370496 : Nat) : Int) := by
      rw [show (4503599627370496 : Int) = ((4503599627370496 : Nat) : Int) from rfl, u64_or_nat _ _ (by omega) (by decide)]
      have h := nat_join 52 4503599627370496 (x % 4503599627370496) (by decide) (by omega)
      rw [Nat.or_comm, h]
    have hc := split_core x _ _ _ _ hx hf ho g1 g2 g3 g4 (by omega) w
    have e2 : (if x / 4503599627370496 % 2048 = 0 then ((x % 4503599627370496 : Nat) : Int) else ((4503599627370496 + x % 4503599627370496 : Nat) : Int)) = ((splitM x : Nat) : Int) := by
      unfold splitM
      by_cases h : x % 9223372036854775808 < 4503599627370496
      · rw [if_pos h, if_pos (by omega)]; omega
      · rw [if_neg h, if_neg (by omega)]
    have e3 : (-1074 : Int) + ((x / 4503599627370496 % 2048 - 1 : Nat) : Int) = splitE x := by
      unfold splitE
      rw [if_neg hz]
      omega
    rw [e2, e3] at hc
    exact hc

theorem splitM_lt (x : Nat) : splitM x < 9007199254740992 := by unfold splitM; split <;> omega
theorem splitE_bounds {x : Nat} (hf : finB x = true) : -1074 ≤ splitE x ∧ splitE x ≤ 971 := by
  have hr : x % 9223372036854775808 < 9218868437227405312 := by simpa [finB] using hf
  unfold splitE; split <;> omega

end Go.Proofs.Yteapiigegbdopaa
