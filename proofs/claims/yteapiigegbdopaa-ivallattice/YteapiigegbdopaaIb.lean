/- The walks of holdsSome and someEmpty: which intervals hold some number. -/
import Derived.Test.YteapiigegbdopaaIa
import Derived.Deep.LoopGhost
namespace Go.Proofs.Yteapiigegbdopaa
open Go.ChangeShapes Go.WideShapes Go.ChangeAt Go.RowKit

/-- The tests that floats' operators make, by the places. -/
def leB (a b : Nat) : Bool := !nanB a && !nanB b && decide (key a ≤ key b)
def ltB (a b : Nat) : Bool := !nanB a && !nanB b && decide (key a < key b)
def eqB (a b : Nat) : Bool := !nanB a && !nanB b && decide (key a = key b)

theorem o_le {a b : Nat} (ha : a < 18446744073709551616) (hb : b < 18446744073709551616) : (FloatKind.f64.format.order a b == some .lt || FloatKind.f64.format.order a b == some .eq) = leB a b := by
  rw [order_eq a b ha hb]
  unfold leB
  cases nanB a <;> cases nanB b <;> simp only [Bool.or_self, Bool.or_true, Bool.or_false, if_true, Bool.false_eq_true, if_false, Bool.not_true, Bool.not_false, Bool.false_and, Bool.and_false, Bool.true_and]
  · simp only [compare_int]
    by_cases c : key a < key b
    · have : key a ≤ key b := by omega
      rw [if_pos c]; simp [this]
    · rw [if_neg c]
      by_cases e : key a = key b
      · rw [if_pos e]; simp [e]
      · have : ¬ key a ≤ key b := by omega
        rw [if_neg e]; simp [this]
  all_goals rfl
theorem o_lt {a b : Nat} (ha : a < 18446744073709551616) (hb : b < 18446744073709551616) : (FloatKind.f64.format.order a b == some .lt) = ltB a b := by
  rw [order_eq a b ha hb]
  unfold ltB
  cases nanB a <;> cases nanB b <;> simp only [Bool.or_self, Bool.or_true, Bool.or_false, if_true, Bool.false_eq_true, if_false, Bool.not_true, Bool.not_false, Bool.false_and, Bool.and_false, Bool.true_and]
  · simp only [compare_int]
    by_cases c : key a < key b
    · rw [if_pos c]; simp [c]
    · rw [if_neg c]
      by_cases e : key a = key b
      · rw [if_pos e]; simp [e]
      · rw [if_neg e]; simp [c]
  all_goals rfl
theorem o_gt {a b : Nat} (ha : a < 18446744073709551616) (hb : b < 18446744073709551616) : (FloatKind.f64.format.order a b == some .gt) = ltB b a := by
  rw [order_eq a b ha hb]
  unfold ltB
  cases nanB a <;> cases nanB b <;> simp only [Bool.or_self, Bool.or_true, Bool.or_false, if_true, Bool.false_eq_true, if_false, Bool.not_true, Bool.not_false, Bool.false_and, Bool.and_false, Bool.true_and]
  · simp only [compare_int]
    by_cases c : key a < key b
    · have : ¬ key b < key a := by omega
      rw [if_pos c]; simp [this]
    · rw [if_neg c]
      by_cases e : key a = key b
      · rw [if_pos e]; simp [e]
      · have : key b < key a := by omega
        rw [if_neg e]; simp [this]
  all_goals rfl
theorem o_ge {a b : Nat} (ha : a < 18446744073709551616) (hb : b < 18446744073709551616) : (FloatKind.f64.format.order a b == some .gt || FloatKind.f64.format.order a b == some .eq) = leB b a := by
  rw [order_eq a b ha hb]
  unfold leB
  cases nanB a <;> cases nanB b <;> simp only [Bool.or_self, Bool.or_true, Bool.or_false, if_true, Bool.false_eq_true, if_false, Bool.not_true, Bool.not_false, Bool.false_and, Bool.and_false, Bool.true_and]
  · simp only [compare_int]
    by_cases c : key a < key b
    · have : ¬ key b ≤ key a := by omega
      rw [if_pos c]; simp [this]
    · have : key b ≤ key a := by omega
      rw [if_neg c]
      by_cases e : key a = key b
      · rw [if_pos e]; simp [e]
      · rw [if_neg e]; simp [this]
  all_goals rfl
theorem o_eq {a b : Nat} (ha : a < 18446744073709551616) (hb : b < 18446744073709551616) : (FloatKind.f64.format.order a b == some .eq) = eqB a b := by
  rw [order_eq a b ha hb]
  unfold eqB
  cases nanB a <;> cases nanB b <;> simp only [Bool.or_self, Bool.or_true, Bool.or_false, if_true, Bool.false_eq_true, if_false, Bool.not_true, Bool.not_false, Bool.false_and, Bool.and_false, Bool.true_and]
  · simp only [compare_int]
    by_cases c : key a < key b
    · have : ¬ key a = key b := by omega
      rw [if_pos c]; simp [this]
    · rw [if_neg c]
      by_cases e : key a = key b
      · rw [if_pos e]; simp [e]
      · rw [if_neg e]; simp [e]
  all_goals rfl

theorem infI_lt (s : Int) : infI s < 18446744073709551616 := by unfold infI; split <;> omega
theorem nan_inf (s : Int) : nanB (infI s) = false := by unfold infI; split <;> decide
theorem key_up : key (infI 1) = 9218868437227405312 := by decide
theorem key_down : key (infI (-1)) = -9218868437227405312 := by decide

theorem holdsSome_w (lo hi : Nat) (hl : lo < 18446744073709551616) (hh : hi < 18446744073709551616) (w : World) :
    Calls Try.prog 57 #[.agg #[.float .f64 lo, .float .f64 hi]] w fun e w' => e = .returned (.bool (hsB lo hi)) ∧ Below w.heap.size w w' := by
  have h := holdsSome_core lo hi hl hh _ _ _ _ _ (o_le hl hh) (o_lt hl (infI_lt 1)) (o_gt hh (infI_lt (-1))) rfl rfl w
  have e : (leB lo hi && ltB lo (infI 1) && ltB (infI (-1)) hi && !mz lo && !mz hi) = hsB lo hi := by
    unfold leB ltB hsB
    rw [nan_inf, nan_inf, key_up, key_down]
    cases nanB lo <;> cases nanB hi <;> simp
  rw [e] at h
  exact h

theorem someEmpty1_w (b lo hi : Nat) (hl : lo < 18446744073709551616) (hh : hi < 18446744073709551616) (w : World) (c0 : w.cell? ⟨b, 0, none⟩ = some (.float .f64 lo)) (c1 : w.cell? ⟨b, 1, none⟩ = some (.float .f64 hi)) :
    Calls Try.prog 64 #[.slice (some ⟨b, 0, none⟩) 1 1] w fun e w' => e = .returned (.bool (!hsB lo hi)) ∧ Below w.heap.size w w' := by
  have hs := fun w => holdsSome_w lo hi hl hh w
  generalize hsB lo hi = t at *
  go_enter Try.func64, Try.ntmps64
  go_wp2_with fail
  go_loopg [7] 2 (fun g s7 wx => Below w.heap.size w wx ∧ ((g = 2 ∧ w = wx ∧ s7 = .int .i64 0) ∨ (g = 1 ∧ t = true ∧ s7 = .int .i64 1)))
  case atStart => exact ⟨Below.refl _ _, Or.inl ⟨rfl, rfl, rfl⟩⟩
  case round =>
    rcases hrel with ⟨hb, ⟨rfl, rfl, rfl⟩ | ⟨rfl, rfl, rfl⟩⟩
    · cases t
      · go_wp2_with (go_at_call 57; refine (hs _).mono ?_; rintro _ w1 ⟨rfl, hb1⟩)
        go_ret
        exact ⟨rfl, later (by go_grown) hb1⟩
      · go_wp2_with (go_at_call 57; refine (hs _).mono ?_; rintro _ w1 ⟨rfl, hb1⟩)
        go_roundg 1
        case rel => exact ⟨later (by go_grown) hb1, Or.inr ⟨(by first | rfl | trivial), (by first | rfl | trivial), (by first | rfl | trivial)⟩⟩
        case measure => omega
    · go_wp2
      go_ret
      exact ⟨rfl, hb⟩

theorem someEmpty2_w (b lo hi lo2 hi2 : Nat) (hl : lo < 18446744073709551616) (hh : hi < 18446744073709551616) (hl2 : lo2 < 18446744073709551616) (hh2 : hi2 < 18446744073709551616) (w : World) (hlt : b < w.heap.size)
    (c0 : w.cell? ⟨b, 0, none⟩ = some (.float .f64 lo)) (c1 : w.cell? ⟨b, 1, none⟩ = some (.float .f64 hi)) (c2 : w.cell? ⟨b, 2, none⟩ = some (.float .f64 lo2)) (c3 : w.cell? ⟨b, 3, none⟩ = some (.float .f64 hi2)) :
    Calls Try.prog 64 #[.slice (some ⟨b, 0, none⟩) 2 2] w fun e w' => e = .returned (.bool (!(hsB lo hi && hsB lo2 hi2))) ∧ Below w.heap.size w w' := by
  have hs := fun w => holdsSome_w lo hi hl hh w
  have hs2 := fun w => holdsSome_w lo2 hi2 hl2 hh2 w
  generalize hsB lo hi = t at *
  generalize hsB lo2 hi2 = t2 at *
  go_enter Try.func64, Try.ntmps64
  go_wp2_with fail
  go_loopg [7] 3 (fun g s7 wx => Below w.heap.size w wx ∧ ((g = 3 ∧ w = wx ∧ s7 = .int .i64 0) ∨ (g = 2 ∧ t = true ∧ s7 = .int .i64 1) ∨ (g = 1 ∧ t = true ∧ t2 = true ∧ s7 = .int .i64 2)))
  case atStart => exact ⟨Below.refl _ _, Or.inl ⟨rfl, rfl, rfl⟩⟩
  case round =>
    rcases hrel with ⟨hb, ⟨rfl, rfl, rfl⟩ | ⟨rfl, rfl, rfl⟩ | ⟨rfl, rfl, rfl, rfl⟩⟩
    · cases t
      · go_wp2_with (go_at_call 57; refine (hs _).mono ?_; rintro _ w1 ⟨rfl, hb1⟩)
        go_ret
        exact ⟨rfl, later (by go_grown) hb1⟩
      · go_wp2_with (go_at_call 57; refine (hs _).mono ?_; rintro _ w1 ⟨rfl, hb1⟩)
        go_roundg 2
        case rel => exact ⟨later (by go_grown) hb1, Or.inr (Or.inl ⟨(by first | rfl | trivial), (by first | rfl | trivial), (by first | rfl | trivial)⟩)⟩
        case measure => omega
    · have d2 := keepsC hb c2 hlt
      have d3 := keepsC hb c3 hlt
      have hsz := hb.size
      rename_i wx
      cases t2
      · go_wp2_with (go_at_call 57; refine (hs2 _).mono ?_; rintro _ w1 ⟨rfl, hb1⟩)
        go_ret
        exact ⟨rfl, later (hb.alloc hsz _) hb1⟩
      · go_wp2_with (go_at_call 57; refine (hs2 _).mono ?_; rintro _ w1 ⟨rfl, hb1⟩)
        go_roundg 1
        case rel => exact ⟨later (hb.alloc hsz _) hb1, Or.inr (Or.inr ⟨(by first | rfl | trivial), (by first | rfl | trivial), (by first | rfl | trivial), (by first | rfl | trivial)⟩)⟩
        case measure => omega
    · go_wp2
      go_ret
      exact ⟨rfl, hb⟩

end Go.Proofs.Yteapiigegbdopaa
