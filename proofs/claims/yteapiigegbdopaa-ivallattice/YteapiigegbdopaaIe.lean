/- The walks of Has, Inside and Strict: what is asked of intervals. -/
import Derived.Test.YteapiigegbdopaaId
namespace Go.Proofs.Yteapiigegbdopaa
open Go.ChangeShapes Go.WideShapes Go.ChangeAt Go.RowKit

def infB (x : Nat) : Bool := decide (x % 9223372036854775808 = 9218868437227405312)

theorem isInf0_w (x : Nat) (hx : x < 18446744073709551616) (w : World) : Calls Try.prog 65 #[.float .f64 x, .int .i64 0] w fun e w' => e = .returned (.bool (infB x)) ∧ w = w' := by
  have hm : x % 9223372036854775808 < 18446744073709551616 := by omega
  have ho : (FloatKind.f64.format.order (x % 9223372036854775808) 9218868437227405311 == some .gt) = infB x := by
    rw [o_gt hm (by omega)]
    unfold ltB infB nanB key
    rw [if_pos (by omega), if_pos (by omega)]
    rw [Bool.eq_iff_iff]
    simp only [Bool.and_eq_true, Bool.not_eq_true', decide_eq_false_iff_not, decide_eq_true_eq]
    omega
  have ha := fun w => abs_w x hx w
  generalize x % 9223372036854775808 = r at *
  generalize infB x = b at *
  go_enter Try.func65, Try.ntmps65
  go_wp2_with (go_at_call 13; refine (ha _).mono ?_; rintro _ _ ⟨rfl, rfl⟩)
  all_goals (go_ret; exact ⟨rfl, rfl⟩)

theorem isInfN_w (x : Nat) (hx : x < 18446744073709551616) (w : World) : Calls Try.prog 65 #[.float .f64 x, .int .i64 (-1)] w fun e w' => e = .returned (.bool (decide (x = 18442240474082181120))) ∧ w = w' := by
  have hneg : Op.negFloat .f64 x = negB x := negFloat_eq x hx
  have ho : (FloatKind.f64.format.order (negB x) 9218868437227405311 == some .gt) = decide (x = 18442240474082181120) := by
    rw [o_gt (negB_lt hx) (by omega)]
    unfold ltB
    rw [nanB_negB hx, key_negB hx]
    unfold nanB key
    rw [if_pos (by omega)]
    rw [Bool.eq_iff_iff]
    simp only [Bool.and_eq_true, Bool.not_eq_true', decide_eq_false_iff_not, decide_eq_true_eq]
    split <;> omega
  generalize decide (x = 18442240474082181120) = b at *
  generalize negB x = r at *
  go_enter Try.func65, Try.ntmps65
  go_wp2_with fail
  all_goals (go_ret; exact ⟨rfl, rfl⟩)

/-- Is there room below? -/
def roomB (inner outer : Nat) : Bool := decide (outer = 18442240474082181120) || ltB outer inner

theorem room_w (x y : Nat) (hx : x < 18446744073709551616) (hy : y < 18446744073709551616) (w : World) : Calls Try.prog 66 #[.float .f64 x, .float .f64 y] w fun e w' => e = .returned (.bool (roomB x y)) ∧ w = w' := by
  have hi := fun w => isInfN_w y hy w
  have ho := o_lt hy hx
  unfold roomB
  generalize decide (y = 18442240474082181120) = b at *
  generalize ltB y x = c at *
  cases b <;> cases c
  all_goals
    go_enter Try.func66, Try.ntmps66
    go_wp2_with (go_at_call 65; refine (hi _).mono ?_; rintro _ _ ⟨rfl, rfl⟩)
    all_goals (go_ret; exact ⟨rfl, rfl⟩)

def hasB (lo hi v : Nat) : Bool := hsB lo hi && !infB v && leB lo v && leB v hi

set_option maxHeartbeats 400000 in
theorem has_w (lo hi v : Nat) (hl : lo < 18446744073709551616) (hh : hi < 18446744073709551616) (hv : v < 18446744073709551616) (w : World) :
    Calls Try.prog 25 #[.agg #[.float .f64 lo, .float .f64 hi], .float .f64 v] w fun e w' => e = .returned (.bool (hasB lo hi v)) ∧ Below w.heap.size w w' := by
  have h1 := fun W c0 c1 => someEmpty1_w (w.heap.size + 1) lo hi hl hh W c0 c1
  have h2 := fun w => isInf0_w v hv w
  have o1 := o_le hl hv
  have o2 := o_le hv hh
  unfold hasB
  generalize hsB lo hi = b1 at *
  generalize infB v = b2 at *
  generalize leB lo v = b3 at *
  generalize leB v hi = b4 at *
  cases b1
  case' true => cases b2
  case' true.false => cases b3
  case' true.false.true => cases b4
  all_goals
    go_enter Try.func25, Try.ntmps25
    go_wp2_with (first
      | (go_at_call 64; refine (h1 _ (by go_simp) (by go_simp)).mono ?_; rintro _ w1 ⟨rfl, hb1⟩
         have s0 : w1.cell? ⟨w.heap.size, 0, none⟩ = some (.float .f64 lo) := (hb1.cell (by simp; omega)).trans (by go_simp)
         have s1 : w1.cell? ⟨w.heap.size, 1, none⟩ = some (.float .f64 hi) := (hb1.cell (by simp; omega)).trans (by go_simp))
      | (go_at_call 65; refine (h2 _).mono ?_; rintro _ _ ⟨rfl, rfl⟩))
    go_ret
    exact ⟨rfl, later (by go_grown) hb1⟩

end Go.Proofs.Yteapiigegbdopaa
