/- The walks of the program's small functions on intervals: infinite ends, signs of nought, which intervals hold some number. -/
import Derived.Test.YteapiigegbdopaaWn
import Derived.Test.YteapiigegbdopaaSc
import Derived.BigQuiet
import Derived.WalkSmall
namespace Go.Proofs.Yteapiigegbdopaa
open Go.ChangeShapes Go.WideShapes Go.ChangeAt Go.RowKit

@[go_sem] theorem run_store_float (P : Program) (w : World) (a : Addr) (m : Mode) (k : FloatKind) (n : Nat) : (store a (.float k n) m).run P w = stored P w a (.float k n) m := run_store P w a _ m rfl

/-- The infinite word of a sign. -/
def infI (s : Int) : Nat := if s < 0 then 18442240474082181120 else 9218868437227405312
theorem inf_w (s : Int) (w : World) : Calls Try.prog 63 #[.int .i64 s] w fun e w' => e = .returned (.float .f64 (infI s)) ∧ w = w' := by
  unfold infI
  by_cases h : s < 0
  · rw [if_pos h]
    go_enter Try.func63, Try.ntmps63
    go_wp2
    all_goals (go_ret; exact ⟨rfl, rfl⟩)
  · rw [if_neg h]
    go_enter Try.func63, Try.ntmps63
    go_wp2
    all_goals (go_ret; exact ⟨rfl, rfl⟩)
theorem infI_up : infI 1 = 9218868437227405312 := rfl
theorem infI_down : infI (-1) = 18442240474082181120 := rfl

theorem signbit_w (x : Nat) (hx : x < 18446744073709551616) (w : World) : Calls Try.prog 93 #[.float .f64 x] w fun e w' => e = .returned (.bool (decide (9223372036854775808 ≤ x))) ∧ w = w' := by
  have hc : decide (wrap64 (x : Int) < 0) = decide (9223372036854775808 ≤ x) := by
    rw [wrap64]
    by_cases h : 9223372036854775808 ≤ x
    · simp only [h, decide_true, decide_eq_true_eq]; omega
    · simp only [h, decide_false, decide_eq_false_iff_not]; omega
  go_enter Try.func93, Try.ntmps93
  go_wp2
  all_goals (go_ret; exact ⟨rfl, rfl⟩)

def mz (x : Nat) : Bool := decide (x = 9223372036854775808)

theorem isMinusZero_w (x : Nat) (hx : x < 18446744073709551616) (w : World) : Calls Try.prog 84 #[.float .f64 x] w fun e w' => e = .returned (.bool (mz x)) ∧ w = w' := by
  rcases cases0 x hx with ⟨hn, ho, hc⟩ | ⟨hn, ho, hc⟩ | ⟨hn, ho, hc⟩ | ⟨hn, ho, hc⟩
  · have e : mz x = false := by unfold mz; simp; omega
    rw [e]
    go_enter Try.func84, Try.ntmps84
    go_wp2_with (go_at_call 93; refine (signbit_w x hx _).mono ?_; rintro _ _ ⟨rfl, rfl⟩)
    all_goals (go_ret; exact ⟨rfl, rfl⟩)
  · have e : mz x = decide (9223372036854775808 ≤ x) := by
      unfold mz
      rw [Bool.eq_iff_iff]; simp only [decide_eq_true_eq]; omega
    rw [e]
    go_enter Try.func84, Try.ntmps84
    go_wp2_with (go_at_call 93; refine (signbit_w x hx _).mono ?_; rintro _ _ ⟨rfl, rfl⟩)
    all_goals (go_ret; exact ⟨rfl, rfl⟩)
  · have e : mz x = false := by unfold mz; simp; omega
    rw [e]
    go_enter Try.func84, Try.ntmps84
    go_wp2_with (go_at_call 93; refine (signbit_w x hx _).mono ?_; rintro _ _ ⟨rfl, rfl⟩)
    all_goals (go_ret; exact ⟨rfl, rfl⟩)
  · have e : mz x = false := by unfold mz; simp; omega
    rw [e]
    go_enter Try.func84, Try.ntmps84
    go_wp2_with (go_at_call 93; refine (signbit_w x hx _).mono ?_; rintro _ _ ⟨rfl, rfl⟩)
    all_goals (go_ret; exact ⟨rfl, rfl⟩)

/-- The word, nought without its sign. -/
def pz (x : Nat) : Nat := if x = 9223372036854775808 then 0 else x
theorem pz_lt {x : Nat} (hx : x < 18446744073709551616) : pz x < 18446744073709551616 := by unfold pz; split <;> omega

theorem wosz_w (x : Nat) (hx : x < 18446744073709551616) (w : World) : Calls Try.prog 61 #[.float .f64 x] w fun e w' => e = .returned (.float .f64 (pz x)) ∧ w = w' := by
  rcases cases0 x hx with ⟨hn, ho, hc⟩ | ⟨hn, ho, hc⟩ | ⟨hn, ho, hc⟩ | ⟨hn, ho, hc⟩
  · have e : pz x = x := by unfold pz; rw [if_neg (by omega)]
    rw [e]
    go_enter Try.func61, Try.ntmps61
    go_wp2
    all_goals (go_ret; exact ⟨rfl, rfl⟩)
  · have e : pz x = 0 := by unfold pz; split <;> omega
    rw [e]
    go_enter Try.func61, Try.ntmps61
    go_wp2
    all_goals (go_ret; exact ⟨rfl, rfl⟩)
  · have e : pz x = x := by unfold pz; rw [if_neg (by omega)]
    rw [e]
    go_enter Try.func61, Try.ntmps61
    go_wp2
    all_goals (go_ret; exact ⟨rfl, rfl⟩)
  · have e : pz x = x := by unfold pz; rw [if_neg (by omega)]
    rw [e]
    go_enter Try.func61, Try.ntmps61
    go_wp2
    all_goals (go_ret; exact ⟨rfl, rfl⟩)

theorem empty_w (w : World) : Calls Try.prog 21 #[] w fun e w' => e = .returned (.agg #[.float .f64 (infI 1), .float .f64 (infI (-1))]) ∧ Below w.heap.size w w' := by
  go_enter Try.func21, Try.ntmps21
  go_wp2_with (go_at_call 63; refine (inf_w _ _).mono ?_; rintro _ _ ⟨rfl, rfl⟩)
  all_goals (go_returns; exact ⟨rfl, by go_grown⟩)

theorem turn {P : Program} {f : FuncId} {args : Array Value} {w : World} {v : Value} (h : Calls P f args w fun e w' => e = .returned v ∧ w = w') : Calls P f args w fun e w' => e = .returned v ∧ w' = w := h.mono fun _ _ ⟨a, b⟩ => ⟨a, b.symm⟩
theorem inf_q (s : Int) (w : World) : Calls Try.prog 63 #[.int .i64 s] w fun e w' => e = .returned (.float .f64 (infI s)) ∧ w' = w := turn (inf_w s w)
theorem isMinusZero_q (x : Nat) (hx : x < 18446744073709551616) (w : World) : Calls Try.prog 84 #[.float .f64 x] w fun e w' => e = .returned (.bool (mz x)) ∧ w' = w := turn (isMinusZero_w x hx w)

/-- Does the interval of two ends hold some number? -/
def hsB (lo hi : Nat) : Bool := !nanB lo && !nanB hi && decide (key lo ≤ key hi) && decide (key lo < 9218868437227405312) && decide (-9218868437227405312 < key hi) && !mz lo && !mz hi

set_option maxHeartbeats 400000 in
theorem holdsSome_core (lo hi : Nat) (hl : lo < 18446744073709551616) (hh : hi < 18446744073709551616) (b1 b2 b3 b4 b5 : Bool)
    (o1 : (FloatKind.f64.format.order lo hi == some .lt || FloatKind.f64.format.order lo hi == some .eq) = b1) (o2 : (FloatKind.f64.format.order lo (infI 1) == some .lt) = b2) (o3 : (FloatKind.f64.format.order hi (infI (-1)) == some .gt) = b3)
    (o4 : mz lo = b4) (o5 : mz hi = b5) (w : World) :
    Calls Try.prog 57 #[.agg #[.float .f64 lo, .float .f64 hi]] w fun e w' => e = .returned (.bool (b1 && b2 && b3 && !b4 && !b5)) ∧ Below w.heap.size w w' := by
  cases b1
  case' true => cases b2
  case' true.true => cases b3
  case' true.true.true => cases b4
  case' true.true.true.false => cases b5
  all_goals
    go_enter Try.func57, Try.ntmps57
    go_wp2_with fail
    go_quiet (first | (go_at_call 63; refine Calls.quiet_of_same (inf_q _ _)) | (go_at_call 84; refine Calls.quiet_of_same (isMinusZero_q _ (by assumption) _)))
    go_wp2
    go_ret
    exact ⟨rfl, below_drewN (by go_grown) _⟩

end Go.Proofs.Yteapiigegbdopaa
