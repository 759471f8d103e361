/- The walks of the reference's small functions on intervals: what may be, what holds nothing. -/
import Derived.Test.YtmdhgaiklgmmpaaIf
namespace Go.Proofs.Ytmdhgaiklgmmpaa
open Go.ChangeShapes Go.WideShapes Go.ChangeAt Go.RowKit

theorem rinf_w (s : Int) (w : World) : Calls Try.prog 58 #[.int .i64 s] w fun e w' => e = .returned (.float .f64 (infI s)) ∧ w = w' := by
  go_enter Try.func58, Try.ntmps58
  go_wp2_with (go_at_call 63; refine (inf_w _ _).mono ?_; rintro _ _ ⟨rfl, rfl⟩)
  all_goals (go_ret; exact ⟨rfl, rfl⟩)
theorem rinf_q (s : Int) (w : World) : Calls Try.prog 58 #[.int .i64 s] w fun e w' => e = .returned (.float .f64 (infI s)) ∧ w' = w := turn (rinf_w s w)

theorem minus0_w (x : Nat) (hx : x < 18446744073709551616) (w : World) : Calls Try.prog 59 #[.float .f64 x] w fun e w' => e = .returned (.bool (mz x)) ∧ w = w' := by
  rcases cases0 x hx with ⟨hn, ho, hc⟩ | ⟨hn, ho, hc⟩ | ⟨hn, ho, hc⟩ | ⟨hn, ho, hc⟩
  · have e : mz x = false := by unfold mz; simp; omega
    rw [e]
    go_enter Try.func59, Try.ntmps59
    go_wp2
    all_goals (go_ret; exact ⟨rfl, rfl⟩)
  · have e : mz x = ((x : Int) != 0) := by
      unfold mz
      rw [Bool.eq_iff_iff]; simp only [decide_eq_true_eq, bne_iff_ne, ne_eq]; omega
    rw [e]
    go_enter Try.func59, Try.ntmps59
    go_wp2
    all_goals (go_ret; exact ⟨rfl, rfl⟩)
  · have e : mz x = false := by unfold mz; simp; omega
    rw [e]
    go_enter Try.func59, Try.ntmps59
    go_wp2
    all_goals (go_ret; exact ⟨rfl, rfl⟩)
  · have e : mz x = false := by unfold mz; simp; omega
    rw [e]
    go_enter Try.func59, Try.ntmps59
    go_wp2
    all_goals (go_ret; exact ⟨rfl, rfl⟩)
theorem minus0_q (x : Nat) (hx : x < 18446744073709551616) (w : World) : Calls Try.prog 59 #[.float .f64 x] w fun e w' => e = .returned (.bool (mz x)) ∧ w' = w := turn (minus0_w x hx w)

set_option maxHeartbeats 800000 in
theorem refRight_core (lo hi : Nat) (hl : lo < 18446744073709551616) (hh : hi < 18446744073709551616) (b1 b2 b3 b4 b5 : Bool)
    (o1 : (FloatKind.f64.format.order lo hi == some .lt || FloatKind.f64.format.order lo hi == some .eq) = b1) (o2 : (FloatKind.f64.format.order lo (infI 1) == some .eq) = b2) (o3 : (FloatKind.f64.format.order hi (infI (-1)) == some .eq) = b3)
    (o4 : mz lo = b4) (o5 : mz hi = b5) (w : World) :
    Calls Try.prog 16 #[.agg #[.float .f64 lo, .float .f64 hi]] w fun e w' => e = .returned (.bool (b2 && b3 || b1 && !b2 && !b3 && !b4 && !b5)) ∧ Below w.heap.size w w' := by
  have p2 : (FloatKind.f64.format.order lo (infI 1) != some .eq) = !b2 := by rw [← o2]; rfl
  have p3 : (FloatKind.f64.format.order hi (infI (-1)) != some .eq) = !b3 := by rw [← o3]; rfl
  cases b2
  case' false => cases b1
  case' false.true => cases b3
  case' false.true.false => cases b4
  case' false.true.false.false => cases b5
  case' true => cases b3
  case' true.false => cases b1
  all_goals
    try simp only [Bool.not_true, Bool.not_false] at p2 p3
    go_enter Try.func16, Try.ntmps16
    go_wp2_with fail
    go_quiet (first | (go_at_call 58; refine Calls.quiet_of_same (rinf_q _ _)) | (go_at_call 59; refine Calls.quiet_of_same (minus0_q _ (by assumption) _)))
    go_wp2
    have k0 : ((w.alloc (Obj.cells #[Value.float FloatKind.f64 lo, Value.float FloatKind.f64 hi] 28)).drewN nq).cell? ⟨w.heap.size, 0, none⟩ = some (.float .f64 lo) := by go_simp
    have k1 : ((w.alloc (Obj.cells #[Value.float FloatKind.f64 lo, Value.float FloatKind.f64 hi] 28)).drewN nq).cell? ⟨w.heap.size, 1, none⟩ = some (.float .f64 hi) := by go_simp
    have kb : Below w.heap.size w ((w.alloc (Obj.cells #[Value.float FloatKind.f64 lo, Value.float FloatKind.f64 hi] 28)).drewN nq) := below_drewN (by go_grown) _
    generalize (w.alloc (Obj.cells #[Value.float FloatKind.f64 lo, Value.float FloatKind.f64 hi] 28)).drewN nq = W at *
    try (go_quiet (first | (go_at_call 58; refine Calls.quiet_of_same (rinf_q _ _)) | (go_at_call 59; refine Calls.quiet_of_same (minus0_q _ (by assumption) _))))
    try go_wp2
    go_ret
    first | exact ⟨rfl, kb⟩ | exact ⟨rfl, below_drewN kb _⟩

end Go.Proofs.Ytmdhgaiklgmmpaa
