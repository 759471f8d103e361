/- The walks of the small functions on floats: the words that they answer. -/
import Derived.Test.YteapiigegbdopaaRows
import Derived.Test.YteapiigegbdopaaFlu
import Derived.WalkKit
import Derived.ProofKit
import Derived.OpenShut
import Derived.WalkSpells
import Derived.WalkLawsBesides
import Derived.Laws.Externs
namespace Go.Proofs.Yteapiigegbdopaa
open Go.ChangeShapes Go.WideShapes Go.ChangeAt Go.RowKit

@[go_sem] theorem fbits (x : Nat) (w : World) : (callFunc 55 #[.float .f64 x]).run Try.prog w = .ok (.value (.int .u64 x)) w := by
  rw [run_callFunc_extern (P := Try.prog) (f := 55) (fn := Try.f55) (e := Extern.MathFloatBits.float64bits) Try.func55 (by kernel_rfl) (by kernel_rfl) (by kernel_rfl) (by kernel_rfl)]
  rfl
@[go_sem] theorem ffrom (n : Int) (w : World) : (callFunc 54 #[.int .u64 n]).run Try.prog w = .ok (.value (.float .f64 n.toNat)) w := by
  rw [run_callFunc_extern (P := Try.prog) (f := 54) (fn := Try.f54) (e := Extern.MathFloatBits.float64frombits) Try.func54 (by kernel_rfl) (by kernel_rfl) (by kernel_rfl) (by kernel_rfl)]
  rfl

theorem isNum_w (x : Nat) (hx : x < 18446744073709551616) (w : World) :
    Calls Try.prog 85 #[.float .f64 x] w fun e w' => e = .returned (.bool (!nanB x)) ∧ w = w' := by
  rcases cases0 x hx with ⟨hn, ho, _⟩ | ⟨hn, ho, _⟩ | ⟨hn, ho, _⟩ | ⟨hn, ho, _⟩
  all_goals
    go_enter Try.func85, Try.ntmps85
    go_wp2
    all_goals (go_ret; rw [hn]; exact ⟨rfl, rfl⟩)

theorem isFinite_w (x : Nat) (hx : x < 18446744073709551616) (w : World) :
    Calls Try.prog 74 #[.float .f64 x] w fun e w' => e = .returned (.bool (finB x)) ∧ w = w' := by
  rw [← finite_bits x hx]
  clear hx
  go_enter Try.func74, Try.ntmps74
  go_wp2
  go_ret
  exact ⟨rfl, rfl⟩

theorem wos_w (x : Nat) (w : World) :
    Calls Try.prog 78 #[.int .u64 x] w fun e w' => e = .returned (.float .f64 (if x = 9223372036854775808 then 0 else x)) ∧ w = w' := by
  by_cases h : x = 9223372036854775808
  · subst h
    go_enter Try.func78, Try.ntmps78
    go_wp2
    all_goals (go_ret; exact ⟨rfl, rfl⟩)
  · have h' : ((x : Int) == 9223372036854775808) = false := by simp; omega
    rw [if_neg h]
    go_enter Try.func78, Try.ntmps78
    go_wp2
    all_goals (go_ret; exact ⟨rfl, rfl⟩)

theorem nextB_nan {x : Nat} (hn : nanB x = true) : nextB x = x := by unfold nextB; rw [if_pos hn]
theorem nextB_zero {x : Nat} (hx : x < 18446744073709551616) (hn : nanB x = false) (h : x % 9223372036854775808 = 0) : nextB x = 1 := by
  unfold nextB key ofKey
  simp only [hn, Bool.false_eq_true, if_false]
  split <;> split <;> (try split) <;> omega
theorem nextB_pos {x : Nat} (hn : nanB x = false) (h : 0 < x) (h2 : x < 9218868437227405312) : nextB x = x + 1 := by
  unfold nextB key ofKey
  simp only [hn, Bool.false_eq_true, if_false]
  split <;> split <;> (try split) <;> omega
theorem nextB_neg {x : Nat} (hn : nanB x = false) (h : 9223372036854775808 < x) : nextB x = if x - 1 = 9223372036854775808 then 0 else x - 1 := by
  unfold nextB key ofKey
  simp only [hn, Bool.false_eq_true, if_false]
  split <;> split <;> (try split) <;> (try split) <;> omega

theorem next_w (x : Nat) (hx : x < 18446744073709551616) (w : World) :
    Calls Try.prog 67 #[.float .f64 x] w fun e w' => e = .returned (.float .f64 (nextB x)) ∧ w = w' := by
  rcases cases0 x hx with ⟨hn, ho, hc⟩ | ⟨hn, ho, hc⟩ | ⟨hn, ho, hc⟩ | ⟨hn, ho, hc⟩
  · rw [nextB_nan hn]
    have hf : finB x = false := by unfold finB; simp; omega
    go_enter Try.func67, Try.ntmps67
    go_wp2_with (go_at_call 74; refine (isFinite_w x hx _).mono ?_; rintro _ _ ⟨rfl, rfl⟩)
    all_goals (go_ret; exact ⟨rfl, rfl⟩)
  · rw [nextB_zero hx hn hc]
    go_enter Try.func67, Try.ntmps67
    go_wp2
    all_goals (go_ret; exact ⟨rfl, rfl⟩)
  · by_cases hi : x = 9218868437227405312
    · subst hi
      have hf : finB 9218868437227405312 = false := by decide
      go_enter Try.func67, Try.ntmps67
      go_wp2_with (go_at_call 74; refine (isFinite_w _ hx _).mono ?_; rintro _ _ ⟨rfl, rfl⟩)
      all_goals (go_ret; exact ⟨rfl, rfl⟩)
    · have hf : finB x = true := by unfold finB; simp; omega
      rw [nextB_pos hn hc.1 (by omega)]
      go_enter Try.func67, Try.ntmps67
      go_wp2_with (go_at_call 74; refine (isFinite_w _ hx _).mono ?_; rintro _ _ ⟨rfl, rfl⟩)
      all_goals (go_ret; exact ⟨rfl, rfl⟩)
  · have hf : finB x = true ∨ finB x = false := by cases finB x <;> simp
    have hs : ((x : Int) - 1) = ((x - 1 : Nat) : Int) := by omega
    have hr := nextB_neg hn hc.1
    generalize nextB x = r at hr
    generalize hv : (if x - 1 = 9223372036854775808 then 0 else x - 1) = v at hr
    subst hr
    have hwos := fun w => wos_w (x - 1) w
    rw [hv] at hwos
    clear hv
    rcases hf with hf | hf
    all_goals
      go_enter Try.func67, Try.ntmps67
      go_wp2_with (first | (go_at_call 74; refine (isFinite_w _ hx _).mono ?_; rintro _ _ ⟨rfl, rfl⟩) | (go_at_call 78; refine (hwos _).mono ?_; rintro _ _ ⟨rfl, rfl⟩))
      all_goals (go_ret; exact ⟨rfl, rfl⟩)

end Go.Proofs.Yteapiigegbdopaa
