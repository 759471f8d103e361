/- The walks of the small functions on floats: the words that they answer. -/
import Derived.Test.YtgigndboadmacaaRows
import Derived.Test.YtgigndboadmacaaFlu
import Derived.WalkKit
import Derived.ProofKit
import Derived.OpenShut
import Derived.WalkSpells
import Derived.WalkLawsBesides
import Derived.Laws.Externs
namespace Go.Proofs.Ytgigndboadmacaa
open Go.ChangeShapes Go.WideShapes Go.ChangeAt Go.RowKit

@[go_sem] theorem fbits (x : Nat) (w : World) : (callFunc 25 #[.float .f64 x]).run Try.prog w = .ok (.value (.int .u64 x)) w := by
  rw [run_callFunc_extern (P := Try.prog) (f := 25) (fn := Try.f25) (e := Extern.MathFloatBits.float64bits) Try.func25 (by kernel_rfl) (by kernel_rfl) (by kernel_rfl) (by kernel_rfl)]
  rfl
@[go_sem] theorem ffrom (n : Int) (w : World) : (callFunc 49 #[.int .u64 n]).run Try.prog w = .ok (.value (.float .f64 n.toNat)) w := by
  rw [run_callFunc_extern (P := Try.prog) (f := 49) (fn := Try.f49) (e := Extern.MathFloatBits.float64frombits) Try.func49 (by kernel_rfl) (by kernel_rfl) (by kernel_rfl) (by kernel_rfl)]
  rfl

theorem isNum_w (x : Nat) (hx : x < 18446744073709551616) (w : World) :
    Calls Try.prog 10 #[.float .f64 x] w fun e w' => e = .returned (.bool (!nanB x)) ∧ w = w' := by
  rcases cases0 x hx with ⟨hn, ho, _⟩ | ⟨hn, ho, _⟩ | ⟨hn, ho, _⟩ | ⟨hn, ho, _⟩
  all_goals
    go_enter Try.func10, Try.ntmps10
    go_wp2
    all_goals (go_ret; rw [hn]; exact ⟨rfl, rfl⟩)

theorem isFinite_w (x : Nat) (hx : x < 18446744073709551616) (w : World) :
    Calls Try.prog 24 #[.float .f64 x] w fun e w' => e = .returned (.bool (finB x)) ∧ w = w' := by
  rw [← finite_bits x hx]
  clear hx
  go_enter Try.func24, Try.ntmps24
  go_wp2
  go_ret
  exact ⟨rfl, rfl⟩

theorem wos_w (x : Nat) (w : World) :
    Calls Try.prog 30 #[.int .u64 x] w fun e w' => e = .returned (.float .f64 (if x = 9223372036854775808 then 0 else x)) ∧ w = w' := by
  by_cases h : x = 9223372036854775808
  · subst h
    go_enter Try.func30, Try.ntmps30
    go_wp2
    all_goals (go_ret; exact ⟨rfl, rfl⟩)
  · have h' : ((x : Int) == 9223372036854775808) = false := by simp; omega
    rw [if_neg h]
    go_enter Try.func30, Try.ntmps30
    go_wp2
    all_goals (go_ret; exact ⟨rfl, rfl⟩)

theorem nextB_nan {x : Nat} (hn : nanB x = true) : nextB x = x := by unfold nextB; rw [if_pos hn]
theorem nextB_zero {x : Nat} (hx : x < 18446744073709551616) (hn : nanB x = false) (h : x % 9223372036854775808 = 0) : nextB x = 1 := by
  unfold nextB key ofKey
  simp only [hn, Bool.false_eq_true, if_false]
  split <;> split <;> (try split) <;> omega
theorem nextB_pos {x : Nat} (hn : nanB x = false) (h : 0 < x) (h2 : x < 9218868437227405312) : nextB x = x + 1 := by
  unfold nextB key ofKey
  simp only [hn, Bool.false_eq_true, if_false]
  split <;> split <;> (try split) <;> omega
theorem nextB_neg {x : Nat} (hn : nanB x = false) (h : 9223372036854775808 < x) : nextB x = if x - 1 = 9223372036854775808 then 0 else x - 1 := by
  unfold nextB key ofKey
  simp only [hn, Bool.false_eq_true, if_false]
  split <;> split <;> (try split) <;> (try split) <;> omega


end Go.Proofs.Ytgigndboadmacaa
