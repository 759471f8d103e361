/- What Add, Mul, Div and Sqrt answer, of all words: by plain functions on numbers. -/
import Derived.Test.YtgigndboadmacaaWp
import Derived.Test.YtgigndboadmacaaWb
namespace Go.Proofs.Ytgigndboadmacaa
open Go.ChangeShapes Go.WideShapes Go.ChangeAt Go.RowKit

theorem lz_zero (w : World) : Calls Try.prog 48 #[.int .u64 0] w fun e w' => e = .returned (.int .i64 64) ∧ w = w' := by
  have c := fun w => len64_i 0 w (by omega) (by omega)
  have e : ((Lib.bitLen (0 : Int).toNat : Nat) : Int) = 0 := rfl
  rw [e] at c
  go_enter Try.func48, Try.ntmps48
  go_wp2_with (go_at_call 67; refine (c _).mono ?_; rintro _ _ ⟨rfl, rfl⟩)
  all_goals (go_ret; exact ⟨rfl, rfl⟩)

theorem normal_zero (g : Bool) (e : Int) (he1 : -1000000 ≤ e) (he2 : e ≤ 1000000) (w : World) :
    Calls Try.prog 28 #[.agg #[.bool g, .int .u64 0, .int .i64 e]] w fun r w' => r = .returned (.agg #[.bool g, .int .u64 0, .int .i64 (e - 64)]) ∧ Below w.heap.size w w' := by
  go_enter Try.func28, Try.ntmps28
  go_wp2_with (go_at_call 48; refine (lz_zero _).mono ?_; rintro _ _ ⟨rfl, rfl⟩)
  all_goals (go_returns; exact ⟨rfl, by go_grown⟩)

theorem div64_zero (y : Nat) (hy0 : ((y : Int) == 0) = false) (hyl : y < 18446744073709551616) (w : World) :
    Calls Try.prog 61 #[.int .u64 0, .int .u64 0, .int .u64 y] w fun r w' => r = .returned (.tuple #[.int .u64 0, .int .u64 0]) ∧ ∃ n, w' = w.drewN n := by
  have hp : ¬ (y : Int) ≤ 0 := by simp at hy0; omega
  have hn : ¬ y = 0 := by simp at hy0; omega
  go_enter Try.func61, Try.ntmps61
  go_wp2
  go_region
  all_goals go_wp2
  all_goals go_ret2
  all_goals exact ⟨rfl, 1, rfl⟩
end Go.Proofs.Ytgigndboadmacaa
