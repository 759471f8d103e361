/- What Add, Mul, Div and Sqrt answer, of all words: by plain functions on numbers. -/
import Derived.Test.YteapiigegbdopaaWp
import Derived.Test.YteapiigegbdopaaWb
namespace Go.Proofs.Yteapiigegbdopaa
open Go.ChangeShapes Go.WideShapes Go.ChangeAt Go.RowKit

theorem lz_zero (w : World) : Calls Try.prog 92 #[.int .u64 0] w fun e w' => e = .returned (.int .i64 64) ∧ w = w' := by
  have c := fun w => len64_i 0 w (by omega) (by omega)
  have e : ((Lib.bitLen (0 : Int).toNat : Nat) : Int) = 0 := rfl
  rw [e] at c
  go_enter Try.func92, Try.ntmps92
  go_wp2_with (go_at_call 94; refine (c _).mono ?_; rintro _ _ ⟨rfl, rfl⟩)
  all_goals (go_ret; exact ⟨rfl, rfl⟩)

theorem normal_zero (g : Bool) (e : Int) (he1 : -1000000 ≤ e) (he2 : e ≤ 1000000) (w : World) :
    Calls Try.prog 76 #[.agg #[.bool g, .int .u64 0, .int .i64 e]] w fun r w' => r = .returned (.agg #[.bool g, .int .u64 0, .int .i64 (e - 64)]) ∧ Below w.heap.size w w' := by
  go_enter Try.func76, Try.ntmps76
  go_wp2_with (go_at_call 92; refine (lz_zero _).mono ?_; rintro _ _ ⟨rfl, rfl⟩)
  all_goals (go_returns; exact ⟨rfl, by go_grown⟩)

theorem div64_zero (y : Nat) (hy0 : ((y : Int) == 0) = false) (hyl : y < 18446744073709551616) (w : World) :
    Calls Try.prog 83 #[.int .u64 0, .int .u64 0, .int .u64 y] w fun r w' => r = .returned (.tuple #[.int .u64 0, .int .u64 0]) ∧ ∃ n, w' = w.drewN n := by
  have hp : ¬ (y : Int) ≤ 0 := by simp at hy0; omega
  have hn : ¬ y = 0 := by simp at hy0; omega
  go_enter Try.func83, Try.ntmps83
  go_wp2
  go_region
  all_goals go_wp2
  all_goals go_ret2
  all_goals exact ⟨rfl, 1, rfl⟩
end Go.Proofs.Yteapiigegbdopaa
