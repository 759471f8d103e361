/- The walks of Point, Whole, Right, and of math.Abs and math.IsInf. -/
import Derived.Test.YteapiigegbdopaaIc
namespace Go.Proofs.Yteapiigegbdopaa
open Go.ChangeShapes Go.WideShapes Go.ChangeAt Go.RowKit

theorem makeP_lt {lo hi : Nat} (hl : lo < 18446744073709551616) (hh : hi < 18446744073709551616) : (makeP lo hi).1 < 18446744073709551616 ∧ (makeP lo hi).2 < 18446744073709551616 := by
  unfold makeP
  split
  · exact ⟨pz_lt hl, pz_lt hh⟩
  · exact ⟨infI_lt 1, infI_lt (-1)⟩

theorem whole_w (w : World) : Calls Try.prog 23 #[] w fun e w' => e = .returned (.agg #[.float .f64 (infI (-1)), .float .f64 (infI 1)]) ∧ Below w.heap.size w w' := by
  go_enter Try.func23, Try.ntmps23
  go_wp2_with (go_at_call 63; refine (inf_w _ _).mono ?_; rintro _ _ ⟨rfl, rfl⟩)
  all_goals (go_returns; exact ⟨rfl, by go_grown⟩)

theorem point_w (x : Nat) (hx : x < 18446744073709551616) (w : World) :
    Calls Try.prog 20 #[.float .f64 x] w fun e w' => e = .returned (.agg #[.float .f64 (makeP x x).1, .float .f64 (makeP x x).2]) ∧ Below w.heap.size w w' := by
  have hm := fun w => make_w x x hx hx w
  generalize makeP x x = p at *
  go_enter Try.func20, Try.ntmps20
  go_wp2_with (go_at_call 18; refine (hm _).mono ?_; rintro _ w1 ⟨rfl, hb1⟩
               have k1 : Has2 w1 w.heap.size (.float .f64 0) (.float .f64 0) := Has2.keep ⟨by go_simp, by go_simp, by go_simp, by go_simp, by go_size⟩ hb1
               obtain ⟨a0, a1, a2, a3, a4⟩ := k1)
  refine bodyPost_ret (v := .agg #[.float .f64 p.1, .float .f64 p.2]) (by simp [results, Try.results20, go_sem, *]) rfl ⟨rfl, ?_⟩
  have t : Below w.heap.size w w1 := later (by go_grown) hb1
  repeat' (first | (with_reducible exact t) | (with_reducible refine Below.setCell ?_ ?_ _) | go_size)

@[go_sem] theorem equalIn_float (a b : Nat) (w : World) : (Op.equalIn 9999 22 (.float .f64 a) (.float .f64 b)).run Try.prog w = .ok (FloatKind.f64.format.order a b == some .eq) w := by
  unfold Op.equalIn
  simp [go_sem]
  rfl

def rightB (lo hi : Nat) : Bool := eqB lo (infI 1) && eqB hi (infI (-1)) || hsB lo hi

set_option maxHeartbeats 400000 in
theorem right_core (lo hi : Nat) (t : Bool) (hs : ∀ w, Calls Try.prog 57 #[.agg #[.float .f64 lo, .float .f64 hi]] w fun e w' => e = .returned (.bool t) ∧ Below w.heap.size w w') (b1 b2 : Bool)
    (o1 : (FloatKind.f64.format.order lo (infI 1) == some .eq) = b1) (o2 : (FloatKind.f64.format.order hi (infI (-1)) == some .eq) = b2) (w : World) :
    Calls Try.prog 15 #[.agg #[.float .f64 lo, .float .f64 hi]] w fun e w' => e = .returned (.bool (b1 && b2 || t)) ∧ Below w.heap.size w w' := by
  by_cases hb : (b1 && b2) = true
  · obtain rfl : b1 = true := by cases b1 <;> simp_all
    obtain rfl : b2 = true := by simpa using hb
    clear hb
    go_enter Try.func15, Try.ntmps15
    go_wp2_with fail
    go_region_with (go_at_call 21; refine (empty_w _).mono ?_; rintro _ w1 ⟨rfl, hb1⟩
                    have s0 : w1.cell? ⟨w.heap.size, 0, none⟩ = some (.float .f64 lo) := (hb1.cell (by simp)).trans (by go_simp)
                    have s1 : w1.cell? ⟨w.heap.size, 1, none⟩ = some (.float .f64 hi) := (hb1.cell (by simp)).trans (by go_simp))
    all_goals
      go_wp2
      go_ret
      exact ⟨rfl, later (by go_grown) hb1⟩
  · have e : (b1 && b2) = false := by simpa using hb
    rw [e, Bool.false_or]
    clear hb
    have o3 : b1 = false ∨ b1 = true ∧ b2 = false := by cases b1 <;> simp_all
    clear e
    rcases o3 with rfl | ⟨rfl, rfl⟩
    all_goals
      go_enter Try.func15, Try.ntmps15
      go_wp2_with fail
      go_region_held3 (fun w' => w'.cell? ⟨w.heap.size, 0, none⟩ = some (.float .f64 lo) ∧ w'.cell? ⟨w.heap.size, 1, none⟩ = some (.float .f64 hi)) (first | go_keep | exact ⟨by assumption, by assumption⟩)
        (first
          | (go_at_call 21; refine (empty_w _).mono ?_; rintro _ w1 ⟨rfl, hb1⟩
             have s0 : w1.cell? ⟨w.heap.size, 0, none⟩ = some (.float .f64 lo) := (hb1.cell (by simp)).trans (by go_simp)
             have s1 : w1.cell? ⟨w.heap.size, 1, none⟩ = some (.float .f64 hi) := (hb1.cell (by simp)).trans (by go_simp)
             have hz : w.heap.size < w1.heap.size := by have := hb1.size; simp at this; omega)
          | (go_at_call 57; refine (hs _).mono ?_; rintro _ w2 ⟨rfl, hb2⟩
             have t0 : w2.cell? ⟨w.heap.size, 0, none⟩ = some (.float .f64 lo) := (hb2.cell hz).trans s0
             have t1 : w2.cell? ⟨w.heap.size, 1, none⟩ = some (.float .f64 hi) := (hb2.cell hz).trans s1))
      all_goals
        go_wp2
        go_ret
        exact ⟨rfl, later (later (by go_grown) hb1) hb2⟩

theorem right_w (lo hi : Nat) (hl : lo < 18446744073709551616) (hh : hi < 18446744073709551616) (w : World) :
    Calls Try.prog 15 #[.agg #[.float .f64 lo, .float .f64 hi]] w fun e w' => e = .returned (.bool (rightB lo hi)) ∧ Below w.heap.size w w' :=
  right_core lo hi _ (fun w => holdsSome_w lo hi hl hh w) _ _ (o_eq hl (infI_lt 1)) (o_eq hh (infI_lt (-1))) w

theorem abs_w (x : Nat) (hx : x < 18446744073709551616) (w : World) : Calls Try.prog 13 #[.float .f64 x] w fun e w' => e = .returned (.float .f64 (x % 9223372036854775808)) ∧ w = w' := by
  have hn : bits .andNot .u64 (x : Int) 9223372036854775808 = ((x % 9223372036854775808 : Nat) : Int) := by
    rw [show (9223372036854775808 : Int) = ((9223372036854775808 : Nat) : Int) from rfl, u64_andNot_nat x _ hx (by decide), show 18446744073709551615 - 9223372036854775808 = 2 ^ 63 - 1 from rfl, Nat.and_two_pow_sub_one_eq_mod]
  generalize x % 9223372036854775808 = r at *
  go_enter Try.func13, Try.ntmps13
  go_wp2
  all_goals (go_ret; exact ⟨rfl, rfl⟩)

end Go.Proofs.Yteapiigegbdopaa
