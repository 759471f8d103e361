/- The walks of Inside and Strict. -/
import Derived.Test.YteapiigegbdopaaIe
namespace Go.Proofs.Yteapiigegbdopaa
open Go.ChangeShapes Go.WideShapes Go.ChangeAt Go.RowKit

/-- What lay there lies there behind a new block and a callee. -/
theorem keepsA {w1 w2 : World} {o : Obj} (hb : Below (w1.alloc o).heap.size (w1.alloc o) w2) {b k : Nat} {v : Value} (h : w1.cell? ⟨b, k, none⟩ = some v) (hlt : b < w1.heap.size) : w2.cell? ⟨b, k, none⟩ = some v :=
  keepsC (W0 := w1.alloc o) hb (keepsC ((Below.refl _ _).alloc (Nat.le_refl _) o) h hlt) (by simp only [World.size_alloc]; omega)

def insideB (xl xh yl yh : Nat) : Bool := !hsB xl xh || (hsB yl yh && leB yl xl && leB xh yh)
def strictB (xl xh yl yh : Nat) : Bool := !hsB xl xh || (hsB yl yh && roomB xl yl && roomB (negB xh) (negB yh))

set_option maxHeartbeats 800000 in
theorem inside_w (xl xh yl yh : Nat) (h1 : xl < 18446744073709551616) (h2 : xh < 18446744073709551616) (h3 : yl < 18446744073709551616) (h4 : yh < 18446744073709551616) (w : World) :
    Calls Try.prog 27 #[.agg #[.float .f64 xl, .float .f64 xh], .agg #[.float .f64 yl, .float .f64 yh]] w fun e w' => e = .returned (.bool (insideB xl xh yl yh)) ∧ Below w.heap.size w w' := by
  have c1 := fun b W c0 c1 => someEmpty1_w b xl xh h1 h2 W c0 c1
  have c2 := fun b W c0 c1 => someEmpty1_w b yl yh h3 h4 W c0 c1
  have o1 := o_le h3 h1
  have o2 := o_le h2 h4
  unfold insideB
  generalize hsB xl xh = b1 at *
  generalize hsB yl yh = b2 at *
  generalize leB yl xl = b3 at *
  generalize leB xh yh = b4 at *
  clear h1 h2 h3 h4
  cases b1
  · go_enter Try.func27, Try.ntmps27
    go_wp2_with (go_at_call 64; refine (c1 (w.heap.size + 1 + 1) _ (by go_simp) (by go_simp)).mono ?_; rintro _ w1 ⟨rfl, hb1⟩)
    go_ret
    exact ⟨rfl, later (by go_grown) hb1⟩
  case' true => cases b2
  case' true.true => cases b3
  case' true.true.true => cases b4
  all_goals
    go_enter Try.func27, Try.ntmps27
    go_upto_region 3 with
     (go_at_call 64; refine (c1 (w.heap.size + 1 + 1) _ (by go_simp) (by go_simp)).mono ?_; rintro _ w1 ⟨rfl, hb1⟩
      have s0 : w1.cell? ⟨w.heap.size, 0, none⟩ = some (.float .f64 xl) := (hb1.cell (by simp <;> omega)).trans (by go_simp)
      have s1 : w1.cell? ⟨w.heap.size, 1, none⟩ = some (.float .f64 xh) := (hb1.cell (by simp <;> omega)).trans (by go_simp)
      have s2 : w1.cell? ⟨w.heap.size + 1, 0, none⟩ = some (.float .f64 yl) := (hb1.cell (by simp <;> omega)).trans (by go_simp)
      have s3 : w1.cell? ⟨w.heap.size + 1, 1, none⟩ = some (.float .f64 yh) := (hb1.cell (by simp <;> omega)).trans (by go_simp)
      have hz : w.heap.size + 1 < w1.heap.size := by have := hb1.size; simp only [World.size_alloc] at this; omega
      have hB : Below w.heap.size w w1 := later (by go_grown) hb1)
    go_wp2_with
     (go_at_call 64; refine (c2 w1.heap.size _ (by go_simp) (by go_simp)).mono ?_; rintro _ w2 ⟨rfl, hb2⟩
      have t0 : w2.cell? ⟨w.heap.size, 0, none⟩ = some (.float .f64 xl) := keepsA hb2 s0 (by omega)
      have t1 : w2.cell? ⟨w.heap.size, 1, none⟩ = some (.float .f64 xh) := keepsA hb2 s1 (by omega)
      have t2 : w2.cell? ⟨w.heap.size + 1, 0, none⟩ = some (.float .f64 yl) := keepsA hb2 s2 (by omega)
      have t3 : w2.cell? ⟨w.heap.size + 1, 1, none⟩ = some (.float .f64 yh) := keepsA hb2 s3 (by omega))
    go_ret
    exact ⟨rfl, later (hB.alloc hB.size _) hb2⟩

set_option maxHeartbeats 800000 in
theorem strict_w (xl xh yl yh : Nat) (h1 : xl < 18446744073709551616) (h2 : xh < 18446744073709551616) (h3 : yl < 18446744073709551616) (h4 : yh < 18446744073709551616) (w : World) :
    Calls Try.prog 29 #[.agg #[.float .f64 xl, .float .f64 xh], .agg #[.float .f64 yl, .float .f64 yh]] w fun e w' => e = .returned (.bool (strictB xl xh yl yh)) ∧ Below w.heap.size w w' := by
  have c1 := fun b W c0 c1 => someEmpty1_w b xl xh h1 h2 W c0 c1
  have c2 := fun b W c0 c1 => someEmpty1_w b yl yh h3 h4 W c0 c1
  have o1 := fun w => room_w xl yl h1 h3 w
  have o2 := fun w => room_w (negB xh) (negB yh) (negB_lt h2) (negB_lt h4) w
  have n1 : Op.negFloat .f64 xh = negB xh := negFloat_eq xh h2
  have n2 : Op.negFloat .f64 yh = negB yh := negFloat_eq yh h4
  unfold strictB
  generalize hsB xl xh = b1 at *
  generalize hsB yl yh = b2 at *
  generalize roomB xl yl = b3 at *
  generalize roomB (negB xh) (negB yh) = b4 at *
  generalize negB xh = mxh at *
  generalize negB yh = myh at *
  clear h1 h2 h3 h4
  cases b1
  · go_enter Try.func29, Try.ntmps29
    go_wp2_with (go_at_call 64; refine (c1 (w.heap.size + 1 + 1) _ (by go_simp) (by go_simp)).mono ?_; rintro _ w1 ⟨rfl, hb1⟩)
    go_ret
    exact ⟨rfl, later (by go_grown) hb1⟩
  case' true => cases b2
  case' true.true => cases b3
  case' true.true.true => cases b4
  all_goals
    go_enter Try.func29, Try.ntmps29
    go_upto_region 3 with
     (go_at_call 64; refine (c1 (w.heap.size + 1 + 1) _ (by go_simp) (by go_simp)).mono ?_; rintro _ w1 ⟨rfl, hb1⟩
      have s0 : w1.cell? ⟨w.heap.size, 0, none⟩ = some (.float .f64 xl) := (hb1.cell (by simp <;> omega)).trans (by go_simp)
      have s1 : w1.cell? ⟨w.heap.size, 1, none⟩ = some (.float .f64 xh) := (hb1.cell (by simp <;> omega)).trans (by go_simp)
      have s2 : w1.cell? ⟨w.heap.size + 1, 0, none⟩ = some (.float .f64 yl) := (hb1.cell (by simp <;> omega)).trans (by go_simp)
      have s3 : w1.cell? ⟨w.heap.size + 1, 1, none⟩ = some (.float .f64 yh) := (hb1.cell (by simp <;> omega)).trans (by go_simp)
      have hz : w.heap.size + 1 < w1.heap.size := by have := hb1.size; simp only [World.size_alloc] at this; omega
      have hB : Below w.heap.size w w1 := later (by go_grown) hb1)
    go_wp2_with (first
     | (go_at_call 64; refine (c2 w1.heap.size _ (by go_simp) (by go_simp)).mono ?_; rintro _ w2 ⟨rfl, hb2⟩
        have t0 : w2.cell? ⟨w.heap.size, 0, none⟩ = some (.float .f64 xl) := keepsA hb2 s0 (by omega)
        have t1 : w2.cell? ⟨w.heap.size, 1, none⟩ = some (.float .f64 xh) := keepsA hb2 s1 (by omega)
        have t2 : w2.cell? ⟨w.heap.size + 1, 0, none⟩ = some (.float .f64 yl) := keepsA hb2 s2 (by omega)
        have t3 : w2.cell? ⟨w.heap.size + 1, 1, none⟩ = some (.float .f64 yh) := keepsA hb2 s3 (by omega))
     | (go_at_call_of 66 (Value.float .f64 xl); refine (o1 _).mono ?_; rintro _ _ ⟨rfl, rfl⟩)
     | (go_at_call_of 66 (Value.float .f64 mxh); refine (o2 _).mono ?_; rintro _ _ ⟨rfl, rfl⟩))
    go_ret
    exact ⟨rfl, later (hB.alloc hB.size _) hb2⟩

end Go.Proofs.Yteapiigegbdopaa
