/- The walks of Make, Point, Whole, mirror, Neg: intervals made of ends. -/
import Derived.Test.YteapiigegbdopaaIb
namespace Go.Proofs.Yteapiigegbdopaa
open Go.ChangeShapes Go.WideShapes Go.ChangeAt Go.RowKit

/-- Two cells of a block, that may be written. -/
def Has2 (w : World) (b : Nat) (x y : Value) : Prop := w.cell? ⟨b, 0, none⟩ = some x ∧ w.cell? ⟨b, 1, none⟩ = some y ∧ w.frozen? ⟨b, 0, none⟩ = false ∧ w.frozen? ⟨b, 1, none⟩ = false ∧ b < w.heap.size
theorem Has2.keep {W0 w2 : World} {b : Nat} {x y : Value} (h : Has2 W0 b x y) (hb : Below W0.heap.size W0 w2) : Has2 w2 b x y := by
  obtain ⟨h0, h1, f0, f1, hl⟩ := h
  exact ⟨keepsC hb h0 hl, keepsC hb h1 hl, keepsF hb f0 hl, keepsF hb f1 hl, Nat.lt_of_lt_of_le hl hb.size⟩

/-- The interval of two ends, nought without its sign, or the empty one. -/
def makeP (lo hi : Nat) : Nat × Nat := if hsB (pz lo) (pz hi) then (pz lo, pz hi) else (infI 1, infI (-1))

set_option maxHeartbeats 400000 in
theorem make_w (lo hi : Nat) (hl : lo < 18446744073709551616) (hh : hi < 18446744073709551616) (w : World) :
    Calls Try.prog 18 #[.float .f64 lo, .float .f64 hi] w fun e w' => e = .returned (.agg #[.float .f64 (makeP lo hi).1, .float .f64 (makeP lo hi).2]) ∧ Below w.heap.size w w' := by
  have hs := fun w => holdsSome_w (pz lo) (pz hi) (pz_lt hl) (pz_lt hh) w
  have e : makeP lo hi = if hsB (pz lo) (pz hi) then (pz lo, pz hi) else (infI 1, infI (-1)) := rfl
  rw [e]
  clear e
  generalize hsB (pz lo) (pz hi) = b at *
  cases b
  · go_enter Try.func18, Try.ntmps18
    go_wp2_with (first
      | (go_at_call 61; refine (wosz_w _ (by assumption) _).mono ?_; rintro _ _ ⟨rfl, rfl⟩)
      | (go_at_call 57; refine (hs _).mono ?_; rintro _ w1 ⟨rfl, hb1⟩
         have k1 : Has2 w1 w.heap.size (.float .f64 0) (.float .f64 0) := Has2.keep ⟨by go_simp, by go_simp, by go_simp, by go_simp, by go_size⟩ hb1
         obtain ⟨a0, a1, a2, a3, a4⟩ := k1)
      | (go_at_call 21; refine (empty_w _).mono ?_; rintro _ w2 ⟨rfl, hb2⟩
         obtain ⟨d0, d1, d2, d3, d4⟩ := Has2.keep ⟨a0, a1, a2, a3, a4⟩ hb2))
    all_goals
      refine bodyPost_ret (v := .agg #[.float .f64 (infI 1), .float .f64 (infI (-1))]) (by simp [results, Try.results18, go_sem, *]) rfl ⟨rfl, ?_⟩
      have t : Below w.heap.size w w2 := later (later (by go_grown) hb1) hb2
      repeat' (first | (with_reducible exact t) | (with_reducible refine Below.setCell ?_ ?_ _) | go_size)
  · go_enter Try.func18, Try.ntmps18
    go_wp2_with (first
      | (go_at_call 61; refine (wosz_w _ (by assumption) _).mono ?_; rintro _ _ ⟨rfl, rfl⟩)
      | (go_at_call 57; refine (hs _).mono ?_; rintro _ w1 ⟨rfl, hb1⟩
         have k1 : Has2 w1 w.heap.size (.float .f64 0) (.float .f64 0) := Has2.keep ⟨by go_simp, by go_simp, by go_simp, by go_simp, by go_size⟩ hb1
         have k2 : Has2 w1 (w.heap.size + 1) (.float .f64 (pz lo)) (.float .f64 (pz hi)) := Has2.keep ⟨by go_simp, by go_simp, by go_simp, by go_simp, by go_size⟩ hb1
         obtain ⟨a0, a1, a2, a3, a4⟩ := k1
         obtain ⟨d0, d1, d2, d3, d4⟩ := k2))
    all_goals
      refine bodyPost_ret (v := .agg #[.float .f64 (pz lo), .float .f64 (pz hi)]) (by simp [results, Try.results18, go_sem, *]) rfl ⟨rfl, ?_⟩
      have t : Below w.heap.size w w1 := later (by go_grown) hb1
      repeat' (first | (with_reducible exact t) | (with_reducible refine Below.setCell ?_ ?_ _) | go_size)

end Go.Proofs.Yteapiigegbdopaa
