/- The walks of mirror, Neg, Add and Sub of intervals. -/
import Derived.Test.YteapiigegbdopaaIf
namespace Go.Proofs.Yteapiigegbdopaa
open Go.ChangeShapes Go.WideShapes Go.ChangeAt Go.RowKit

def emptyP : Nat × Nat := (infI 1, infI (-1))
def mirrorP (x : Nat × Nat) : Nat × Nat := makeP (negB x.2) (negB x.1)
def negP (x : Nat × Nat) : Nat × Nat := if hsB x.1 x.2 then mirrorP x else emptyP

theorem mirror_w (lo hi : Nat) (hl : lo < 18446744073709551616) (hh : hi < 18446744073709551616) (w : World) :
    Calls Try.prog 69 #[.agg #[.float .f64 lo, .float .f64 hi]] w fun e w' => e = .returned (.agg #[.float .f64 (mirrorP (lo, hi)).1, .float .f64 (mirrorP (lo, hi)).2]) ∧ Below w.heap.size w w' := by
  have c := fun w => make_w (negB hi) (negB lo) (negB_lt hh) (negB_lt hl) w
  have n1 : Op.negFloat .f64 hi = negB hi := negFloat_eq hi hh
  have n2 : Op.negFloat .f64 lo = negB lo := negFloat_eq lo hl
  unfold mirrorP
  simp only
  generalize makeP (negB hi) (negB lo) = p at *
  generalize negB hi = mh at *
  generalize negB lo = ml at *
  go_enter Try.func69, Try.ntmps69
  go_wp2_with
   (go_at_call 18; refine (c _).mono ?_; rintro _ w1 ⟨rfl, hb1⟩
    have k1 : Has2 w1 (w.heap.size + 1) (.float .f64 0) (.float .f64 0) := Has2.keep ⟨by go_simp, by go_simp, by go_simp, by go_simp, by go_size⟩ hb1
    obtain ⟨a0, a1, a2, a3, a4⟩ := k1)
  refine bodyPost_ret (v := .agg #[.float .f64 p.1, .float .f64 p.2]) (by simp [results, Try.results69, go_sem, *]) rfl ⟨rfl, ?_⟩
  have t : Below w.heap.size w w1 := later (by go_grown) hb1
  repeat' (first | (with_reducible exact t) | (with_reducible refine Below.setCell ?_ ?_ _) | go_size)

set_option maxHeartbeats 400000 in
theorem neg_w (lo hi : Nat) (hl : lo < 18446744073709551616) (hh : hi < 18446744073709551616) (w : World) :
    Calls Try.prog 36 #[.agg #[.float .f64 lo, .float .f64 hi]] w fun e w' => e = .returned (.agg #[.float .f64 (negP (lo, hi)).1, .float .f64 (negP (lo, hi)).2]) ∧ Below w.heap.size w w' := by
  have c1 := fun b W c0 c1 => someEmpty1_w b lo hi hl hh W c0 c1
  have c2 := fun w => mirror_w lo hi hl hh w
  unfold negP
  simp only
  generalize hsB lo hi = b at *
  generalize mirrorP (lo, hi) = p at *
  cases b
  · go_enter Try.func36, Try.ntmps36
    go_wp2_with (first
      | (go_at_call 64; refine (c1 (w.heap.size + 1 + 1) _ (by go_simp) (by go_simp)).mono ?_; rintro _ w1 ⟨rfl, hb1⟩
         have k1 : Has2 w1 (w.heap.size + 1) (.float .f64 0) (.float .f64 0) := Has2.keep ⟨by go_simp, by go_simp, by go_simp, by go_simp, by go_size⟩ hb1)
      | (go_at_call 21; refine (empty_w _).mono ?_; rintro _ w2 ⟨rfl, hb2⟩
         obtain ⟨d0, d1, d2, d3, d4⟩ := k1.keep hb2))
    refine bodyPost_ret (v := .agg #[.float .f64 (infI 1), .float .f64 (infI (-1))]) (by simp [results, Try.results36, go_sem, *]) rfl ⟨rfl, ?_⟩
    have t : Below w.heap.size w w2 := later (later (by go_grown) hb1) hb2
    repeat' (first | (with_reducible exact t) | (with_reducible refine Below.setCell ?_ ?_ _) | go_size)
  · go_enter Try.func36, Try.ntmps36
    go_wp2_with (first
      | (go_at_call 64; refine (c1 (w.heap.size + 1 + 1) _ (by go_simp) (by go_simp)).mono ?_; rintro _ w1 ⟨rfl, hb1⟩
         have k1 : Has2 w1 (w.heap.size + 1) (.float .f64 0) (.float .f64 0) := Has2.keep ⟨by go_simp, by go_simp, by go_simp, by go_simp, by go_size⟩ hb1
         have k2 : Has2 w1 w.heap.size (.float .f64 lo) (.float .f64 hi) := Has2.keep ⟨by go_simp, by go_simp, by go_simp, by go_simp, by go_size⟩ hb1
         obtain ⟨a0, a1, a2, a3, a4⟩ := k2)
      | (go_at_call 69; refine (c2 _).mono ?_; rintro _ w2 ⟨rfl, hb2⟩
         obtain ⟨d0, d1, d2, d3, d4⟩ := k1.keep hb2))
    refine bodyPost_ret (v := .agg #[.float .f64 p.1, .float .f64 p.2]) (by simp [results, Try.results36, go_sem, *]) rfl ⟨rfl, ?_⟩
    have t : Below w.heap.size w w2 := later (later (by go_grown) hb1) hb2
    repeat' (first | (with_reducible exact t) | (with_reducible refine Below.setCell ?_ ?_ _) | go_size)

set_option maxHeartbeats 1000000 in
theorem add_i (xl xh yl yh : Nat) (h1 : xl < 18446744073709551616) (h2 : xh < 18446744073709551616) (h3 : yl < 18446744073709551616) (h4 : yh < 18446744073709551616) (o1 o2 : Option Nat)
    (ca : ∀ w, Calls Try.prog 9 #[.float .f64 xl, .float .f64 yl, .int .i64 (-1)] w fun x w' => Ans o1 x ∧ Below w.heap.size w w') (cb : ∀ w, Calls Try.prog 9 #[.float .f64 xh, .float .f64 yh, .int .i64 1] w fun x w' => Ans o2 x ∧ Below w.heap.size w w')
    (hs : (hsB xl xh && hsB yl yh) = true) (w : World) :
    Calls Try.prog 33 #[.agg #[.float .f64 xl, .float .f64 xh], .agg #[.float .f64 yl, .float .f64 yh]] w fun e w' => (∃ r1 r2, e = .returned (.agg #[.float .f64 r1, .float .f64 r2]) ∧ Told o1 r1 ∧ Told o2 r2) ∧ Below w.heap.size w w' := by
  have c1 := fun b W hlt c0 c1 c2 c3 => someEmpty2_w b xl xh yl yh h1 h2 h3 h4 W hlt c0 c1 c2 c3
  rw [hs] at c1
  clear hs h1 h2 h3 h4
  go_enter Try.func33, Try.ntmps33
  go_upto_region 3 with
   (go_at_call 64; refine (c1 (w.heap.size + 1 + 1 + 1) _ (by go_size) (by go_simp) (by go_simp) (by go_simp) (by go_simp)).mono ?_; rintro _ w1 ⟨rfl, hb1⟩
    have R : Has2 w1 (w.heap.size + 1 + 1) (.float .f64 0) (.float .f64 0) := Has2.keep ⟨by go_simp, by go_simp, by go_simp, by go_simp, by go_size⟩ hb1
    have X : Has2 w1 w.heap.size (.float .f64 xl) (.float .f64 xh) := Has2.keep ⟨by go_simp, by go_simp, by go_simp, by go_simp, by go_size⟩ hb1
    have Y : Has2 w1 (w.heap.size + 1) (.float .f64 yl) (.float .f64 yh) := Has2.keep ⟨by go_simp, by go_simp, by go_simp, by go_simp, by go_size⟩ hb1
    have HB : Below w.heap.size w w1 := later (by go_grown) hb1)
  clear hb1
  have X' : Has2 w1.drew w.heap.size (.float .f64 xl) (.float .f64 xh) := X
  have Y' : Has2 w1.drew (w.heap.size + 1) (.float .f64 yl) (.float .f64 yh) := Y
  have R' : Has2 w1.drew (w.heap.size + 1 + 1) (.float .f64 0) (.float .f64 0) := R
  have HB' : Below w.heap.size w w1.drew := HB.drew
  clear X Y R HB
  have ne1 : w.heap.size + 1 + 1 ≠ w.heap.size := by omega
  have ne2 : w.heap.size ≠ w.heap.size + 1 + 1 := by omega
  go_region_held3 (fun w' => w'.cell? ⟨w.heap.size, 0, none⟩ = some (.float .f64 xl) ∧ w'.cell? ⟨w.heap.size, 1, none⟩ = some (.float .f64 xh) ∧ w'.cell? ⟨w.heap.size + 1, 0, none⟩ = some (.float .f64 yl) ∧ w'.cell? ⟨w.heap.size + 1, 1, none⟩ = some (.float .f64 yh)) (first | exact ⟨X'.1, X'.2.1, Y'.1, Y'.2.1⟩ | go_keep)
    (first
      | (go_at_call_of 9 (Value.float .f64 xl); refine (ca _).mono ?_; rintro _ w2 ⟨⟨r1, rfl, t1⟩, hb1⟩; replace X' := X'.keep hb1; replace Y' := Y'.keep hb1; replace R' := R'.keep hb1; replace HB' := later HB' hb1; clear hb1)
      | (go_at_call_of 9 (Value.float .f64 xh); refine (cb _).mono ?_; rintro _ w3 ⟨⟨r2, rfl, t2⟩, hb1⟩; replace X' := X'.keep hb1; replace Y' := Y'.keep hb1; replace R' := R'.keep hb1; replace HB' := later HB' hb1; clear hb1; obtain ⟨d0, d1, d2, d3, d4⟩ := R'))
  all_goals
    go_wp2_with fail
    refine bodyPost_ret (v := .agg #[.float .f64 r1, .float .f64 r2]) (by simp [results, Try.results33, go_sem, *]) rfl ⟨⟨r1, r2, rfl, t1, t2⟩, ?_⟩
    repeat' (first | (with_reducible exact HB') | (with_reducible refine Below.setCell ?_ ?_ _) | go_size)

end Go.Proofs.Yteapiigegbdopaa
