/- IvalGrows: what the core asks for, and the way out. -/
import Derived.Test.YtimcjmkjichgnaaNc
namespace Go.Proofs.Ytimcjmkjichgnaa
open Go.ChangeShapes Go.WideShapes Go.ChangeAt Go.RowKit

set_option maxHeartbeats 4000000 in
theorem grows_out (xl xh yl yh ml mh gl gh : Nat) (n : Int) (b1 b2 b3 b4 : Bool)
    (ch : ∀ w, Calls Try.prog 38 #[.agg #[.float .f64 xl, .float .f64 xh], .agg #[.float .f64 ml, .float .f64 mh]] w fun e w' => e = .returned (.agg #[.float .f64 gl, .float .f64 gh]) ∧ Below w.heap.size w w')
    (r1 : ∀ w, Calls Try.prog 29 #[.agg #[.float .f64 xl, .float .f64 xh]] w fun e w' => e = .returned (.bool b1) ∧ Below w.heap.size w w') (r2 : ∀ w, Calls Try.prog 29 #[.agg #[.float .f64 yl, .float .f64 yh]] w fun e w' => e = .returned (.bool b2) ∧ Below w.heap.size w w') (r3 : ∀ w, Calls Try.prog 29 #[.agg #[.float .f64 ml, .float .f64 mh]] w fun e w' => e = .returned (.bool b3) ∧ Below w.heap.size w w') (r4 : ∀ w, Calls Try.prog 66 #[.agg #[.float .f64 xl, .float .f64 xh]] w fun e w' => e = .returned (.bool (!b4)) ∧ Below w.heap.size w w') (hb : (b1 && b2 && b3 && b4) = false) (w : World) :
    Calls Try.prog 14 #[.agg #[.float .f64 xl, .float .f64 xh], .agg #[.float .f64 yl, .float .f64 yh], .agg #[.float .f64 ml, .float .f64 mh], .int .i64 n] w fun e w' => e = .returned (.bool true) ∧ Below w.heap.size w w' := by
  obtain ⟨X, Y, M, HB⟩ := enter3 w (.float .f64 xl) (.float .f64 xh) (.float .f64 yl) (.float .f64 yh) (.float .f64 ml) (.float .f64 mh) 31
  go_enter Try.func14, Try.ntmps14
  go_upto_region 1 with fail
  generalize ((w.alloc (.cells #[.float .f64 xl, .float .f64 xh] 31)).alloc (.cells #[.float .f64 yl, .float .f64 yh] 31)).alloc (.cells #[.float .f64 ml, .float .f64 mh] 31) = V0 at *
  obtain ⟨x0, x1, x2, x3, x4⟩ := id X
  obtain ⟨m0, m1, m2, m3, m4⟩ := id M
  go_upto_region 2 with (go_at_call 38; refine (ch _).mono ?_; rintro _ V1 ⟨rfl, hb1⟩; replace X := X.keep hb1; replace Y := Y.keep hb1; replace M := M.keep hb1; replace HB := later HB hb1; clear hb1; clear x0 x1 x2 x3 x4 m0 m1 m2 m3 m4)
  replace X := X.alloc (.cells #[.float .f64 gl, .float .f64 gh] 31)
  replace Y := Y.alloc (.cells #[.float .f64 gl, .float .f64 gh] 31)
  replace M := M.alloc (.cells #[.float .f64 gl, .float .f64 gh] 31)
  replace HB := below_alloc HB (.cells #[.float .f64 gl, .float .f64 gh] 31)
  generalize V1.alloc (.cells #[.float .f64 gl, .float .f64 gh] 31) = V2 at *
  clear ch
  obtain ⟨x0, x1, x2, x3, x4⟩ := id X
  obtain ⟨y0, y1, y2, y3, y4⟩ := id Y
  obtain ⟨m0, m1, m2, m3, m4⟩ := id M
  cases b1
  case' true =>
    cases b2
    case' true =>
      cases b3
      case' true =>
        cases b4
        case' true => cases hb
  all_goals
    try simp only [Bool.not_false] at r4
    go_wp2_with (first
    | (go_at_call_of 29 (Value.agg #[.float .f64 xl, .float .f64 xh]); with_reducible refine (r1 _).mono ?_; rintro _ V3 ⟨rfl, hb1⟩; replace X := X.keep hb1; replace Y := Y.keep hb1; replace M := M.keep hb1; replace HB := later HB hb1; clear hb1; clear x0 x1 x2 x3 x4 y0 y1 y2 y3 y4 m0 m1 m2 m3 m4
       obtain ⟨x0, x1, x2, x3, x4⟩ := id X
       obtain ⟨y0, y1, y2, y3, y4⟩ := id Y
       obtain ⟨m0, m1, m2, m3, m4⟩ := id M)
    | (go_at_call 29; with_reducible refine (r2 _).mono ?_; rintro _ V3 ⟨rfl, hb1⟩; replace X := X.keep hb1; replace Y := Y.keep hb1; replace M := M.keep hb1; replace HB := later HB hb1; clear hb1; clear x0 x1 x2 x3 x4 y0 y1 y2 y3 y4 m0 m1 m2 m3 m4
       obtain ⟨x0, x1, x2, x3, x4⟩ := id X
       obtain ⟨y0, y1, y2, y3, y4⟩ := id Y
       obtain ⟨m0, m1, m2, m3, m4⟩ := id M)
    | (go_at_call 29; with_reducible refine (r3 _).mono ?_; rintro _ V3 ⟨rfl, hb1⟩; replace X := X.keep hb1; replace Y := Y.keep hb1; replace M := M.keep hb1; replace HB := later HB hb1; clear hb1; clear x0 x1 x2 x3 x4 y0 y1 y2 y3 y4 m0 m1 m2 m3 m4
       obtain ⟨x0, x1, x2, x3, x4⟩ := id X
       obtain ⟨y0, y1, y2, y3, y4⟩ := id Y
       obtain ⟨m0, m1, m2, m3, m4⟩ := id M)
    | (go_at_call 66; with_reducible refine (r4 _).mono ?_; rintro _ V4 ⟨rfl, hb1⟩; replace X := X.keep hb1; replace Y := Y.keep hb1; replace M := M.keep hb1; replace HB := later HB hb1; clear hb1; clear x0 x1 x2 x3 x4 y0 y1 y2 y3 y4 m0 m1 m2 m3 m4))
    go_ret
    exact ⟨rfl, HB⟩

theorem ivalGrows_all (xl xh yl yh ml mh : Nat) (n : Int) (h1 : xl < 18446744073709551616) (h2 : xh < 18446744073709551616) (h3 : yl < 18446744073709551616) (h4 : yh < 18446744073709551616) (h5 : ml < 18446744073709551616) (h6 : mh < 18446744073709551616) (w : World) :
    Calls Try.prog 14 #[.agg #[.float .f64 xl, .float .f64 xh], .agg #[.float .f64 yl, .float .f64 yh], .agg #[.float .f64 ml, .float .f64 mh], .int .i64 n] w fun e w' => e = .returned (.bool true) ∧ Below w.heap.size w w' := by
  have r1 := fun w => refRight_w xl xh h1 h2 w
  have r2 := fun w => refRight_w yl yh h3 h4 w
  have r3 := fun w => refRight_w ml mh h5 h6 w
  have r4 := fun w => none_w xl xh h1 h2 w
  have ch := fun w => lawHull_w xl xh ml mh h1 h2 h5 h6 w
  have gl := hullP_lt h1 h2 h5 h6
  by_cases c : (rightB xl xh && rightB yl yh && rightB ml mh && hsB xl xh) = true
  · simp only [Bool.and_eq_true] at c
    obtain ⟨⟨⟨q1, q2⟩, q3⟩, q4⟩ := c
    rw [q1] at r1
    rw [q2] at r2
    rw [q3] at r3
    rw [q4] at r4
    have S := hs_iff.1 q4
    obtain ⟨T, kl, kh⟩ := inside_iff.1 (inside_hull xl xh ml mh).1 S
    have X : In xl xh (hullP xl xh ml mh).1 (hullP xl xh ml mh).2 := ⟨S, T, kl, kh, h1, h2, gl.1, gl.2⟩
    generalize (hullP xl xh ml mh).1 = g1 at *
    generalize (hullP xl xh ml mh).2 = g2 at *
    have E : hsB yl yh = false → ∀ a b, addP a b yl yh = (infI 1, infI (-1)) ∧ mulP a b yl yh = (infI 1, infI (-1)) ∧ divP a b yl yh = (infI 1, infI (-1)) ∧ divP yl yh a b = (infI 1, infI (-1)) ∧ meetP a b yl yh = (infI 1, infI (-1)) ∧ addP yl yh a b = (infI 1, infI (-1)) := fun h a b => by
      unfold addP mulP divP meetP
      rw [h]
      simp
    have P : Gr (addP xl xh yl yh) (addP g1 g2 yl yh) ∧ Gr (addP yl yh (negP (xl, xh)).1 (negP (xl, xh)).2) (addP yl yh (negP (g1, g2)).1 (negP (g1, g2)).2) ∧ Gr (mulP xl xh yl yh) (mulP g1 g2 yl yh) ∧ Gr (divP xl xh yl yh) (divP g1 g2 yl yh) ∧ Gr (divP yl yh xl xh) (divP yl yh g1 g2) ∧ Gr (meetP xl xh yl yh) (meetP g1 g2 yl yh) := by
      cases hy : hsB yl yh
      · have E := E hy
        rw [(E xl xh).1, (E g1 g2).1, (E xl xh).2.1, (E g1 g2).2.1, (E xl xh).2.2.1, (E g1 g2).2.2.1, (E xl xh).2.2.2.1, (E g1 g2).2.2.2.1, (E xl xh).2.2.2.2.1, (E g1 g2).2.2.2.2.1, (E _ _).2.2.2.2.2, (E _ _).2.2.2.2.2]
        exact ⟨gr_empty, gr_empty, gr_empty, gr_empty, gr_empty, gr_empty⟩
      · have Y := In.refl h3 h4 (hs_iff.1 hy)
        exact ⟨add_gr X Y, add_gr Y (neg_in X), mul_gr X h3 h4 (hs_iff.1 hy), div_gr X Y, div_gr Y X, meet_gr X (hs_iff.1 hy)⟩
    obtain ⟨p0, p1, p2, p3, p4, p8⟩ := P
    have p5 := sqr_gr X
    have p6 := sqrt_gr X
    have p7 := pow_gr X n
    have nl := negP_lt h1 h2
    have ng := negP_lt gl.1 gl.2
    obtain ⟨F, hF⟩ : ∃ F : Nat → Nat × Nat, ∀ i, F i = match i with | 0 => addP xl xh yl yh | 1 => addP yl yh (negP (xl, xh)).1 (negP (xl, xh)).2 | 2 => mulP xl xh yl yh | 3 => divP xl xh yl yh | 4 => divP yl yh xl xh | 5 => sqrP xl xh | 6 => sqrtP xl xh | 7 => powP xl xh n | _ => meetP xl xh yl yh := ⟨_, fun _ => rfl⟩
    obtain ⟨G, hG⟩ : ∃ G : Nat → Nat × Nat, ∀ i, G i = match i with | 0 => addP g1 g2 yl yh | 1 => addP yl yh (negP (g1, g2)).1 (negP (g1, g2)).2 | 2 => mulP g1 g2 yl yh | 3 => divP g1 g2 yl yh | 4 => divP yl yh g1 g2 | 5 => sqrP g1 g2 | 6 => sqrtP g1 g2 | 7 => powP g1 g2 n | _ => meetP g1 g2 yl yh := ⟨_, fun _ => rfl⟩
    have W : ∀ i, i < 9 → Gr (F i) (G i) ∧ ((F i).1 < 18446744073709551616 ∧ (F i).2 < 18446744073709551616) ∧ ((G i).1 < 18446744073709551616 ∧ (G i).2 < 18446744073709551616) := fun i hi => by
      rw [hF, hG]
      match i, hi with
      | 0, _ => exact ⟨p0, addP_lt h1 h2 h3 h4, addP_lt gl.1 gl.2 h3 h4⟩
      | 1, _ => exact ⟨p1, addP_lt h3 h4 nl.1 nl.2, addP_lt h3 h4 ng.1 ng.2⟩
      | 2, _ => exact ⟨p2, mulP_lt h1 h2 h3 h4, mulP_lt gl.1 gl.2 h3 h4⟩
      | 3, _ => exact ⟨p3, divP_lt h1 h2 h3 h4, divP_lt gl.1 gl.2 h3 h4⟩
      | 4, _ => exact ⟨p4, divP_lt h3 h4 h1 h2, divP_lt h3 h4 gl.1 gl.2⟩
      | 5, _ => exact ⟨p5, sqrP_lt h1 h2, sqrP_lt gl.1 gl.2⟩
      | 6, _ => exact ⟨p6, sqrtP_lt h1 h2, sqrtP_lt gl.1 gl.2⟩
      | 7, _ => exact ⟨p7, powP_lt h1 h2 n, powP_lt gl.1 gl.2 n⟩
      | 8, _ => exact ⟨p8, meetP_lt h1 h2 h3 h4, meetP_lt gl.1 gl.2 h3 h4⟩
    have le : ∀ {x y : Nat}, x < 18446744073709551616 → y < 18446744073709551616 → nanB x = false → nanB y = false → key x ≤ key y → (FloatKind.f64.format.order x y == some .lt || FloatKind.f64.format.order x y == some .eq) = true := fun {x y} hx hy nx ny k => by
      rw [o_le hx hy]
      unfold leB
      rw [nx, ny]
      simp [k]
    have D : ∀ {lo hi : Nat}, lo < 18446744073709551616 → hi < 18446744073709551616 → Some2 lo hi → widP lo hi < 18446744073709551616 ∧ nanB (widP lo hi) = false := fun {lo hi} a b S => addR_word b (negB_lt a) (wid_is a b S)
    obtain ⟨-, -, -, n1, n2, m1, m2⟩ := mag_keys h1 h2 S
    obtain ⟨-, -, -, n3, n4, m3, m4⟩ := mag_keys gl.1 gl.2 T
    have mle := mag_le X
    have fF0 : F 0 = addP xl xh yl yh := hF 0
    have fG0 : G 0 = addP g1 g2 yl yh := hG 0
    have fF1 : F 1 = addP yl yh (negP (xl, xh)).1 (negP (xl, xh)).2 := hF 1
    have fG1 : G 1 = addP yl yh (negP (g1, g2)).1 (negP (g1, g2)).2 := hG 1
    have fF2 : F 2 = mulP xl xh yl yh := hF 2
    have fG2 : G 2 = mulP g1 g2 yl yh := hG 2
    have fF3 : F 3 = divP xl xh yl yh := hF 3
    have fG3 : G 3 = divP g1 g2 yl yh := hG 3
    have fF4 : F 4 = divP yl yh xl xh := hF 4
    have fG4 : G 4 = divP yl yh g1 g2 := hG 4
    have fF5 : F 5 = sqrP xl xh := hF 5
    have fG5 : G 5 = sqrP g1 g2 := hG 5
    have fF6 : F 6 = sqrtP xl xh := hF 6
    have fG6 : G 6 = sqrtP g1 g2 := hG 6
    have fF7 : F 7 = powP xl xh n := hF 7
    have fG7 : G 7 = powP g1 g2 n := hG 7
    have fF8 : F 8 = meetP xl xh yl yh := hF 8
    have fG8 : G 8 = meetP g1 g2 yl yh := hG 8
    clear hF hG
    refine grows_core xl xh yl yh ml mh g1 g2 (widP xl xh) (widP g1 g2) (magP xl xh) (magP g1 g2) (migP xl xh) (migP g1 g2) (fun i => (F i).1) (fun i => (F i).2) (fun i => (G i).1) (fun i => (G i).2) n ch r1 r2 r3 r4
      (fun w => by have q := Add_w xl xh yl yh h1 h2 h3 h4 w; rw [← fF0] at q; exact q) (fun w => by have q := Add_w g1 g2 yl yh gl.1 gl.2 h3 h4 w; rw [← fG0] at q; exact q) (fun w => by have q := Sub_w yl yh xl xh h3 h4 h1 h2 w; rw [← fF1] at q; exact q) (fun w => by have q := Sub_w yl yh g1 g2 h3 h4 gl.1 gl.2 w; rw [← fG1] at q; exact q) (fun w => by have q := Mul_w xl xh yl yh h1 h2 h3 h4 w; rw [← fF2] at q; exact q) (fun w => by have q := Mul_w g1 g2 yl yh gl.1 gl.2 h3 h4 w; rw [← fG2] at q; exact q) (fun w => by have q := Div_w xl xh yl yh h1 h2 h3 h4 w; rw [← fF3] at q; exact q) (fun w => by have q := Div_w g1 g2 yl yh gl.1 gl.2 h3 h4 w; rw [← fG3] at q; exact q) (fun w => by have q := Div_w yl yh xl xh h3 h4 h1 h2 w; rw [← fF4] at q; exact q) (fun w => by have q := Div_w yl yh g1 g2 h3 h4 gl.1 gl.2 w; rw [← fG4] at q; exact q) (fun w => by have q := Sqr_w xl xh h1 h2 w; rw [← fF5] at q; exact q) (fun w => by have q := Sqr_w g1 g2 gl.1 gl.2 w; rw [← fG5] at q; exact q) (fun w => by have q := Sqrt_w xl xh h1 h2 w; rw [← fF6] at q; exact q) (fun w => by have q := Sqrt_w g1 g2 gl.1 gl.2 w; rw [← fG6] at q; exact q) (fun w => by have q := Pow_w xl xh h1 h2 n w; rw [← fF7] at q; exact q) (fun w => by have q := Pow_w g1 g2 gl.1 gl.2 n w; rw [← fG7] at q; exact q) (fun w => by have q := meet_w xl xh yl yh h1 h2 h3 h4 w; rw [← fF8] at q; exact q) (fun w => by have q := meet_w g1 g2 yl yh gl.1 gl.2 h3 h4 w; rw [← fG8] at q; exact q) (fun i hi w => ?_) (fun i hi w => ?_) (fun i hi w => ?_) (fun w => ?_) (fun w => Wid_w xl xh h1 h2 w) (fun w => Wid_w g1 g2 gl.1 gl.2 w) (fun w => mag_w xl xh h1 h2 w) (fun w => mag_w g1 g2 gl.1 gl.2 w) (fun w => mig_w xl xh h1 h2 w) (fun w => mig_w g1 g2 gl.1 gl.2 w)
      (le (D h1 h2 S).1 (D gl.1 gl.2 T).1 (D h1 h2 S).2 (D gl.1 gl.2 T).2 (wid_le X)) (le (by omega) (by omega) n2 n4 mle.1) (le (by omega) (by omega) n3 n1 mle.2) w
    · have q := inside_w (F i).1 (F i).2 (G i).1 (G i).2 (W i hi).2.1.1 (W i hi).2.1.2 (W i hi).2.2.1 (W i hi).2.2.2 w
      rw [(W i hi).1.told.1] at q
      exact q
    · have q := refRight_w (F i).1 (F i).2 (W i hi).2.1.1 (W i hi).2.1.2 w
      rw [(W i hi).1.told.2.1] at q
      exact q
    · have q := refRight_w (G i).1 (G i).2 (W i hi).2.2.1 (W i hi).2.2.2 w
      rw [(W i hi).1.told.2.2] at q
      exact q
    · have q := inside_w xl xh g1 g2 h1 h2 gl.1 gl.2 w
      rw [inside_iff.2 fun _ => ⟨T, kl, kh⟩] at q
      exact q
  · exact grows_out xl xh yl yh ml mh _ _ n _ _ _ _ ch r1 r2 r3 r4 (by simpa using c) w


end Go.Proofs.Ytimcjmkjichgnaa
