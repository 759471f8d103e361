/- The reference's Div answers as the program's; IvalQuotients' walk. -/
import Derived.Test.YtnchhfhoaepjnaaGreatKl
namespace Go.Proofs.YtnchhfhoaepjnaaGreat
open Go.ChangeShapes Go.WideShapes Go.ChangeAt Go.RowKit

theorem divR_ways (t u : Nat) : divR t u (-1) = none ∨ divR t u (-1) = some 0 ∨ (∃ s, divR t u (-1) = some (infW s)) ∨ (isZ u = false ∧ divR t u (-1) = some (divF t u (-1))) := by
  unfold divR
  generalize divF t u (-1) = q
  by_cases c : (nanB t || nanB u || isZ u) = true
  · exact Or.inl (if_pos c)
  · rw [if_neg c]
    have z : isZ u = false := by
      cases h : isZ u
      · rfl
      · exact absurd (by rw [h, Bool.or_true]) c
    cases finB t
    · cases finB u
      · exact Or.inl rfl
      · exact Or.inr (Or.inr (Or.inl ⟨signB t != signB u, rfl⟩))
    · cases finB u
      · exact Or.inr (Or.inl rfl)
      · exact Or.inr (Or.inr (Or.inr ⟨z, rfl⟩))

theorem divD_lt (t u : Nat) : divD t u < 18446744073709551616 := by
  unfold divD
  rcases divR_ways t u with e | e | ⟨s, e⟩ | ⟨z, e⟩
  · rw [e, Option.getD_none]; omega
  · rw [e, Option.getD_some]; omega
  · rw [e, Option.getD_some]; exact (infW_facts s).2.2.1
  · rw [e, Option.getD_some]; exact (divF_facts (a := t) (-1) z).2.2

theorem over_lt (xl xh yl yh : Nat) :
    (rendsP (overLo xl yl yh) (overHi xh yl yh)).1 < 18446744073709551616 ∧ (rendsP (overLo xl yl yh) (overHi xh yl yh)).2 < 18446744073709551616 := by
  have h0' := infI_lt (-1)
  have dl : ∀ t u, divD t u < 18446744073709551616 := divD_lt
  have A : overLo xl yl yh < 18446744073709551616 := by
    unfold overLo leastP
    split
    · split
      · exact h0'
      · exact dl _ _
    · unfold greatP
      split
      · omega
      · exact dl _ _
  have B : overHi xh yl yh < 18446744073709551616 := by
    unfold overHi leastP
    split
    · refine zminus_lt ?_
      split
      · exact h0'
      · exact dl _ _
    · refine zminus_lt ?_
      unfold greatP
      split
      · omega
      · exact dl _ _
  unfold rendsP
  exact makeP_lt (by split <;> omega) (by split <;> omega)

set_option maxHeartbeats 1000000 in
theorem rdiv_none (xl xh yl yh : Nat) (b1 b2 : Bool)
    (c1 : ∀ w, Calls Tryz.prog 39 #[.agg #[.float .f64 xl, .float .f64 xh]] w fun e w' => e = .returned (.bool (!b1)) ∧ Below w.heap.size w w')
    (c2 : ∀ w, Calls Tryz.prog 39 #[.agg #[.float .f64 yl, .float .f64 yh]] w fun e w' => e = .returned (.bool (!b2)) ∧ Below w.heap.size w w')
    (hb : (b1 && b2) = false) (w : World) :
    Calls Tryz.prog 52 #[.agg #[.float .f64 xl, .float .f64 xh], .agg #[.float .f64 yl, .float .f64 yh]] w fun e w' => e = .returned (.agg #[.float .f64 (infI 1), .float .f64 (infI (-1))]) ∧ Below w.heap.size w w' := by
  obtain ⟨X, Y, R, HB⟩ := enter2 w (.float .f64 xl) (.float .f64 xh) (.float .f64 yl) (.float .f64 yh) 46
  cases b1
  case' true => cases b2
  case true.true => cases hb
  all_goals
    simp only [Bool.not_true, Bool.not_false] at c1 c2
    go_enter Tryz.func52, Tryz.ntmps52
    go_wp2_with fail
    generalize ((w.alloc (.cells #[.float .f64 xl, .float .f64 xh] 46)).alloc (.cells #[.float .f64 yl, .float .f64 yh] 46)).alloc (.cells #[.float .f64 0, .float .f64 0] 46) = V0 at *
    obtain ⟨x0, x1, x2, x3, x4⟩ := id X
    obtain ⟨y0, y1, y2, y3, y4⟩ := id Y
    obtain ⟨r0, r1, r2, r3, r4⟩ := id R
    go_wp2_with (first
      | (go_at_call_of 39 (Value.agg #[.float .f64 xl, .float .f64 xh]); refine (c1 _).mono ?_; rintro _ w1 ⟨rfl, hb1⟩; replace X := X.keep hb1; replace Y := Y.keep hb1; replace R := R.keep hb1; replace HB := later HB hb1; clear hb1 x0 x1 x2 x3 x4 y0 y1 y2 y3 y4 r0 r1 r2 r3 r4
         obtain ⟨x0, x1, x2, x3, x4⟩ := id X
         obtain ⟨y0, y1, y2, y3, y4⟩ := id Y
         obtain ⟨r0, r1, r2, r3, r4⟩ := id R)
      | (go_at_call_of 39 (Value.agg #[.float .f64 yl, .float .f64 yh]); refine (c2 _).mono ?_; rintro _ w1 ⟨rfl, hb1⟩; replace X := X.keep hb1; replace Y := Y.keep hb1; replace R := R.keep hb1; replace HB := later HB hb1; clear hb1 x0 x1 x2 x3 x4 y0 y1 y2 y3 y4 r0 r1 r2 r3 r4
         obtain ⟨x0, x1, x2, x3, x4⟩ := id X
         obtain ⟨y0, y1, y2, y3, y4⟩ := id Y
         obtain ⟨r0, r1, r2, r3, r4⟩ := id R)
      | (go_at_call 89; refine (rempty_w _).mono ?_; rintro _ w1 ⟨rfl, hb1⟩; replace X := X.keep hb1; replace Y := Y.keep hb1; replace R := R.keep hb1; replace HB := later HB hb1; clear hb1 x0 x1 x2 x3 x4 y0 y1 y2 y3 y4 r0 r1 r2 r3 r4
         obtain ⟨x0, x1, x2, x3, x4⟩ := id X
         obtain ⟨y0, y1, y2, y3, y4⟩ := id Y
         obtain ⟨r0, r1, r2, r3, r4⟩ := id R))
    refine bodyPost_ret (v := .agg #[.float .f64 (infI 1), .float .f64 (infI (-1))]) (by simp [results, Tryz.results52, go_sem, *]) rfl ⟨rfl, ?_⟩
    repeat' (first | (with_reducible exact HB) | (with_reducible refine Below.setCell ?_ ?_ _) | go_size)

theorem rDiv_w (xl xh yl yh : Nat) (h1 : xl < 18446744073709551616) (h2 : xh < 18446744073709551616) (h3 : yl < 18446744073709551616) (h4 : yh < 18446744073709551616) (w : World) :
    Calls Tryz.prog 52 #[.agg #[.float .f64 xl, .float .f64 xh], .agg #[.float .f64 yl, .float .f64 yh]] w fun e w' => e = .returned (.agg #[.float .f64 (divP xl xh yl yh).1, .float .f64 (divP xl xh yl yh).2]) ∧ Below w.heap.size w w' := by
  rw [← rdiv_is h1 h2 h3 h4]
  unfold rdivP
  cases hs : hsB xl xh && hsB yl yh
  · rw [if_pos rfl]
    exact rdiv_none xl xh yl yh _ _ (fun w => none_w xl xh h1 h2 w) (fun w => none_w yl yh h3 h4 w) hs w
  · rw [if_neg (by simp)]
    obtain ⟨hx, hy⟩ := Bool.and_eq_true_iff.1 hs
    have S := hs_iff.1 hx
    have T := hs_iff.1 hy
    have c1 := fun w => none_w xl xh h1 h2 w
    have c2 := fun w => none_w yl yh h3 h4 w
    rw [hx] at c1
    rw [hy] at c2
    have z0 : (0 : Nat) < 18446744073709551616 := by omega
    have o1 := o_gt h4 z0
    have o2 := o_lt h3 z0
    obtain ⟨S', k1, k2, l1, l2⟩ := mirror_some h1 h2 S
    obtain ⟨T', k3, k4, l3, l4⟩ := mirror_some h3 h4 T
    have nx : negP (xl, xh) = mirrorP (xl, xh) := by unfold negP; rw [if_pos hx]
    have ny : negP (yl, yh) = mirrorP (yl, yh) := by unfold negP; rw [if_pos hy]
    have OV : ∀ a b c d, a < 18446744073709551616 → b < 18446744073709551616 → (overP a b c d).1 < 18446744073709551616 ∧ (overP a b c d).2 < 18446744073709551616 := fun a b c d ha hb => by
      unfold overP
      cases he : eqB a 0 && eqB b 0
      · rw [if_neg (by simp)]
        exact over_lt a b c d
      · rw [if_pos rfl]
        exact ⟨ha, hb⟩
    have h0 := infI_lt 1
    have h0' := infI_lt (-1)
    have D1 : (rdiv1 xl xh yl yh).1 < 18446744073709551616 ∧ (rdiv1 xl xh yl yh).2 < 18446744073709551616 := by
      unfold rdiv1
      by_cases c : 0 < key yh
      · rw [gt0 T.nh, if_pos (by simpa using c)]
        have g := OV xl xh yl yh h1 h2
        exact hullP_lt h0 h0' g.1 g.2
      · rw [gt0 T.nh, if_neg (by simpa using c)]
        exact ⟨h0, h0'⟩
    refine rdiv_core xl xh yl yh (overP xl xh yl yh).1 (overP xl xh yl yh).2 (overP (negP (xl, xh)).1 (negP (xl, xh)).2 (negP (yl, yh)).1 (negP (yl, yh)).2).1 (overP (negP (xl, xh)).1 (negP (xl, xh)).2 (negP (yl, yh)).1 (negP (yl, yh)).2).2 (negP (xl, xh)).1 (negP (xl, xh)).2 (negP (yl, yh)).1 (negP (yl, yh)).2
      (rdiv1 xl xh yl yh).1 (rdiv1 xl xh yl yh).2 _ _ _ _ c1 c2 o1 o2 (fun _ w => rNeg_w xl xh h1 h2 w) (fun _ w => rNeg_w yl yh h3 h4 w) (fun c w => ?_) (fun c w => ?_) (fun c w => ?_) (fun c => ?_) (fun c => ?_) (fun c w => ?_) (fun c => ?_) (fun c => ?_) w
    · rw [gt0 T.nh] at c
      exact over_w xl xh yl yh h1 h2 h3 h4 S T (by simpa using c) w
    · rw [lt0 T.nl] at c
      have c : key yl < 0 := by simpa using c
      rw [nx, ny]
      exact over_w _ _ _ _ l1 l2 l3 l4 S' T' (by omega) w
    · rw [gt0 T.nh] at c
      have c' : 0 < key yh := by simpa using c
      have e : rdiv1 xl xh yl yh = hullP (infI 1) (infI (-1)) (overP xl xh yl yh).1 (overP xl xh yl yh).2 := by unfold rdiv1; rw [gt0 T.nh, if_pos (by simpa using c')]
      have g := OV xl xh yl yh h1 h2
      rw [e]
      exact rHull_w _ _ _ _ h0 h0' g.1 g.2 w
    · unfold rdiv1; rw [c]; rfl
    · unfold rdiv1; rw [c]; rfl
    · have e : rdiv2 (rdiv1 xl xh yl yh) xl xh yl yh = hullP (rdiv1 xl xh yl yh).1 (rdiv1 xl xh yl yh).2 (overP (negP (xl, xh)).1 (negP (xl, xh)).2 (negP (yl, yh)).1 (negP (yl, yh)).2).1 (overP (negP (xl, xh)).1 (negP (xl, xh)).2 (negP (yl, yh)).1 (negP (yl, yh)).2).2 := by unfold rdiv2; rw [if_pos c]
      rw [lt0 T.nl] at c
      have c : key yl < 0 := by simpa using c
      rw [e]
      have g : (overP (negP (xl, xh)).1 (negP (xl, xh)).2 (negP (yl, yh)).1 (negP (yl, yh)).2).1 < 18446744073709551616 ∧ (overP (negP (xl, xh)).1 (negP (xl, xh)).2 (negP (yl, yh)).1 (negP (yl, yh)).2).2 < 18446744073709551616 := by
        rw [nx, ny]
        exact OV _ _ _ _ l1 l2
      exact rHull_w _ _ _ _ D1.1 D1.2 g.1 g.2 w
    · unfold rdiv2; rw [c]; rfl
    · unfold rdiv2; rw [c]; rfl

theorem divP_lt {xl xh yl yh : Nat} (h1 : xl < 18446744073709551616) (h2 : xh < 18446744073709551616) (h3 : yl < 18446744073709551616) (h4 : yh < 18446744073709551616) : (divP xl xh yl yh).1 < 18446744073709551616 ∧ (divP xl xh yl yh).2 < 18446744073709551616 := by
  have h0 := infI_lt 1
  have h0' := infI_lt (-1)
  unfold divP
  cases hs : hsB xl xh && hsB yl yh
  · rw [if_pos rfl]; exact ⟨h0, h0'⟩
  · rw [if_neg (by simp)]
    obtain ⟨hx, hy⟩ := Bool.and_eq_true_iff.1 hs
    have S := hs_iff.1 hx
    have T := hs_iff.1 hy
    have ky := T.le
    obtain ⟨S', k1, k2, l1, l2⟩ := mirror_some h1 h2 S
    obtain ⟨T', k3, k4, l3, l4⟩ := mirror_some h3 h4 T
    by_cases cy : key yl = 0 ∧ key yh = 0
    · rw [if_pos cy]; exact ⟨h0, h0'⟩
    · rw [if_neg cy]
      by_cases cx : key xl = 0 ∧ key xh = 0
      · rw [if_pos cx]; exact ⟨by omega, by omega⟩
      · rw [if_neg cx]
        by_cases p1 : 0 ≤ key yl
        · rw [if_pos p1]
          obtain ⟨-, -, -, b3, b4, -, -⟩ := shrink_w h1 h2 h3 h4 S T p1 (by omega)
          exact makeP_lt b3 (negB_lt b4)
        · rw [if_neg p1]
          by_cases p2 : key yh ≤ 0
          · rw [if_pos p2]
            obtain ⟨-, -, -, b3, b4, -, -⟩ := shrink_w l1 l2 l3 l4 S' T' (by omega) (by omega)
            exact makeP_lt b3 (negB_lt b4)
          · rw [if_neg p2]; exact ⟨h0', h0⟩

end Go.Proofs.YtnchhfhoaepjnaaGreat
