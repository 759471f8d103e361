/- The reference's products, amounts and even powers of intervals answer as the program's; IvalProducts' walk. -/
import Derived.Test.YtddkojmdhckleaaKg
import Derived.Test.YtddkojmdhckleaaKe
namespace Go.Proofs.Ytddkojmdhckleaa
open Go.ChangeShapes Go.WideShapes Go.ChangeAt Go.RowKit

theorem rmulV_w (a b : Nat) (d : Int) (ha : a < 18446744073709551616) (hb : b < 18446744073709551616) (na : nanB a = false) (nb : nanB b = false) (w : World) :
    Calls Try.prog 48 #[.float .f64 a, .float .f64 b, .int .i64 d] w fun e w' => e = .returned (.float .f64 (mulV a b d)) ∧ Below w.heap.size w w' :=
  told_calls (mulV_is d na nb) (fun w => rmul_w a b d ha hb w) w

set_option maxHeartbeats 1000000 in
theorem rmul_none (xl xh yl yh : Nat) (b1 b2 : Bool)
    (c1 : ∀ w, Calls Try.prog 26 #[.agg #[.float .f64 xl, .float .f64 xh]] w fun e w' => e = .returned (.bool (!b1)) ∧ Below w.heap.size w w')
    (c2 : ∀ w, Calls Try.prog 26 #[.agg #[.float .f64 yl, .float .f64 yh]] w fun e w' => e = .returned (.bool (!b2)) ∧ Below w.heap.size w w')
    (hb : (b1 && b2) = false) (w : World) :
    Calls Try.prog 36 #[.agg #[.float .f64 xl, .float .f64 xh], .agg #[.float .f64 yl, .float .f64 yh]] w fun e w' => e = .returned (.agg #[.float .f64 (infI 1), .float .f64 (infI (-1))]) ∧ Below w.heap.size w w' := by
  obtain ⟨X, Y, R, HB⟩ := enter2 w (.float .f64 xl) (.float .f64 xh) (.float .f64 yl) (.float .f64 yh) 26
  cases b1
  case' true => cases b2
  case true.true => cases hb
  all_goals
    simp only [Bool.not_true, Bool.not_false] at c1 c2
    go_enter Try.func36, Try.ntmps36
    go_wp2_with fail
    generalize ((w.alloc (.cells #[.float .f64 xl, .float .f64 xh] 26)).alloc (.cells #[.float .f64 yl, .float .f64 yh] 26)).alloc (.cells #[.float .f64 0, .float .f64 0] 26) = V0 at *
    obtain ⟨x0, x1, x2, x3, x4⟩ := id X
    obtain ⟨y0, y1, y2, y3, y4⟩ := id Y
    obtain ⟨r0, r1, r2, r3, r4⟩ := id R
    go_wp2_with (first
      | (go_at_call_of 26 (Value.agg #[.float .f64 xl, .float .f64 xh]); refine (c1 _).mono ?_; rintro _ w1 ⟨rfl, hb1⟩; replace X := X.keep hb1; replace Y := Y.keep hb1; replace R := R.keep hb1; replace HB := later HB hb1; clear hb1 x0 x1 x2 x3 x4 y0 y1 y2 y3 y4 r0 r1 r2 r3 r4
         obtain ⟨x0, x1, x2, x3, x4⟩ := id X
         obtain ⟨y0, y1, y2, y3, y4⟩ := id Y
         obtain ⟨r0, r1, r2, r3, r4⟩ := id R)
      | (go_at_call_of 26 (Value.agg #[.float .f64 yl, .float .f64 yh]); refine (c2 _).mono ?_; rintro _ w1 ⟨rfl, hb1⟩; replace X := X.keep hb1; replace Y := Y.keep hb1; replace R := R.keep hb1; replace HB := later HB hb1; clear hb1 x0 x1 x2 x3 x4 y0 y1 y2 y3 y4 r0 r1 r2 r3 r4
         obtain ⟨x0, x1, x2, x3, x4⟩ := id X
         obtain ⟨y0, y1, y2, y3, y4⟩ := id Y
         obtain ⟨r0, r1, r2, r3, r4⟩ := id R)
      | (go_at_call 50; refine (rempty_w _).mono ?_; rintro _ w1 ⟨rfl, hb1⟩; replace X := X.keep hb1; replace Y := Y.keep hb1; replace R := R.keep hb1; replace HB := later HB hb1; clear hb1 x0 x1 x2 x3 x4 y0 y1 y2 y3 y4 r0 r1 r2 r3 r4
         obtain ⟨x0, x1, x2, x3, x4⟩ := id X
         obtain ⟨y0, y1, y2, y3, y4⟩ := id Y
         obtain ⟨r0, r1, r2, r3, r4⟩ := id R))
    refine bodyPost_ret (v := .agg #[.float .f64 (infI 1), .float .f64 (infI (-1))]) (by simp [results, Try.results36, go_sem, *]) rfl ⟨rfl, ?_⟩
    repeat' (first | (with_reducible exact HB) | (with_reducible refine Below.setCell ?_ ?_ _) | go_size)


def mulP (xl xh yl yh : Nat) : Nat × Nat := if hsB xl xh && hsB yl yh then rmulP xl xh yl yh else (infI 1, infI (-1))

theorem mul_both {xl xh yl yh : Nat} (h1 : xl < 18446744073709551616) (h2 : xh < 18446744073709551616) (h3 : yl < 18446744073709551616) (h4 : yh < 18446744073709551616) (S : Some2 xl xh) (T : Some2 yl yh) :
    (∀ w, Calls Try.prog 53 #[.agg #[.float .f64 xl, .float .f64 xh], .agg #[.float .f64 yl, .float .f64 yh]] w fun e w' => e = .returned (.agg #[.float .f64 (rmulP xl xh yl yh).1, .float .f64 (rmulP xl xh yl yh).2]) ∧ Below w.heap.size w w') ∧ (rmulP xl xh yl yh).1 < 18446744073709551616 ∧ (rmulP xl xh yl yh).2 < 18446744073709551616 := by
  obtain ⟨a, X⟩ := held_some h1 h2 S
  obtain ⟨b, Y⟩ := held_some h3 h4 T
  obtain ⟨m1, m2, c, Z, l1, l2, k1, k2⟩ := mul_ends X Y
  rw [rmul_is S.nl S.nh T.nl T.nh Z k1 k2]
  exact ⟨c, l1, l2⟩

theorem mulP_lt {xl xh yl yh : Nat} (h1 : xl < 18446744073709551616) (h2 : xh < 18446744073709551616) (h3 : yl < 18446744073709551616) (h4 : yh < 18446744073709551616) : (mulP xl xh yl yh).1 < 18446744073709551616 ∧ (mulP xl xh yl yh).2 < 18446744073709551616 := by
  unfold mulP
  cases hs : hsB xl xh && hsB yl yh
  · rw [if_neg (by simp)]; exact ⟨infI_lt 1, infI_lt (-1)⟩
  · rw [if_pos rfl]
    obtain ⟨hx, hy⟩ := Bool.and_eq_true_iff.1 hs
    exact (mul_both h1 h2 h3 h4 (hs_iff.1 hx) (hs_iff.1 hy)).2

theorem Mul_w (xl xh yl yh : Nat) (h1 : xl < 18446744073709551616) (h2 : xh < 18446744073709551616) (h3 : yl < 18446744073709551616) (h4 : yh < 18446744073709551616) (w : World) :
    Calls Try.prog 53 #[.agg #[.float .f64 xl, .float .f64 xh], .agg #[.float .f64 yl, .float .f64 yh]] w fun e w' => e = .returned (.agg #[.float .f64 (mulP xl xh yl yh).1, .float .f64 (mulP xl xh yl yh).2]) ∧ Below w.heap.size w w' := by
  unfold mulP
  cases hs : hsB xl xh && hsB yl yh
  · rw [if_neg (by simp)]
    exact mul_none xl xh yl yh h1 h2 h3 h4 hs w
  · rw [if_pos rfl]
    obtain ⟨hx, hy⟩ := Bool.and_eq_true_iff.1 hs
    exact (mul_both h1 h2 h3 h4 (hs_iff.1 hx) (hs_iff.1 hy)).1 w

theorem rMul_w (xl xh yl yh : Nat) (h1 : xl < 18446744073709551616) (h2 : xh < 18446744073709551616) (h3 : yl < 18446744073709551616) (h4 : yh < 18446744073709551616) (w : World) :
    Calls Try.prog 36 #[.agg #[.float .f64 xl, .float .f64 xh], .agg #[.float .f64 yl, .float .f64 yh]] w fun e w' => e = .returned (.agg #[.float .f64 (mulP xl xh yl yh).1, .float .f64 (mulP xl xh yl yh).2]) ∧ Below w.heap.size w w' := by
  unfold mulP
  cases hs : hsB xl xh && hsB yl yh
  · rw [if_neg (by simp)]
    exact rmul_none xl xh yl yh _ _ (fun w => none_w xl xh h1 h2 w) (fun w => none_w yl yh h3 h4 w) hs w
  · rw [if_pos rfl]
    obtain ⟨hx, hy⟩ := Bool.and_eq_true_iff.1 hs
    have S := hs_iff.1 hx
    have T := hs_iff.1 hy
    have c1 := fun w => none_w xl xh h1 h2 w
    have c2 := fun w => none_w yl yh h3 h4 w
    rw [hx] at c1
    rw [hy] at c2
    have o1 : ∀ {a b : Nat}, a < 18446744073709551616 → b < 18446744073709551616 → out1 a b < 18446744073709551616 := fun {a b} ha hb => by unfold out1; split <;> assumption
    have o2 : ∀ {a b : Nat}, a < 18446744073709551616 → b < 18446744073709551616 → out2 a b < 18446744073709551616 := fun {a b} ha hb => by unfold out2; split <;> assumption
    have i1 := infI_lt 1
    have i2 := infI_lt (-1)
    have d1 := (mulV_facts (-1) S.nl T.nl).2
    have d2 := (mulV_facts (-1) S.nl T.nh).2
    have d3 := (mulV_facts (-1) S.nh T.nl).2
    have d4 := (mulV_facts (-1) S.nh T.nh).2
    have e1 := (mulV_facts 1 S.nl T.nl).2
    have e2 := (mulV_facts 1 S.nl T.nh).2
    have e3 := (mulV_facts 1 S.nh T.nl).2
    have e4 := (mulV_facts 1 S.nh T.nh).2
    unfold rmulP
    have q1 := o1 i1 d1
    have q2 := o1 q1 d2
    have q3 := o1 q2 d3
    have q4 := o1 q3 d4
    have p1 := o2 i2 e1
    have p2 := o2 p1 e2
    have p3 := o2 p2 e3
    have p4 := o2 p3 e4
    have ce := fun w => rends_core _ _ _ _ _ _ (rendsP _ _) (o_gt q4 (show 9218868437227405311 < 18446744073709551616 by omega)) (o_lt p4 (show 18442240474082181119 < 18446744073709551616 by omega)) rfl rfl (fun w => rmake_w _ _ (by split <;> omega) (by split <;> omega) w) w
    exact rmul_core xl xh yl yh _ _ _ _ _ _ _ _ _ _ _ _ _ _ _ _ _ _ _ _ c1 c2 (fun w => rempty_w w) (fun w => rmulV_w _ _ _ h1 h3 S.nl T.nl w) (fun w => rmulV_w _ _ _ h1 h3 S.nl T.nl w) (fun w => rmulV_w _ _ _ h1 h4 S.nl T.nh w) (fun w => rmulV_w _ _ _ h1 h4 S.nl T.nh w)
      (fun w => rmulV_w _ _ _ h2 h3 S.nh T.nl w) (fun w => rmulV_w _ _ _ h2 h3 S.nh T.nl w) (fun w => rmulV_w _ _ _ h2 h4 S.nh T.nh w) (fun w => rmulV_w _ _ _ h2 h4 S.nh T.nh w)
      (fun w => rwider_w _ _ _ _ i1 i2 d1 e1 w) (fun w => rwider_w _ _ _ _ q1 p1 d2 e2 w) (fun w => rwider_w _ _ _ _ q2 p2 d3 e3 w) (fun w => rwider_w _ _ _ _ q3 p3 d4 e4 w) ce w

/-- The reference's amounts, as functions. -/
def rmagP (lo hi : Nat) : Nat := if hsB lo hi then (if ltB (lo % 9223372036854775808) (hi % 9223372036854775808) then hi % 9223372036854775808 else lo % 9223372036854775808) else 0
def rmigP (lo hi : Nat) : Nat := if hsB lo hi then (if hasB lo hi 0 then 0 else if ltB 0 lo then lo else zminus hi) else 0

theorem rmag_is (lo hi : Nat) : rmagP lo hi = magP lo hi := by
  unfold rmagP magP
  cases hs : hsB lo hi
  · rfl
  · simp only [if_true]
    have S := hs_iff.1 hs
    have w1 : lo % 9223372036854775808 < 9223372036854775808 := Nat.mod_lt _ (by omega)
    have w2 : hi % 9223372036854775808 < 9223372036854775808 := Nat.mod_lt _ (by omega)
    rw [maxW_is (by omega) (by omega), lt_is (by rw [nan_abs]; exact S.nl) (by rw [nan_abs]; exact S.nh)]
    simp only [decide_eq_true_eq]

theorem rmig_is {lo hi : Nat} (hl : lo < 18446744073709551616) (hh : hi < 18446744073709551616) : rmigP lo hi = migP lo hi := by
  unfold rmigP migP
  cases hs : hsB lo hi
  · rfl
  · simp only [if_true]
    have S := hs_iff.1 hs
    cases h0 : hasB lo hi 0
    · simp only [Bool.false_eq_true, if_false]
      have no : ¬ (key lo ≤ 0 ∧ 0 ≤ key hi) := fun c => by
        have : hasB lo hi 0 = true := has_iff.2 ⟨S, by decide, by decide, c.1, c.2⟩
        rw [h0] at this
        cases this
      have w1 : lo % 9223372036854775808 < 9223372036854775808 := Nat.mod_lt _ (by omega)
      have w2 : hi % 9223372036854775808 < 9223372036854775808 := Nat.mod_lt _ (by omega)
      have a1 := key_abs hl
      have a2 := key_abs hh
      have kl := S.le
      rw [minW_is (by omega) (by omega), gt0 S.nl]
      by_cases c : 0 < key lo
      · simp only [c, decide_true, if_true]
        have e1 : lo % 9223372036854775808 = lo := by
          have : lo < 9223372036854775808 := by unfold key at c; split at c <;> omega
          omega
        rw [if_neg (by split at a1 <;> split at a2 <;> omega), e1]
      · simp only [c, decide_false, Bool.false_eq_true, if_false]
        have ch : key hi < 0 := by omega
        have e2 : hi % 9223372036854775808 = negB hi := by
          have : 9223372036854775808 < hi := by unfold key at ch; split at ch <;> omega
          unfold negB
          rw [if_neg (by omega)]
          omega
        rw [zminus_is hh (by omega)]
        by_cases q : key (hi % 9223372036854775808) < key (lo % 9223372036854775808)
        · rw [if_pos q, e2]
        · rw [if_neg q]
          have : lo = hi := key_one S.zl S.zh (by split at a1 <;> split at a2 <;> omega)
          rw [this, e2]
    · simp only [if_true]

set_option maxHeartbeats 1000000 in
theorem rmag_core (lo hi al ah : Nat) (b b2 : Bool)
    (c1 : ∀ w, Calls Try.prog 26 #[.agg #[.float .f64 lo, .float .f64 hi]] w fun e w' => e = .returned (.bool (!b)) ∧ Below w.heap.size w w')
    (c2 : ∀ w, Calls Try.prog 67 #[.float .f64 lo] w fun e w' => e = .returned (.float .f64 al) ∧ w = w')
    (c3 : ∀ w, Calls Try.prog 67 #[.float .f64 hi] w fun e w' => e = .returned (.float .f64 ah) ∧ w = w')
    (o : (FloatKind.f64.format.order ah al == some .gt) = b2) (w : World) :
    Calls Try.prog 41 #[.agg #[.float .f64 lo, .float .f64 hi]] w fun e w' => e = .returned (.float .f64 (if b then (if b2 then ah else al) else 0)) ∧ Below w.heap.size w w' := by
  have X : Has2 (w.alloc (.cells #[.float .f64 lo, .float .f64 hi] 26)) w.heap.size (.float .f64 lo) (.float .f64 hi) := ⟨by go_simp, by go_simp, by go_simp, by go_simp, by go_size⟩
  have HB : Below w.heap.size w (w.alloc (.cells #[.float .f64 lo, .float .f64 hi] 26)) := by go_grown
  cases b <;> cases b2
  all_goals
    simp only [Bool.not_true, Bool.not_false, if_true, Bool.false_eq_true, if_false] at c1 ⊢
    go_enter Try.func41, Try.ntmps41
    go_wp2_with fail
    generalize w.alloc (.cells #[.float .f64 lo, .float .f64 hi] 26) = V0 at *
    obtain ⟨x0, x1, x2, x3, x4⟩ := id X
    go_wp2_with (first
      | (go_at_call 26; refine (c1 _).mono ?_; rintro _ w1 ⟨rfl, hb1⟩; replace X := X.keep hb1; replace HB := later HB hb1; clear hb1; clear x0 x1 x2 x3 x4
         obtain ⟨x0, x1, x2, x3, x4⟩ := id X)
      | (go_at_call_of 67 (Value.float .f64 lo); refine (c2 _).mono ?_; rintro _ _ ⟨rfl, rfl⟩)
      | (go_at_call 67; refine (c3 _).mono ?_; rintro _ _ ⟨rfl, rfl⟩))
    go_ret
    exact ⟨rfl, HB⟩

theorem rMag_w (lo hi : Nat) (hl : lo < 18446744073709551616) (hh : hi < 18446744073709551616) (w : World) :
    Calls Try.prog 41 #[.agg #[.float .f64 lo, .float .f64 hi]] w fun e w' => e = .returned (.float .f64 (magP lo hi)) ∧ Below w.heap.size w w' := by
  rw [← rmag_is]
  exact rmag_core lo hi _ _ _ _ (fun w => none_w lo hi hl hh w) (fun w => abs_w lo hl w) (fun w => abs_w hi hh w) (o_gt absw absw) w

/-- The square, as the program and the reference work it out. -/
def sqrP (lo hi : Nat) : Nat × Nat := if hsB lo hi then (mulV (migP lo hi) (migP lo hi) (-1), mulV (magP lo hi) (magP lo hi) 1) else (infI 1, infI (-1))

theorem sqrP_lt {lo hi : Nat} (hl : lo < 18446744073709551616) (hh : hi < 18446744073709551616) : (sqrP lo hi).1 < 18446744073709551616 ∧ (sqrP lo hi).2 < 18446744073709551616 := by
  unfold sqrP
  cases hs : hsB lo hi
  · rw [if_neg (by simp)]; exact ⟨infI_lt 1, infI_lt (-1)⟩
  · rw [if_pos rfl]
    obtain ⟨-, -, -, n1, n2, -, -⟩ := mag_keys hl hh (hs_iff.1 hs)
    exact ⟨(mulV_facts (-1) n1 n1).2, (mulV_facts 1 n2 n2).2⟩

end Go.Proofs.Ytddkojmdhckleaa
