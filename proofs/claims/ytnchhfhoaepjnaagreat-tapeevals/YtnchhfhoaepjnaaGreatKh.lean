/- The reference's products, amounts and even powers of intervals answer as the program's; IvalProducts' walk. -/
import Derived.Test.YtnchhfhoaepjnaaGreatKg
import Derived.Test.YtnchhfhoaepjnaaGreatKe
namespace Go.Proofs.YtnchhfhoaepjnaaGreat
open Go.ChangeShapes Go.WideShapes Go.ChangeAt Go.RowKit

theorem rmulV_w (a b : Nat) (d : Int) (ha : a < 18446744073709551616) (hb : b < 18446744073709551616) (na : nanB a = false) (nb : nanB b = false) (w : World) :
    Calls Tryz.prog 93 #[.float .f64 a, .float .f64 b, .int .i64 d] w fun e w' => e = .returned (.float .f64 (mulV a b d)) ∧ Below w.heap.size w w' :=
  told_calls (mulV_is d na nb) (fun w => rmul_w a b d ha hb w) w

set_option maxHeartbeats 1000000 in
theorem rmul_none (xl xh yl yh : Nat) (b1 b2 : Bool)
    (c1 : ∀ w, Calls Tryz.prog 39 #[.agg #[.float .f64 xl, .float .f64 xh]] w fun e w' => e = .returned (.bool (!b1)) ∧ Below w.heap.size w w')
    (c2 : ∀ w, Calls Tryz.prog 39 #[.agg #[.float .f64 yl, .float .f64 yh]] w fun e w' => e = .returned (.bool (!b2)) ∧ Below w.heap.size w w')
    (hb : (b1 && b2) = false) (w : World) :
    Calls Tryz.prog 51 #[.agg #[.float .f64 xl, .float .f64 xh], .agg #[.float .f64 yl, .float .f64 yh]] w fun e w' => e = .returned (.agg #[.float .f64 (infI 1), .float .f64 (infI (-1))]) ∧ Below w.heap.size w w' := by
  obtain ⟨X, Y, R, HB⟩ := enter2 w (.float .f64 xl) (.float .f64 xh) (.float .f64 yl) (.float .f64 yh) 46
  cases b1
  case' true => cases b2
  case true.true => cases hb
  all_goals
    simp only [Bool.not_true, Bool.not_false] at c1 c2
    go_enter Tryz.func51, Tryz.ntmps51
    go_wp2_with fail
    generalize ((w.alloc (.cells #[.float .f64 xl, .float .f64 xh] 46)).alloc (.cells #[.float .f64 yl, .float .f64 yh] 46)).alloc (.cells #[.float .f64 0, .float .f64 0] 46) = V0 at *
    obtain ⟨x0, x1, x2, x3, x4⟩ := id X
    obtain ⟨y0, y1, y2, y3, y4⟩ := id Y
    obtain ⟨r0, r1, r2, r3, r4⟩ := id R
    go_wp2_with (first
      | (go_at_call_of 39 (Value.agg #[.float .f64 xl, .float .f64 xh]); refine (c1 _).mono ?_; rintro _ w1 ⟨rfl, hb1⟩; replace X := X.keep hb1; replace Y := Y.keep hb1; replace R := R.keep hb1; replace HB := later HB hb1; clear hb1 x0 x1 x2 x3 x4 y0 y1 y2 y3 y4 r0 r1 r2 r3 r4
         obtain ⟨x0, x1, x2, x3, x4⟩ := id X
         obtain ⟨y0, y1, y2, y3, y4⟩ := id Y
         obtain ⟨r0, r1, r2, r3, r4⟩ := id R)
      | (go_at_call_of 39 (Value.agg #[.float .f64 yl, .float .f64 yh]); refine (c2 _).mono ?_; rintro _ w1 ⟨rfl, hb1⟩; replace X := X.keep hb1; replace Y := Y.keep hb1; replace R := R.keep hb1; replace HB := later HB hb1; clear hb1 x0 x1 x2 x3 x4 y0 y1 y2 y3 y4 r0 r1 r2 r3 r4
         obtain ⟨x0, x1, x2, x3, x4⟩ := id X
         obtain ⟨y0, y1, y2, y3, y4⟩ := id Y
         obtain ⟨r0, r1, r2, r3, r4⟩ := id R)
      | (go_at_call 89; refine (rempty_w _).mono ?_; rintro _ w1 ⟨rfl, hb1⟩; replace X := X.keep hb1; replace Y := Y.keep hb1; replace R := R.keep hb1; replace HB := later HB hb1; clear hb1 x0 x1 x2 x3 x4 y0 y1 y2 y3 y4 r0 r1 r2 r3 r4
         obtain ⟨x0, x1, x2, x3, x4⟩ := id X
         obtain ⟨y0, y1, y2, y3, y4⟩ := id Y
         obtain ⟨r0, r1, r2, r3, r4⟩ := id R))
    refine bodyPost_ret (v := .agg #[.float .f64 (infI 1), .float .f64 (infI (-1))]) (by simp [results, Tryz.results51, go_sem, *]) rfl ⟨rfl, ?_⟩
    repeat' (first | (with_reducible exact HB) | (with_reducible refine Below.setCell ?_ ?_ _) | go_size)


def mulP (xl xh yl yh : Nat) : Nat × Nat := if hsB xl xh && hsB yl yh then rmulP xl xh yl yh else (infI 1, infI (-1))

theorem mul_both {xl xh yl yh : Nat} (h1 : xl < 18446744073709551616) (h2 : xh < 18446744073709551616) (h3 : yl < 18446744073709551616) (h4 : yh < 18446744073709551616) (S : Some2 xl xh) (T : Some2 yl yh) :
    (∀ w, Calls Tryz.prog 72 #[.agg #[.float .f64 xl, .float .f64 xh], .agg #[.float .f64 yl, .float .f64 yh]] w fun e w' => e = .returned (.agg #[.float .f64 (rmulP xl xh yl yh).1, .float .f64 (rmulP xl xh yl yh).2]) ∧ Below w.heap.size w w') ∧ (rmulP xl xh yl yh).1 < 18446744073709551616 ∧ (rmulP xl xh yl yh).2 < 18446744073709551616 := by
  obtain ⟨a, X⟩ := held_some h1 h2 S
  obtain ⟨b, Y⟩ := held_some h3 h4 T
  obtain ⟨m1, m2, c, Z, l1, l2, k1, k2⟩ := mul_ends X Y
  rw [rmul_is S.nl S.nh T.nl T.nh Z k1 k2]
  exact ⟨c, l1, l2⟩

theorem mulP_lt {xl xh yl yh : Nat} (h1 : xl < 18446744073709551616) (h2 : xh < 18446744073709551616) (h3 : yl < 18446744073709551616) (h4 : yh < 18446744073709551616) : (mulP xl xh yl yh).1 < 18446744073709551616 ∧ (mulP xl xh yl yh).2 < 18446744073709551616 := by
  unfold mulP
  cases hs : hsB xl xh && hsB yl yh
  · rw [if_neg (by simp)]; exact ⟨infI_lt 1, infI_lt (-1)⟩
  · rw [if_pos rfl]
    obtain ⟨hx, hy⟩ := Bool.and_eq_true_iff.1 hs
    exact (mul_both h1 h2 h3 h4 (hs_iff.1 hx) (hs_iff.1 hy)).2

theorem Mul_w (xl xh yl yh : Nat) (h1 : xl < 18446744073709551616) (h2 : xh < 18446744073709551616) (h3 : yl < 18446744073709551616) (h4 : yh < 18446744073709551616) (w : World) :
    Calls Tryz.prog 72 #[.agg #[.float .f64 xl, .float .f64 xh], .agg #[.float .f64 yl, .float .f64 yh]] w fun e w' => e = .returned (.agg #[.float .f64 (mulP xl xh yl yh).1, .float .f64 (mulP xl xh yl yh).2]) ∧ Below w.heap.size w w' := by
  unfold mulP
  cases hs : hsB xl xh && hsB yl yh
  · rw [if_neg (by simp)]
    exact mul_none xl xh yl yh h1 h2 h3 h4 hs w
  · rw [if_pos rfl]
    obtain ⟨hx, hy⟩ := Bool.and_eq_true_iff.1 hs
    exact (mul_both h1 h2 h3 h4 (hs_iff.1 hx) (hs_iff.1 hy)).1 w

theorem rMul_w (xl xh yl yh : Nat) (h1 : xl < 18446744073709551616) (h2 : xh < 18446744073709551616) (h3 : yl < 18446744073709551616) (h4 : yh < 18446744073709551616) (w : World) :
    Calls Tryz.prog 51 #[.agg #[.float .f64 xl, .float .f64 xh], .agg #[.float .f64 yl, .float .f64 yh]] w fun e w' => e = .returned (.agg #[.float .f64 (mulP xl xh yl yh).1, .float .f64 (mulP xl xh yl yh).2]) ∧ Below w.heap.size w w' := by
  unfold mulP
  cases hs : hsB xl xh && hsB yl yh
  · rw [if_neg (by simp)]
    exact rmul_none xl xh yl yh _ _ (fun w => none_w xl xh h1 h2 w) (fun w => none_w yl yh h3 h4 w) hs w
  · rw [if_pos rfl]
    obtain ⟨hx, hy⟩ := Bool.and_eq_true_iff.1 hs
    have S := hs_iff.1 hx
    have T := hs_iff.1 hy
    have c1 := fun w => none_w xl xh h1 h2 w
    have c2 := fun w => none_w yl yh h3 h4 w
    rw [hx] at c1
    rw [hy] at c2
    have o1 : ∀ {a b : Nat}, a < 18446744073709551616 → b < 18446744073709551616 → out1 a b < 18446744073709551616 := fun {a b} ha hb => by unfold out1; split <;> assumption
    have o2 : ∀ {a b : Nat}, a < 18446744073709551616 → b < 18446744073709551616 → out2 a b < 18446744073709551616 := fun {a b} ha hb => by unfold out2; split <;> assumption
    have i1 := infI_lt 1
    have i2 := infI_lt (-1)
    have d1 := (mulV_facts (-1) S.nl T.nl).2
    have d2 := (mulV_facts (-1) S.nl T.nh).2
    have d3 := (mulV_facts (-1) S.nh T.nl).2
    have d4 := (mulV_facts (-1) S.nh T.nh).2
    have e1 := (mulV_facts 1 S.nl T.nl).2
    have e2 := (mulV_facts 1 S.nl T.nh).2
    have e3 := (mulV_facts 1 S.nh T.nl).2
    have e4 := (mulV_facts 1 S.nh T.nh).2
    unfold rmulP
    have q1 := o1 i1 d1
    have q2 := o1 q1 d2
    have q3 := o1 q2 d3
    have q4 := o1 q3 d4
    have p1 := o2 i2 e1
    have p2 := o2 p1 e2
    have p3 := o2 p2 e3
    have p4 := o2 p3 e4
    have ce := fun w => rends_core _ _ _ _ _ _ (rendsP _ _) (o_gt q4 (show 9218868437227405311 < 18446744073709551616 by omega)) (o_lt p4 (show 18442240474082181119 < 18446744073709551616 by omega)) rfl rfl (fun w => rmake_w _ _ (by split <;> omega) (by split <;> omega) w) w
    exact rmul_core xl xh yl yh _ _ _ _ _ _ _ _ _ _ _ _ _ _ _ _ _ _ _ _ c1 c2 (fun w => rempty_w w) (fun w => rmulV_w _ _ _ h1 h3 S.nl T.nl w) (fun w => rmulV_w _ _ _ h1 h3 S.nl T.nl w) (fun w => rmulV_w _ _ _ h1 h4 S.nl T.nh w) (fun w => rmulV_w _ _ _ h1 h4 S.nl T.nh w)
      (fun w => rmulV_w _ _ _ h2 h3 S.nh T.nl w) (fun w => rmulV_w _ _ _ h2 h3 S.nh T.nl w) (fun w => rmulV_w _ _ _ h2 h4 S.nh T.nh w) (fun w => rmulV_w _ _ _ h2 h4 S.nh T.nh w)
      (fun w => rwider_w _ _ _ _ i1 i2 d1 e1 w) (fun w => rwider_w _ _ _ _ q1 p1 d2 e2 w) (fun w => rwider_w _ _ _ _ q2 p2 d3 e3 w) (fun w => rwider_w _ _ _ _ q3 p3 d4 e4 w) ce w

/-- The reference's amounts, as functions. -/
def rmagP (lo hi : Nat) : Nat := if hsB lo hi then (if ltB (lo % 9223372036854775808) (hi % 9223372036854775808) then hi % 9223372036854775808 else lo % 9223372036854775808) else 0
def rmigP (lo hi : Nat) : Nat := if hsB lo hi then (if hasB lo hi 0 then 0 else if ltB 0 lo then lo else zminus hi) else 0

theorem rmag_is (lo hi : Nat) : rmagP lo hi = magP lo hi := by
  unfold rmagP magP
  cases hs : hsB lo hi
  · rfl
  · simp only [if_true]
    have S := hs_iff.1 hs
    have w1 : lo % 9223372036854775808 < 9223372036854775808 := Nat.mod_lt _ (by omega)
    have w2 : hi % 9223372036854775808 < 9223372036854775808 := Nat.mod_lt _ (by omega)
    rw [maxW_is (by omega) (by omega), lt_is (by rw [nan_abs]; exact S.nl) (by rw [nan_abs]; exact S.nh)]
    simp only [decide_eq_true_eq]

theorem rmig_is {lo hi : Nat} (hl : lo < 18446744073709551616) (hh : hi < 18446744073709551616) : rmigP lo hi = migP lo hi := by
  unfold rmigP migP
  cases hs : hsB lo hi
  · rfl
  · simp only [if_true]
    have S := hs_iff.1 hs
    cases h0 : hasB lo hi 0
    · simp only [Bool.false_eq_true, if_false]
      have no : ¬ (key lo ≤ 0 ∧ 0 ≤ key hi) := fun c => by
        have : hasB lo hi 0 = true := has_iff.2 ⟨S, by decide, by decide, c.1, c.2⟩
        rw [h0] at this
        cases this
      have w1 : lo % 9223372036854775808 < 9223372036854775808 := Nat.mod_lt _ (by omega)
      have w2 : hi % 9223372036854775808 < 9223372036854775808 := Nat.mod_lt _ (by omega)
      have a1 := key_abs hl
      have a2 := key_abs hh
      have kl := S.le
      rw [minW_is (by omega) (by omega), gt0 S.nl]
      by_cases c : 0 < key lo
      · simp only [c, decide_true, if_true]
        have e1 : lo % 9223372036854775808 = lo := by
          have : lo < 9223372036854775808 := by unfold key at c; split at c <;> omega
          omega
        rw [if_neg (by split at a1 <;> split at a2 <;> omega), e1]
      · simp only [c, decide_false, Bool.false_eq_true, if_false]
        have ch : key hi < 0 := by omega
        have e2 : hi % 9223372036854775808 = negB hi := by
          have : 9223372036854775808 < hi := by unfold key at ch; split at ch <;> omega
          unfold negB
          rw [if_neg (by omega)]
          omega
        rw [zminus_is hh (by omega)]
        by_cases q : key (hi % 9223372036854775808) < key (lo % 9223372036854775808)
        · rw [if_pos q, e2]
        · rw [if_neg q]
          have : lo = hi := key_one S.zl S.zh (by split at a1 <;> split at a2 <;> omega)
          rw [this, e2]
    · simp only [if_true]

set_option maxHeartbeats 1000000 in
theorem rmag_core (lo hi al ah : Nat) (b b2 : Bool)
    (c1 : ∀ w, Calls Tryz.prog 39 #[.agg #[.float .f64 lo, .float .f64 hi]] w fun e w' => e = .returned (.bool (!b)) ∧ Below w.heap.size w w')
    (c2 : ∀ w, Calls Tryz.prog 130 #[.float .f64 lo] w fun e w' => e = .returned (.float .f64 al) ∧ w = w')
    (c3 : ∀ w, Calls Tryz.prog 130 #[.float .f64 hi] w fun e w' => e = .returned (.float .f64 ah) ∧ w = w')
    (o : (FloatKind.f64.format.order ah al == some .gt) = b2) (w : World) :
    Calls Tryz.prog 99 #[.agg #[.float .f64 lo, .float .f64 hi]] w fun e w' => e = .returned (.float .f64 (if b then (if b2 then ah else al) else 0)) ∧ Below w.heap.size w w' := by
  have X : Has2 (w.alloc (.cells #[.float .f64 lo, .float .f64 hi] 46)) w.heap.size (.float .f64 lo) (.float .f64 hi) := ⟨by go_simp, by go_simp, by go_simp, by go_simp, by go_size⟩
  have HB : Below w.heap.size w (w.alloc (.cells #[.float .f64 lo, .float .f64 hi] 46)) := by go_grown
  cases b <;> cases b2
  all_goals
    simp only [Bool.not_true, Bool.not_false, if_true, Bool.false_eq_true, if_false] at c1 ⊢
    go_enter Tryz.func99, Tryz.ntmps99
    go_wp2_with fail
    generalize w.alloc (.cells #[.float .f64 lo, .float .f64 hi] 46) = V0 at *
    obtain ⟨x0, x1, x2, x3, x4⟩ := id X
    go_wp2_with (first
      | (go_at_call 39; refine (c1 _).mono ?_; rintro _ w1 ⟨rfl, hb1⟩; replace X := X.keep hb1; replace HB := later HB hb1; clear hb1; clear x0 x1 x2 x3 x4
         obtain ⟨x0, x1, x2, x3, x4⟩ := id X)
      | (go_at_call_of 130 (Value.float .f64 lo); refine (c2 _).mono ?_; rintro _ _ ⟨rfl, rfl⟩)
      | (go_at_call 130; refine (c3 _).mono ?_; rintro _ _ ⟨rfl, rfl⟩))
    go_ret
    exact ⟨rfl, HB⟩

theorem rMag_w (lo hi : Nat) (hl : lo < 18446744073709551616) (hh : hi < 18446744073709551616) (w : World) :
    Calls Tryz.prog 99 #[.agg #[.float .f64 lo, .float .f64 hi]] w fun e w' => e = .returned (.float .f64 (magP lo hi)) ∧ Below w.heap.size w w' := by
  rw [← rmag_is]
  exact rmag_core lo hi _ _ _ _ (fun w => none_w lo hi hl hh w) (fun w => abs_w lo hl w) (fun w => abs_w hi hh w) (o_gt absw absw) w

set_option maxHeartbeats 1000000 in
theorem rmig_core (lo hi z : Nat) (b b2 b3 : Bool)
    (c1 : ∀ w, Calls Tryz.prog 39 #[.agg #[.float .f64 lo, .float .f64 hi]] w fun e w' => e = .returned (.bool (!b)) ∧ Below w.heap.size w w')
    (c2 : ∀ w, Calls Tryz.prog 22 #[.agg #[.float .f64 lo, .float .f64 hi], .float .f64 0] w fun e w' => e = .returned (.bool b2) ∧ Below w.heap.size w w')
    (o : (FloatKind.f64.format.order lo 0 == some .gt) = b3)
    (r0 : b = true → ∀ (t : TypeId) (w : World), (binOp .sub t (.float .f64 0) (.float .f64 hi)).run Tryz.prog w = .ok (.float .f64 z) w) (w : World) :
    Calls Tryz.prog 98 #[.agg #[.float .f64 lo, .float .f64 hi]] w fun e w' => e = .returned (.float .f64 (if b then (if b2 then 0 else if b3 then lo else z) else 0)) ∧ Below w.heap.size w w' := by
  have X : Has2 (w.alloc (.cells #[.float .f64 lo, .float .f64 hi] 46)) w.heap.size (.float .f64 lo) (.float .f64 hi) := ⟨by go_simp, by go_simp, by go_simp, by go_simp, by go_size⟩
  have HB : Below w.heap.size w (w.alloc (.cells #[.float .f64 lo, .float .f64 hi] 46)) := by go_grown
  cases b <;> cases b2 <;> cases b3
  all_goals
    first | replace r0 := r0 rfl | clear r0
    simp only [Bool.not_true, Bool.not_false, if_true, Bool.false_eq_true, if_false] at c1 ⊢
    go_enter Tryz.func98, Tryz.ntmps98
    go_wp2_with fail
    generalize w.alloc (.cells #[.float .f64 lo, .float .f64 hi] 46) = V0 at *
    obtain ⟨x0, x1, x2, x3, x4⟩ := id X
    go_wp2_with (first
      | (go_at_call 39; refine (c1 _).mono ?_; rintro _ w1 ⟨rfl, hb1⟩; replace X := X.keep hb1; replace HB := later HB hb1; clear hb1; clear x0 x1 x2 x3 x4
         obtain ⟨x0, x1, x2, x3, x4⟩ := id X)
      | (go_at_call 22; refine (c2 _).mono ?_; rintro _ w1 ⟨rfl, hb1⟩; replace X := X.keep hb1; replace HB := later HB hb1; clear hb1; clear x0 x1 x2 x3 x4
         obtain ⟨x0, x1, x2, x3, x4⟩ := id X))
    go_ret
    exact ⟨rfl, HB⟩

theorem rMig_w (lo hi : Nat) (hl : lo < 18446744073709551616) (hh : hi < 18446744073709551616) (w : World) :
    Calls Tryz.prog 98 #[.agg #[.float .f64 lo, .float .f64 hi]] w fun e w' => e = .returned (.float .f64 (migP lo hi)) ∧ Below w.heap.size w w' := by
  rw [← rmig_is hl hh]
  exact rmig_core lo hi _ _ _ _ (fun w => none_w lo hi hl hh w) (fun w => rhas_w lo hi 0 hl hh (by omega) w) (o_gt hl (by omega)) (fun h => zminus_run hh (hs_nan h).2) w

theorem rpower_one (v : Nat) (d : Int) (w : World) :
    Calls Tryz.prog 97 #[.float .f64 v, .int .i64 1, .int .i64 d] w fun e w' => e = .returned (.float .f64 v) ∧ Below w.heap.size w w' := by
  go_enter Tryz.func97, Tryz.ntmps97
  go_wp2_with fail
  go_ret
  exact ⟨rfl, Below.refl _ _⟩

theorem rpower_step (v r s : Nat) (n d : Int) (hn : (n == 1) = false) (h1 : 1 < n) (h2 : n ≤ 64)
    (c1 : ∀ w, Calls Tryz.prog 97 #[.float .f64 v, .int .i64 (n - 1), .int .i64 d] w fun e w' => e = .returned (.float .f64 r) ∧ Below w.heap.size w w')
    (c2 : ∀ w, Calls Tryz.prog 93 #[.float .f64 r, .float .f64 v, .int .i64 d] w fun e w' => e = .returned (.float .f64 s) ∧ Below w.heap.size w w') (w : World) :
    Calls Tryz.prog 97 #[.float .f64 v, .int .i64 n, .int .i64 d] w fun e w' => e = .returned (.float .f64 s) ∧ Below w.heap.size w w' := by
  go_enter Tryz.func97, Tryz.ntmps97
  go_wp2_with (first
    | (go_at_call 97; refine (c1 _).mono ?_; rintro _ w1 ⟨rfl, hb1⟩)
    | (go_at_call 93; refine (c2 _).mono ?_; rintro _ w2 ⟨rfl, hb2⟩))
  go_ret
  exact ⟨rfl, later hb1 hb2⟩

/-- The square, as the program and the reference work it out. -/
def sqrP (lo hi : Nat) : Nat × Nat := if hsB lo hi then (mulV (migP lo hi) (migP lo hi) (-1), mulV (magP lo hi) (magP lo hi) 1) else (infI 1, infI (-1))

theorem sqrP_lt {lo hi : Nat} (hl : lo < 18446744073709551616) (hh : hi < 18446744073709551616) : (sqrP lo hi).1 < 18446744073709551616 ∧ (sqrP lo hi).2 < 18446744073709551616 := by
  unfold sqrP
  cases hs : hsB lo hi
  · rw [if_neg (by simp)]; exact ⟨infI_lt 1, infI_lt (-1)⟩
  · rw [if_pos rfl]
    obtain ⟨-, -, -, n1, n2, -, -⟩ := mag_keys hl hh (hs_iff.1 hs)
    exact ⟨(mulV_facts (-1) n1 n1).2, (mulV_facts 1 n2 n2).2⟩

set_option maxHeartbeats 1000000 in
theorem sqr_none (lo hi : Nat) (hl : lo < 18446744073709551616) (hh : hi < 18446744073709551616) (hs : hsB lo hi = false) (w : World) :
    Calls Tryz.prog 117 #[.agg #[.float .f64 lo, .float .f64 hi]] w fun e w' => e = .returned (.agg #[.float .f64 (infI 1), .float .f64 (infI (-1))]) ∧ Below w.heap.size w w' := by
  have c0 := fun b W c0 c1 => someEmpty1_w b lo hi hl hh W c0 c1
  rw [hs] at c0
  go_enter Tryz.func117, Tryz.ntmps117
  go_wp2_with (first
    | (go_at_call 102; refine (c0 (w.heap.size + 1 + 1) _ (by go_simp) (by go_simp)).mono ?_; rintro _ w1 ⟨rfl, hb1⟩
       have R : Has2 w1 (w.heap.size + 1) (.float .f64 0) (.float .f64 0) := Has2.keep ⟨by go_simp, by go_simp, by go_simp, by go_simp, by go_size⟩ hb1
       have HB : Below w.heap.size w w1 := later (by go_grown) hb1)
    | (go_at_call 68; refine (empty_w _).mono ?_; rintro _ w2 ⟨rfl, hb1⟩; replace R := R.keep hb1; replace HB := later HB hb1; clear hb1
       obtain ⟨k0, k1, k2, k3, k4⟩ := id R))
  refine bodyPost_ret (v := .agg #[.float .f64 (infI 1), .float .f64 (infI (-1))]) (by simp [results, Tryz.results117, go_sem, *]) rfl ⟨rfl, ?_⟩
  repeat' (first | (with_reducible exact HB) | (with_reducible refine Below.setCell ?_ ?_ _) | go_size)

theorem Sqr_w (lo hi : Nat) (hl : lo < 18446744073709551616) (hh : hi < 18446744073709551616) (w : World) :
    Calls Tryz.prog 117 #[.agg #[.float .f64 lo, .float .f64 hi]] w fun e w' => e = .returned (.agg #[.float .f64 (sqrP lo hi).1, .float .f64 (sqrP lo hi).2]) ∧ Below w.heap.size w w' := by
  unfold sqrP
  cases hs : hsB lo hi
  · rw [if_neg (by simp)]
    exact sqr_none lo hi hl hh hs w
  · rw [if_pos rfl]
    obtain ⟨-, -, -, n1, n2, m1, m2⟩ := mag_keys hl hh (hs_iff.1 hs)
    have c0 := fun b W c0 c1 => someEmpty1_w b lo hi hl hh W c0 c1
    rw [hs] at c0
    exact sqr_core lo hi _ _ _ _ c0 (fun w => mig_w lo hi hl hh w) (fun w => mag_w lo hi hl hh w) (fun w => mulV_w _ _ _ (by omega) (by omega) n1 n1 w) (fun w => mulV_w _ _ _ (by omega) (by omega) n2 n2 w) w

set_option maxHeartbeats 1000000 in
theorem rpow2_core (lo hi a b p q r1 r2 : Nat) (t : Bool)
    (c1 : ∀ w, Calls Tryz.prog 39 #[.agg #[.float .f64 lo, .float .f64 hi]] w fun e w' => e = .returned (.bool (!t)) ∧ Below w.heap.size w w')
    (c2 : ∀ w, Calls Tryz.prog 98 #[.agg #[.float .f64 lo, .float .f64 hi]] w fun e w' => e = .returned (.float .f64 a) ∧ Below w.heap.size w w')
    (c3 : ∀ w, Calls Tryz.prog 99 #[.agg #[.float .f64 lo, .float .f64 hi]] w fun e w' => e = .returned (.float .f64 b) ∧ Below w.heap.size w w')
    (c4 : t = true → ∀ w, Calls Tryz.prog 97 #[.float .f64 a, .int .i64 2, .int .i64 (-1)] w fun e w' => e = .returned (.float .f64 p) ∧ Below w.heap.size w w')
    (c5 : t = true → ∀ w, Calls Tryz.prog 97 #[.float .f64 b, .int .i64 2, .int .i64 1] w fun e w' => e = .returned (.float .f64 q) ∧ Below w.heap.size w w')
    (c6 : t = true → ∀ w, Calls Tryz.prog 90 #[.float .f64 p, .float .f64 q] w fun e w' => e = .returned (.agg #[.float .f64 r1, .float .f64 r2]) ∧ Below w.heap.size w w')
    (h1 : t = false → r1 = infI 1) (h2 : t = false → r2 = infI (-1)) (w : World) :
    Calls Tryz.prog 54 #[.agg #[.float .f64 lo, .float .f64 hi], .int .i64 2] w fun e w' => e = .returned (.agg #[.float .f64 r1, .float .f64 r2]) ∧ Below w.heap.size w w' := by
  obtain ⟨X, R, HB⟩ := enter1 w (.float .f64 lo) (.float .f64 hi) 46
  have ne1 : w.heap.size + 1 ≠ w.heap.size := by omega
  have ne2 : w.heap.size ≠ w.heap.size + 1 := by omega
  cases t
  · have e1 := h1 rfl
    have e2 := h2 rfl
    subst e1 e2
    simp only [Bool.not_false] at c1
    clear c2 c3 c4 c5 c6 h1 h2
    go_enter Tryz.func54, Tryz.ntmps54
    go_wp2_with fail
    generalize (w.alloc (.cells #[.float .f64 lo, .float .f64 hi] 46)).alloc (.cells #[.float .f64 0, .float .f64 0] 46) = V0 at *
    obtain ⟨x0, x1, x2, x3, x4⟩ := id X
    go_wp2_with (first
      | (go_at_call 39; refine (c1 _).mono ?_; rintro _ w1 ⟨rfl, hb1⟩; replace X := X.keep hb1; replace R := R.keep hb1; replace HB := later HB hb1; clear hb1)
      | (go_at_call 89; refine (rempty_w _).mono ?_; rintro _ w1 ⟨rfl, hb1⟩; replace X := X.keep hb1; replace R := R.keep hb1; replace HB := later HB hb1; clear hb1
         obtain ⟨k0, k1, k2, k3, k4⟩ := id R))
    refine bodyPost_ret (v := .agg #[.float .f64 (infI 1), .float .f64 (infI (-1))]) (by simp [results, Tryz.results54, go_sem, *]) rfl ⟨rfl, ?_⟩
    repeat' (first | (with_reducible exact HB) | (with_reducible refine Below.setCell ?_ ?_ _) | go_size)
  · simp only [Bool.not_true] at c1
    replace c4 := c4 rfl
    replace c5 := c5 rfl
    replace c6 := c6 rfl
    clear h1 h2
    go_enter Tryz.func54, Tryz.ntmps54
    go_wp2_with fail
    generalize (w.alloc (.cells #[.float .f64 lo, .float .f64 hi] 46)).alloc (.cells #[.float .f64 0, .float .f64 0] 46) = V0 at *
    obtain ⟨x0, x1, x2, x3, x4⟩ := id X
    go_upto_region 10 with (first
      | (go_at_call 39; refine (c1 _).mono ?_; rintro _ V1 ⟨rfl, hb1⟩; replace X := X.keep hb1; replace R := R.keep hb1; replace HB := later HB hb1; clear hb1; clear x0 x1 x2 x3 x4))
    have kx0 := fun n : Behind V1 => n.cell X.1 X.2.2.2.2
    have kx1 := fun n : Behind V1 => n.cell X.2.1 X.2.2.2.2
    refine tail_behind 9 (by kernel_rfl) (by kernel_rfl) ?_
    simp only [List.take_succ_cons, List.take_zero, List.drop_succ_cons, List.drop_zero]
    repeat (go_big_quiet_step (first
      | (go_at_call 98; with_reducible refine Behind.call (c2 _))
      | (go_at_call 99; with_reducible refine Behind.call (c3 _))
      | (go_at_call 97; with_reducible refine Behind.call (c4 _))
      | (go_at_call 97; with_reducible refine Behind.call (c5 _))
      | (go_at_call 90; with_reducible refine Behind.call (c6 _))))
    refine wpQuiet_nil ?_
    rintro _ ⟨n, rfl⟩
    obtain ⟨W, hb1⟩ := n
    dsimp only
    clear kx0 kx1
    replace R := R.keep hb1; replace HB := later HB hb1; clear hb1
    obtain ⟨k0, k1, k2, k3, k4⟩ := id R
    go_wp2_with fail
    refine bodyPost_ret (v := .agg #[.float .f64 r1, .float .f64 r2]) (by simp [results, Tryz.results54, go_sem, *]) rfl ⟨rfl, ?_⟩
    repeat' (first | (with_reducible exact HB) | (with_reducible refine Below.setCell ?_ ?_ _) | go_size)

theorem rPow2_w (lo hi : Nat) (hl : lo < 18446744073709551616) (hh : hi < 18446744073709551616) (w : World) :
    Calls Tryz.prog 54 #[.agg #[.float .f64 lo, .float .f64 hi], .int .i64 2] w fun e w' => e = .returned (.agg #[.float .f64 (sqrP lo hi).1, .float .f64 (sqrP lo hi).2]) ∧ Below w.heap.size w w' := by
  have P : hsB lo hi = true → ∀ v d, v < 18446744073709551616 → nanB v = false → ∀ w, Calls Tryz.prog 97 #[.float .f64 v, .int .i64 2, .int .i64 d] w fun e w' => e = .returned (.float .f64 (mulV v v d)) ∧ Below w.heap.size w w' := fun _ v d hv nv w =>
    rpower_step v v (mulV v v d) 2 d rfl (by omega) (by omega) (fun w => rpower_one v d w) (fun w => rmulV_w v v d hv hv nv nv w) w
  have M : hsB lo hi = true → _ := fun h => mag_keys hl hh (hs_iff.1 h)
  have E : hsB lo hi = true → Some2 (mulV (migP lo hi) (migP lo hi) (-1)) (mulV (magP lo hi) (magP lo hi) 1) := fun h => even_some hl hh (hs_iff.1 h) 1
  refine rpow2_core lo hi (migP lo hi) (magP lo hi) (mulV (migP lo hi) (migP lo hi) (-1)) (mulV (magP lo hi) (magP lo hi) 1) _ _ _ (fun w => none_w lo hi hl hh w) (fun w => rMig_w lo hi hl hh w) (fun w => rMag_w lo hi hl hh w)
    (fun h w => P h _ _ (by have := (M h).2.2.2.2.2.1; omega) (M h).2.2.2.1 w) (fun h w => P h _ _ (by have := (M h).2.2.2.2.2.2; omega) (M h).2.2.2.2.1 w) (fun h w => ?_) (fun h => ?_) (fun h => ?_) w
  · unfold sqrP
    rw [if_pos h]
    exact rends_w _ _ (mulV_facts (-1) (M h).2.2.2.1 (M h).2.2.2.1).2 (mulV_facts 1 (M h).2.2.2.2.1 (M h).2.2.2.2.1).2 (E h) w
  · unfold sqrP; rw [h]; rfl
  · unfold sqrP; rw [h]; rfl

end Go.Proofs.YtnchhfhoaepjnaaGreat
