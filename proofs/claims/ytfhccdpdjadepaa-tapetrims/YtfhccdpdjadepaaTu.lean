/- Trimming: the reference's bare and same. -/
import Derived.Test.YtfhccdpdjadepaaTt
namespace Go.Proofs.Ytfhccdpdjadepaa
open Go.ChangeShapes Go.WideShapes Go.ChangeAt Go.RowKit

def bareO (o : Opw) : Opw :=
  { k := o.k, a := if arI o.k = 0 then 0 else o.a, b := if arI o.k = 2 then o.b else 0, n := if o.k = 2 ∨ o.k = 8 then o.n else 0, lo := if o.k = 1 then o.lo else 0, hi := if o.k = 1 then o.hi else 0 }

theorem kinds5 (o : Opw) : (o.k = 1 ∧ arI o.k = 0) ∨ (o.k = 2 ∧ arI o.k = 0) ∨ (o.k = 8 ∧ arI o.k = 1) ∨ (o.k ≠ 1 ∧ o.k ≠ 2 ∧ o.k ≠ 8 ∧ arI o.k = 1) ∨ (o.k ≠ 1 ∧ o.k ≠ 2 ∧ o.k ≠ 8 ∧ arI o.k = 2) := by
  rcases ar_cases o.k with h | h | h | h | h | h | h <;> omega

set_option maxHeartbeats 2000000 in
theorem bare_w (o : Opw) (hk : rarI o.k = arI o.k) (w : World) : Calls Try.prog 19 #[o.val] w fun e w' => e = .returned (bareO o).val ∧ Below w.heap.size w w' := by
  have ca := fun w => args_w o.k w
  rw [hk] at ca
  clear hk
  obtain ⟨bo, hbo⟩ : ∃ bo, bo = bareO o := ⟨_, rfl⟩
  rw [← hbo]
  unfold bareO at hbo
  rcases kinds5 o with ⟨q, r⟩ | ⟨q, r⟩ | ⟨q, r⟩ | ⟨q1, q2, q8, r⟩ | ⟨q1, q2, q8, r⟩
  case' inl => rw [if_pos r, if_neg (by omega), if_neg (by omega), if_pos q, if_pos q] at hbo
  case' inr.inl => rw [if_pos r, if_neg (by omega), if_pos (.inl q), if_neg (by omega), if_neg (by omega)] at hbo
  case' inr.inr.inl => rw [if_neg (by omega), if_neg (by omega), if_pos (.inr q), if_neg (by omega), if_neg (by omega)] at hbo
  case' inr.inr.inr.inl => rw [if_neg (by omega), if_neg (by omega), if_neg (by omega), if_neg q1, if_neg q1] at hbo
  case' inr.inr.inr.inr => rw [if_neg (by omega), if_pos r, if_neg (by omega), if_neg q1, if_neg q1] at hbo
  all_goals
    subst hbo
    rw [r] at ca
    clear r
    unfold Opw.val
    try rw [q] at ca ⊢
    try replace q1 : (o.k != 1) = true := by simpa using q1
    try replace q2 : (o.k != 2) = true := by simpa using q2
    try replace q8 : (o.k != 8) = true := by simpa using q8
    go_enter Try.func19, Try.ntmps19
    go_wp2_with (go_at_call 13; with_reducible refine (ca _).mono ?_; rintro _ _ ⟨rfl, rfl⟩)
    refine bodyPost_ret (v := .agg #[_, _, _, _, _, _]) (by simp [results, Try.results19, go_sem, *]) rfl ⟨rfl, ?_⟩
    repeat' (first | (with_reducible exact Below.refl _ _) | (with_reducible refine Below.setCell ?_ ?_ _) | (with_reducible refine below_alloc ?_ _) | omega | go_size)

theorem lit_same {a b : Nat} (ha : nanB a = false) (hb : nanB b = false) (za : a ≠ 9223372036854775808) (zb : b ≠ 9223372036854775808) (la : a < 18446744073709551616) (lb : b < 18446744073709551616) : sameB a b = eqB a b := by
  unfold sameB eqB
  rw [ha, hb]
  simp only [Bool.or_self, Bool.false_eq_true, if_false, Bool.not_false, Bool.true_and]
  by_cases e : a = b
  · subst e; simp
  · have : ¬ key a = key b := by
      intro k
      unfold key at k
      split at k <;> split at k <;> omega
    simp [e, this]

theorem and_cases (b1 b2 b3 b4 b5 : Bool) : b1 = false ∨ (b1 = true ∧ b2 = false) ∨ (b1 = true ∧ b2 = true ∧ b3 = false) ∨ (b1 = true ∧ b2 = true ∧ b3 = true ∧ b4 = false) ∨ (b1 = true ∧ b2 = true ∧ b3 = true ∧ b4 = true ∧ b5 = b5) := by
  cases b1 <;> cases b2 <;> cases b3 <;> cases b4 <;> simp

set_option maxHeartbeats 2000000 in
theorem same_c (x y : Opw) (hx : x.ok) (hy : y.ok) (w : World) : Calls Try.prog 20 #[x.val, y.val] w fun e w' => e = .returned (.bool (x.k == y.k && (x.a == y.a && (x.b == y.b && (x.n == y.n && (sameB x.lo y.lo && sameB x.hi y.hi)))))) ∧ Below w.heap.size w w' := by
  have cs := fun w => rsame_w x.lo x.hi y.lo y.hi hx.1 hx.2 hy.1 hy.2 w
  generalize (sameB x.lo y.lo && sameB x.hi y.hi) = b5 at *
  have P := (has6_new w x).alloc (.cells #[.int .i64 y.k, .int .i64 y.a, .int .i64 y.b, .int .i64 y.n, .float .f64 y.lo, .float .f64 y.hi] 37)
  have R := has6_new (w.alloc (.cells #[.int .i64 x.k, .int .i64 x.a, .int .i64 x.b, .int .i64 x.n, .float .f64 x.lo, .float .f64 x.hi] 37)) y
  have HB : Below w.heap.size w ((w.alloc (.cells #[.int .i64 x.k, .int .i64 x.a, .int .i64 x.b, .int .i64 x.n, .float .f64 x.lo, .float .f64 x.hi] 37)).alloc (.cells #[.int .i64 y.k, .int .i64 y.a, .int .i64 y.b, .int .i64 y.n, .float .f64 y.lo, .float .f64 y.hi] 37)) := by go_grown
  simp only [World.size_alloc] at R
  unfold Opw.val
  rcases and_cases (x.k == y.k) (x.a == y.a) (x.b == y.b) (x.n == y.n) b5 with h1 | ⟨h1, h2⟩ | ⟨h1, h2, h3⟩ | ⟨h1, h2, h3, h4⟩ | ⟨h1, h2, h3, h4, -⟩
  case' inl => rw [h1, Bool.false_and]
  case' inr.inl => rw [h1, h2, Bool.false_and, Bool.and_false]
  case' inr.inr.inl => rw [h1, h2, h3, Bool.false_and, Bool.and_false, Bool.and_false]
  case' inr.inr.inr.inl => rw [h1, h2, h3, h4, Bool.false_and, Bool.and_false, Bool.and_false, Bool.and_false]
  case' inr.inr.inr.inr => rw [h1, h2, h3, h4, Bool.true_and, Bool.true_and, Bool.true_and, Bool.true_and]
  all_goals
    go_enter Try.func20, Try.ntmps20
    go_wp2_with (go_at_call 17; with_reducible refine (cs _).mono ?_; rintro _ w1 ⟨rfl, hb1⟩)
    go_ret
    first
      | exact ⟨rfl, HB⟩
      | exact ⟨rfl, later HB hb1⟩

/-- Its literal may be, and holds some number. -/
def Opw.fit (x : Opw) : Prop := x.ok ∧ hsB x.lo x.hi = true

theorem same_w2 (x y : Opw) (hx : x.fit) (hy : y.fit) (w : World) : Calls Try.prog 20 #[x.val, y.val] w fun e w' => e = .returned (.bool (eqO x y)) ∧ Below w.heap.size w w' := by
  have h := same_c x y hx.1 hy.1 w
  obtain ⟨a1, a2, -, -, -, a3, a4⟩ := hs_iff.1 hx.2
  obtain ⟨b1, b2, -, -, -, b3, b4⟩ := hs_iff.1 hy.2
  rw [lit_same a1 b1 a3 b3 hx.1.1 hy.1.1, lit_same a2 b2 a4 b4 hx.1.2 hy.1.2] at h
  exact h

end Go.Proofs.Ytfhccdpdjadepaa
