/- The walks of the program's small functions on words: mark, moveDown, cut, goesOut, boundOf, sideOf, by plain functions on numbers. -/
import Derived.Test.YteapiigegbdopaaWl
namespace Go.Proofs.Yteapiigegbdopaa
open Go.ChangeShapes Go.WideShapes Go.ChangeAt Go.RowKit

def markN (m : Nat) (l : Bool) : Nat := if l then m / 2 * 2 + 1 else m
def moveN (m n : Nat) : Nat := markN (m / 2 ^ n) (decide (m % 2 ^ n ≠ 0))
def sideN (dir : Int) (neg : Bool) : Int := if dir = 0 then 1 else if decide (0 < dir) != neg then 2 else 0
def keptN (m drop : Nat) : Nat := if 64 < drop then 0 else m / 2 ^ drop
def restN (m drop : Nat) : Nat := if 64 < drop then 1 else m % 2 ^ drop * 2 ^ (64 - drop)
def goesN (kept rest : Nat) (s : Int) : Bool := if s = 0 then false else if s = 2 then decide (rest ≠ 0) else decide (9223372036854775808 < rest ∨ rest = 9223372036854775808 ∧ kept % 2 = 1)

theorem or_one (m : Nat) : m ||| 1 = m / 2 * 2 + 1 := by
  have h := nat_join 1 (m / 2 * 2) 1 (by omega) (by omega)
  rcases Nat.mod_two_eq_zero_or_one m with e | e
  · have e2 : m / 2 * 2 = m := by omega
    rw [e2] at h ⊢; exact h
  · have e2 : m / 2 * 2 + 1 = m := by omega
    rw [e2] at h ⊢
    have h3 : m ||| 1 = (m / 2 * 2 ||| 1) ||| 1 := by rw [h]
    rw [h3, Nat.or_assoc, Nat.or_self, h]

theorem mark_w (m : Nat) (l : Bool) (hm : m < 18446744073709551616) (w : World) :
    Calls Try.prog 81 #[.int .u64 m, .bool l] w fun e w' => e = .returned (.int .u64 (markN m l)) ∧ w = w' := by
  have ho : bits BinOp.or IntKind.u64 (m : Int) 1 = ((m / 2 * 2 + 1 : Nat) : Int) := by
    rw [show (1 : Int) = ((1 : Nat) : Int) from rfl, u64_or_nat m 1 hm (by decide), or_one]
  cases l
  · go_enter Try.func81, Try.ntmps81
    go_wp2
    all_goals (go_ret; exact ⟨rfl, rfl⟩)
  · have e : markN m true = m / 2 * 2 + 1 := rfl
    rw [e]
    generalize m / 2 * 2 + 1 = k at *
    go_enter Try.func81, Try.ntmps81
    go_wp2
    all_goals (go_ret; exact ⟨rfl, rfl⟩)

theorem div_big {m n : Nat} (hm : m < 18446744073709551616) (h : 64 ≤ n) : m / 2 ^ n = 0 :=
  Nat.div_eq_of_lt (Nat.lt_of_lt_of_le (show m < 2 ^ 64 from hm) (Nat.pow_le_pow_right (by omega) h))

theorem div_min {m n : Nat} (hm : m < 18446744073709551616) : m / 2 ^ min n 64 = m / 2 ^ n := by
  by_cases h : n ≤ 64
  · rw [Nat.min_eq_left h]
  · rw [Nat.min_eq_right (by omega), div_big hm (Nat.le_refl 64), div_big hm (show 64 ≤ n by omega)]

theorem moveDown_core (m n q : Nat) (b : Bool) (hq : q < 18446744073709551616) (h1 : (m : Int) / 2 ^ min n 64 = (q : Int))
    (h2 : (IntKind.u64.wrap ((q : Int) * 2 ^ min n 64) != (m : Int)) = b) (w : World) :
    Calls Try.prog 79 #[.int .u64 m, .int .i64 n] w fun e w' => e = .returned (.int .u64 (markN q b)) ∧ w = w' := by
  go_enter Try.func79, Try.ntmps79
  go_wp2_with (go_at_call 81; refine (mark_w q b hq _).mono ?_; rintro _ _ ⟨rfl, rfl⟩)
  all_goals (go_ret; exact ⟨rfl, rfl⟩)

theorem moveDown_w (m n : Nat) (hm : m < 18446744073709551616) (w : World) :
    Calls Try.prog 79 #[.int .u64 m, .int .i64 n] w fun e w' => e = .returned (.int .u64 (moveN m n)) ∧ w = w' := by
  have h1 : (m : Int) / 2 ^ min n 64 = ((m / 2 ^ n : Nat) : Int) := by
    rw [← div_min hm (n := n)]; simp
  have hle : m / 2 ^ n * 2 ^ min n 64 ≤ m := by
    rw [← div_min hm (n := n)]; exact Nat.div_mul_le_self _ _
  have h2 : IntKind.u64.wrap (((m / 2 ^ n : Nat) : Int) * 2 ^ min n 64) = ((m / 2 ^ n * 2 ^ min n 64 : Nat) : Int) := by
    rw [IntKind.wrap_u64]
    have : (((m / 2 ^ n : Nat) : Int) * 2 ^ min n 64) = ((m / 2 ^ n * 2 ^ min n 64 : Nat) : Int) := by simp
    rw [this]; omega
  have h3 : (((m / 2 ^ n * 2 ^ min n 64 : Nat) : Int) != (m : Int)) = decide (m % 2 ^ n ≠ 0) := by
    have hd := Nat.div_add_mod m (2 ^ n)
    rw [Bool.eq_iff_iff]
    simp only [bne_iff_ne, ne_eq, decide_eq_true_eq]
    by_cases h : n ≤ 64
    · rw [Nat.min_eq_left h]
      rw [Nat.mul_comm] at hd
      omega
    · have hz : m / 2 ^ n = 0 := div_big hm (by omega)
      rw [hz] at hd ⊢
      omega
  exact moveDown_core m n _ _ (Nat.lt_of_le_of_lt (Nat.div_le_self _ _) hm) h1 (by rw [h2, h3]) w

theorem shl_mod (m k : Nat) (hk : k ≤ 64) : m * 2 ^ (64 - k) % 18446744073709551616 = m % 2 ^ k * 2 ^ (64 - k) := by
  have h : 2 ^ k * 2 ^ (64 - k) = 2 ^ 64 := by rw [← Nat.pow_add]; congr 1; omega
  show m * 2 ^ (64 - k) % 2 ^ 64 = _
  rw [← h, Nat.mul_mod_mul_right]

theorem cut_w (m n : Nat) (w : World) :
    Calls Try.prog 90 #[.int .u64 m, .int .i64 n] w fun e w' => e = .returned (.tuple #[.int .u64 (keptN m n), .int .u64 (restN m n)]) ∧ Below w.heap.size w w' := by
  by_cases h : 64 < n
  · have e1 : keptN m n = 0 := by unfold keptN; rw [if_pos h]
    have e2 : restN m n = 1 := by unfold restN; rw [if_pos h]
    rw [e1, e2]
    have h' : (64 : Int) < (n : Int) := by omega
    go_enter Try.func90, Try.ntmps90
    go_wp2
    go_ret2
    exact ⟨rfl, Below.refl _ _⟩
  · have h' : ¬ (64 : Int) < (n : Int) := by omega
    have hle : n ≤ 64 := by omega
    have e1 : keptN m n = m / 2 ^ n := by unfold keptN; rw [if_neg h]
    have e2 : restN m n = m % 2 ^ n * 2 ^ (64 - n) := by unfold restN; rw [if_neg h]
    have e3 : (m : Int) / 2 ^ n = ((keptN m n : Nat) : Int) := by rw [e1]; simp
    have e4 : IntKind.u64.wrap ((m : Int) * 2 ^ (64 - n)) = ((restN m n : Nat) : Int) := by
      rw [e2, ← shl_mod m n hle, IntKind.wrap_u64]; simp
    clear e1 e2
    go_enter Try.func90, Try.ntmps90
    go_wp2
    go_region
    all_goals go_wp2
    all_goals go_ret2
    all_goals exact ⟨rfl, (Below.refl _ _).drew⟩

theorem goesOut_w (k r : Nat) (s : Int) (hk : k < 18446744073709551616) (w : World) :
    Calls Try.prog 91 #[.int .u64 k, .int .u64 r, .int .i64 s] w fun e w' => e = .returned (.bool (goesN k r s)) ∧ w = w' := by
  by_cases h0 : s = 0
  · subst h0
    go_enter Try.func91, Try.ntmps91
    go_wp2
    all_goals (go_ret; exact ⟨rfl, rfl⟩)
  · by_cases h2 : s = 2
    · subst h2
      have e : goesN k r 2 = ((r : Int) != 0) := by
        show decide (r ≠ 0) = _
        rw [Bool.eq_iff_iff]; simp
      rw [e]
      go_enter Try.func91, Try.ntmps91
      go_wp2
      all_goals (go_ret; exact ⟨rfl, rfl⟩)
    · have h0' : (s == 0) = false := by simp [h0]
      have h2' : (s == 2) = false := by simp [h2]
      have ha : bits BinOp.and IntKind.u64 (k : Int) 1 = ((k % 2 : Nat) : Int) := by
        rw [show (1 : Int) = ((1 : Nat) : Int) from rfl, u64_and_nat k 1 hk (by decide), nat_mask1]
      have eg : goesN k r s = decide (9223372036854775808 < r ∨ r = 9223372036854775808 ∧ k % 2 = 1) := by unfold goesN; rw [if_neg h0, if_neg h2]
      rcases Nat.lt_trichotomy r 9223372036854775808 with hr | hr | hr
      · have e : goesN k r s = false := by rw [eg]; simp; omega
        rw [e]; clear eg e ha
        go_enter Try.func91, Try.ntmps91
        go_wp2
        all_goals (go_ret; refine ⟨?_, rfl⟩)
        all_goals (show Ending.returned (Value.bool _) = _; congr 2; simp; omega)
      · have e : goesN k r s = (((k % 2 : Nat) : Int) == 1) := by
          rw [eg, Bool.eq_iff_iff]
          simp only [decide_eq_true_eq, beq_iff_eq]
          omega
        rw [e, ← ha]; clear eg e ha
        subst hr
        go_enter Try.func91, Try.ntmps91
        go_wp2
        all_goals (go_ret; exact ⟨rfl, rfl⟩)
      · have e : goesN k r s = true := by rw [eg]; simp; omega
        rw [e]; clear eg e ha
        go_enter Try.func91, Try.ntmps91
        go_wp2
        all_goals (go_ret; exact ⟨rfl, rfl⟩)

def boundN (s : Int) : Nat := if s = 0 then 9218868437227405311 else 9218868437227405312

theorem boundOf_w (s : Int) (w : World) :
    Calls Try.prog 89 #[.int .i64 s] w fun e w' => e = .returned (.int .u64 (boundN s)) ∧ w = w' := by
  by_cases h0 : s = 0
  · subst h0
    go_enter Try.func89, Try.ntmps89
    go_wp2
    all_goals (go_ret; exact ⟨rfl, rfl⟩)
  · have h0' : (s == 0) = false := by simp [h0]
    have e : boundN s = 9218868437227405312 := by unfold boundN; rw [if_neg h0]
    rw [e]
    go_enter Try.func89, Try.ntmps89
    go_wp2
    all_goals (go_ret; exact ⟨rfl, rfl⟩)

theorem sideOf_w (dir : Int) (neg : Bool) (w : World) :
    Calls Try.prog 77 #[.int .i64 dir, .bool neg] w fun e w' => e = .returned (.int .i64 (sideN dir neg)) ∧ w = w' := by
  rcases Int.lt_trichotomy dir 0 with h | h | h
  · have h' : (dir == 0) = false := by simp; omega
    have h2 : decide (0 < dir) = false := by simp; omega
    have e : sideN dir neg = if neg then 2 else 0 := by unfold sideN; rw [if_neg (by omega), h2]; cases neg <;> rfl
    rw [e]; clear e
    cases neg
    all_goals
      go_enter Try.func77, Try.ntmps77
      go_wp2
      all_goals (go_ret; exact ⟨rfl, rfl⟩)
  · subst h
    go_enter Try.func77, Try.ntmps77
    go_wp2
    all_goals (go_ret; exact ⟨rfl, rfl⟩)
  · have h' : (dir == 0) = false := by simp; omega
    have h2 : decide (0 < dir) = true := by simp; omega
    have e : sideN dir neg = if neg then 0 else 2 := by unfold sideN; rw [if_neg (by omega), h2]; cases neg <;> rfl
    rw [e]; clear e
    cases neg
    all_goals
      go_enter Try.func77, Try.ntmps77
      go_wp2
      all_goals (go_ret; exact ⟨rfl, rfl⟩)

end Go.Proofs.Yteapiigegbdopaa
