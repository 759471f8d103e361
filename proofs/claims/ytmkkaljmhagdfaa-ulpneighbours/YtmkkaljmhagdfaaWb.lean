/- The walks of the neighbours' functions and of Same, and the statement UlpNeighbours: for every word of float64 the program's Next and Prev answer as the reference's do. -/
import Derived.Test.YtmkkaljmhagdfaaWa
namespace Go.Proofs.Ytmkkaljmhagdfaa
open Go.ChangeShapes Go.WideShapes Go.ChangeAt Go.RowKit

theorem nanB_key {x : Nat} (hx : x < 18446744073709551616) (hn : nanB x = false) : -9218868437227405312 ≤ key x ∧ key x ≤ 9218868437227405312 := by
  unfold nanB at hn; simp at hn; unfold key; split <;> omega

theorem refNext_w (x : Nat) (hx : x < 18446744073709551616) (w : World) :
    Calls Try.prog 11 #[.float .f64 x] w fun e w' => e = .returned (.float .f64 (nextB x)) ∧ w = w' := by
  by_cases hn : nanB x = true
  · rw [nextB_nan hn]
    go_enter Try.func11, Try.ntmps11
    go_wp2_with (first | (go_at_call 16; refine (isNum_w x hx _).mono ?_; rintro _ _ ⟨rfl, rfl⟩))
    all_goals (go_ret; exact ⟨rfl, rfl⟩)
  · have hn : nanB x = false := by simpa using hn
    have hk := nanB_key hx hn
    by_cases h : key x = 9218868437227405312
    · have e : nextB x = x := by unfold nextB; rw [hn, if_pos h]; rfl
      rw [e]
      go_enter Try.func11, Try.ntmps11
      go_wp2_with (first | (go_at_call 16; refine (isNum_w x hx _).mono ?_; rintro _ _ ⟨rfl, rfl⟩) | (go_at_call 33; refine (index_w x hx _).mono ?_; rintro _ _ ⟨rfl, rfl⟩))
      all_goals (go_ret; exact ⟨rfl, rfl⟩)
    · have e : nextB x = ofKey (key x + 1) := by unfold nextB; rw [hn, if_neg h]; rfl
      rw [e]
      have hat := fun w => at_w (key x + 1) (by omega) (by omega) w
      have hix := fun w => index_w x hx w
      have h1 : ¬ (9218868437227405311 < key x) := by omega
      generalize key x = k at *
      go_enter Try.func11, Try.ntmps11
      go_wp2_with (first | (go_at_call 16; refine (isNum_w x hx _).mono ?_; rintro _ _ ⟨rfl, rfl⟩) | (go_at_call 33; refine (hix _).mono ?_; rintro _ _ ⟨rfl, rfl⟩) | (go_at_call 34; refine (hat _).mono ?_; rintro _ _ ⟨rfl, rfl⟩))
      all_goals (go_ret; exact ⟨rfl, rfl⟩)

theorem refPrev_w (x : Nat) (hx : x < 18446744073709551616) (w : World) :
    Calls Try.prog 13 #[.float .f64 x] w fun e w' => e = .returned (.float .f64 (prevB x)) ∧ w = w' := by
  by_cases hn : nanB x = true
  · have e : prevB x = x := by unfold prevB; rw [if_pos hn]
    rw [e]
    go_enter Try.func13, Try.ntmps13
    go_wp2_with (first | (go_at_call 16; refine (isNum_w x hx _).mono ?_; rintro _ _ ⟨rfl, rfl⟩))
    all_goals (go_ret; exact ⟨rfl, rfl⟩)
  · have hn : nanB x = false := by simpa using hn
    have hk := nanB_key hx hn
    by_cases h : key x = -9218868437227405312
    · have e : prevB x = x := by unfold prevB; rw [hn, if_pos h]; rfl
      rw [e]
      go_enter Try.func13, Try.ntmps13
      go_wp2_with (first | (go_at_call 16; refine (isNum_w x hx _).mono ?_; rintro _ _ ⟨rfl, rfl⟩) | (go_at_call 33; refine (index_w x hx _).mono ?_; rintro _ _ ⟨rfl, rfl⟩))
      all_goals (go_ret; exact ⟨rfl, rfl⟩)
    · have e : prevB x = ofKey (key x - 1) := by unfold prevB; rw [hn, if_neg h]; rfl
      rw [e]
      have hat := fun w => at_w (key x - 1) (by omega) (by omega) w
      have hix := fun w => index_w x hx w
      have h1 : ¬ (key x < -9218868437227405311) := by omega
      generalize key x = k at *
      go_enter Try.func13, Try.ntmps13
      go_wp2_with (first | (go_at_call 16; refine (isNum_w x hx _).mono ?_; rintro _ _ ⟨rfl, rfl⟩) | (go_at_call 33; refine (hix _).mono ?_; rintro _ _ ⟨rfl, rfl⟩) | (go_at_call 34; refine (hat _).mono ?_; rintro _ _ ⟨rfl, rfl⟩))
      all_goals (go_ret; exact ⟨rfl, rfl⟩)

/-- The word with the other sign. -/
def negB (x : Nat) : Nat := if x < 9223372036854775808 then x + 9223372036854775808 else x - 9223372036854775808
theorem negB_lt {x : Nat} (hx : x < 18446744073709551616) : negB x < 18446744073709551616 := by unfold negB; split <;> omega
theorem negB_negB {x : Nat} (hx : x < 18446744073709551616) : negB (negB x) = x := by unfold negB; split <;> split <;> omega
theorem key_negB {x : Nat} (hx : x < 18446744073709551616) : key (negB x) = - key x := by unfold key negB; (repeat' split) <;> omega
theorem nanB_negB {x : Nat} (hx : x < 18446744073709551616) : nanB (negB x) = nanB x := by
  have h : negB x % 9223372036854775808 = x % 9223372036854775808 := by unfold negB; split <;> omega
  unfold nanB
  rw [h]
theorem ofKey_lt {i : Int} (h1 : -9223372036854775808 < i) (h2 : i < 9223372036854775808) : ofKey i < 18446744073709551616 := by
  unfold ofKey; split <;> omega
theorem nextB_lt {x : Nat} (hx : x < 18446744073709551616) : nextB x < 18446744073709551616 := by
  unfold nextB
  by_cases hn : nanB x = true
  · rw [if_pos hn]; exact hx
  · have hn' : nanB x = false := by simpa using hn
    have hk := nanB_key hx hn'
    rw [if_neg hn]
    split
    · exact hx
    · exact ofKey_lt (by omega) (by omega)

theorem prevB_eq {x : Nat} (hx : x < 18446744073709551616) : prevB x = if negB (nextB (negB x)) = 9223372036854775808 then 0 else negB (nextB (negB x)) := by
  unfold prevB nextB
  rw [nanB_negB hx, key_negB hx]
  by_cases hn : nanB x = true
  · have hc : 9218868437227405312 < x % 9223372036854775808 := by simpa [nanB] using hn
    have hne : ¬ x = 9223372036854775808 := by omega
    simp only [hn, if_true, negB_negB hx, hne, if_false]
  · have hn : nanB x = false := by simpa using hn
    have hk := nanB_key hx hn
    simp only [hn, Bool.false_eq_true, if_false]
    by_cases h : key x = -9218868437227405312
    · have h2 : -key x = 9218868437227405312 := by omega
      have hne : ¬ x = 9223372036854775808 := by rintro rfl; simp [key] at h
      rw [if_pos h, if_pos h2, negB_negB hx, if_neg hne]
    · have h2 : ¬ -key x = 9218868437227405312 := by omega
      simp only [h, h2, if_false]
      generalize key x = k at *
      unfold ofKey negB
      rcases Int.lt_trichotomy k 1 with hk1 | hk1 | hk1
      · have e1 : k - 1 < 0 := by omega
        have e2 : ¬ -k + 1 < 0 := by omega
        have e3 : (-k + 1).toNat < 9223372036854775808 := by omega
        have e4 : ¬ (-k + 1).toNat + 9223372036854775808 = 9223372036854775808 := by omega
        simp only [e1, e2, e3, e4, if_true, if_false]; omega
      · subst hk1; rfl
      · have e1 : ¬ k - 1 < 0 := by omega
        have e2 : -k + 1 < 0 := by omega
        have e3 : ¬ (-(-k + 1)).toNat + 9223372036854775808 < 9223372036854775808 := by omega
        have e4 : ¬ (-(-k + 1)).toNat + 9223372036854775808 - 9223372036854775808 = 9223372036854775808 := by omega
        simp only [e1, e2, e3, e4, if_true, if_false]; omega

@[go_sem] theorem unary_neg_f64 (x : Nat) (w : World) : (Op.unary .neg (.float .f64 x)).run Try.prog w = .ok (.float .f64 (Op.negFloat .f64 x)) w := rfl

theorem prev_w (x : Nat) (hx : x < 18446744073709551616) (w : World) :
    Calls Try.prog 12 #[.float .f64 x] w fun e w' => e = .returned (.float .f64 (prevB x)) ∧ w = w' := by
  have hneg : Op.negFloat .f64 x = negB x := negFloat_eq x hx
  have hnx := fun w => next_w (negB x) (negB_lt hx) w
  have hxor : bits BinOp.xor IntKind.u64 (nextB (negB x) : Int) 9223372036854775808 = ((negB (nextB (negB x)) : Nat) : Int) := xor_bits _ (nextB_lt (negB_lt hx))
  have hwos := fun w => wos_w (negB (nextB (negB x))) w
  rw [← prevB_eq hx] at hwos
  go_enter Try.func12, Try.ntmps12
  go_wp2_with (first | (go_at_call 10; refine (hnx _).mono ?_; rintro _ _ ⟨rfl, rfl⟩) | (go_at_call 32; refine (hwos _).mono ?_; rintro _ _ ⟨rfl, rfl⟩))
  all_goals (go_ret; exact ⟨rfl, rfl⟩)

/-- What Same answers. -/
def sameB (a b : Nat) : Bool := if nanB a || nanB b then nanB a && nanB b else decide (a = b)

theorem same_w (a b : Nat) (ha : a < 18446744073709551616) (hb : b < 18446744073709551616) (w : World) :
    Calls Try.prog 9 #[.float .f64 a, .float .f64 b] w fun e w' => e = .returned (.bool (sameB a b)) ∧ w = w' := by
  have hs : nanB a = false → nanB b = false → sameB a b = ((a : Int) == (b : Int)) := fun h1 h2 => by
    unfold sameB; rw [h1, h2]
    by_cases e : a = b
    · subst e; simp
    · have : ¬ (a : Int) = (b : Int) := by omega
      simp [e, this]
  have hs2 : (nanB a || nanB b) = true → sameB a b = (nanB a && nanB b) := fun h => by unfold sameB; rw [if_pos h]
  cases hna : nanB a <;> cases hnb : nanB b
  · rw [hs hna hnb]; clear hs hs2
    go_enter Try.func9, Try.ntmps9
    go_wp2_with (first | (go_at_call 16; refine (isNum_w _ (by assumption) _).mono ?_; rintro _ _ ⟨rfl, rfl⟩))
    all_goals (go_ret; exact ⟨rfl, rfl⟩)
  all_goals
    rw [hs2 (by rw [hna, hnb]; rfl), hna, hnb]; clear hs hs2
    go_enter Try.func9, Try.ntmps9
    go_wp2_with (first | (go_at_call 16; refine (isNum_w _ (by assumption) _).mono ?_; rintro _ _ ⟨rfl, rfl⟩))
    all_goals (go_ret; exact ⟨rfl, rfl⟩)

theorem sameB_refl (a : Nat) : sameB a a = true := by unfold sameB; cases nanB a <;> simp

theorem prevB_lt {x : Nat} (hx : x < 18446744073709551616) : prevB x < 18446744073709551616 := by
  unfold prevB
  by_cases hn : nanB x = true
  · rw [if_pos hn]; exact hx
  · have hn' : nanB x = false := by simpa using hn
    have hk := nanB_key hx hn'
    rw [if_neg hn]
    split
    · exact hx
    · exact ofKey_lt (by omega) (by omega)

theorem neighbours_w (x : Nat) (hx : x < 18446744073709551616) (w : World) :
    Calls Try.prog 3 #[.float .f64 x] w fun e w' => e = .returned (.bool true) ∧ w = w' := by
  have h1 := sameB_refl (nextB x)
  have h2 := sameB_refl (prevB x)
  have l1 := nextB_lt hx
  have l2 := prevB_lt hx
  go_enter Try.func3, Try.ntmps3
  go_wp2_with (first
    | (go_at_call 10; refine (next_w x hx _).mono ?_; rintro _ _ ⟨rfl, rfl⟩)
    | (go_at_call 11; refine (refNext_w x hx _).mono ?_; rintro _ _ ⟨rfl, rfl⟩)
    | (go_at_call 12; refine (prev_w x hx _).mono ?_; rintro _ _ ⟨rfl, rfl⟩)
    | (go_at_call 13; refine (refPrev_w x hx _).mono ?_; rintro _ _ ⟨rfl, rfl⟩)
    | (go_at_call 9; refine (same_w _ _ (by assumption) (by assumption) _).mono ?_; rintro _ _ ⟨rfl, rfl⟩))
  all_goals (go_ret; exact ⟨rfl, rfl⟩)

end Go.Proofs.Ytmkkaljmhagdfaa
