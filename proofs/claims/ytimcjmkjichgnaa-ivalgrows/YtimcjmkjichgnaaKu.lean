/- Powers of intervals: the program's and the reference's answer the same function, at every number. -/
import Derived.Test.YtimcjmkjichgnaaKv
namespace Go.Proofs.Ytimcjmkjichgnaa
open Go.ChangeShapes Go.WideShapes Go.ChangeAt Go.RowKit

def posP (lo hi : Nat) (n : Int) : Nat × Nat := if n.tmod 2 = 0 then powE lo hi (n - 1).toNat else powO lo hi (n - 1).toNat
def powP (lo hi : Nat) (n : Int) : Nat × Nat :=
  if hsB lo hi then (if n < -64 then (infI (-1), infI 1) else if 64 < n then (infI (-1), infI 1) else if n = 0 then (4607182418800017408, 4607182418800017408)
    else if n < 0 then divP 4607182418800017408 4607182418800017408 (posP lo hi (-n)).1 (posP lo hi (-n)).2 else posP lo hi n) else (infI 1, infI (-1))

theorem tmod_two {n : Int} (h : 0 < n) : n.tmod 2 = 0 ∨ n.tmod 2 = 1 := by
  rw [Int.tmod_eq_emod_of_nonneg (by omega)]
  omega

theorem posP_lt {lo hi : Nat} (hl : lo < 18446744073709551616) (hh : hi < 18446744073709551616) (S : Some2 lo hi) (n : Int) : (posP lo hi n).1 < 18446744073709551616 ∧ (posP lo hi n).2 < 18446744073709551616 := by
  obtain ⟨k1, k2, k3, n1, n2, w1, w2⟩ := mag_keys hl hh S
  unfold posP
  split
  · exact ⟨(pow_num (-1) (by omega) n1 _).2, (pow_num 1 (by omega) n2 _).2⟩
  · exact makeP_lt (odd_facts hl S.nl _ _).2.1 (odd_facts hh S.nh _ _).2.1

theorem powP_lt {lo hi : Nat} (hl : lo < 18446744073709551616) (hh : hi < 18446744073709551616) (n : Int) : (powP lo hi n).1 < 18446744073709551616 ∧ (powP lo hi n).2 < 18446744073709551616 := by
  have i1 := infI_lt 1
  have i2 := infI_lt (-1)
  unfold powP
  cases hs : hsB lo hi
  · rw [if_neg (by simp)]; exact ⟨i1, i2⟩
  · rw [if_pos rfl]
    have S := hs_iff.1 hs
    split
    · exact ⟨i2, i1⟩
    · split
      · exact ⟨i2, i1⟩
      · split
        · exact ⟨by omega, by omega⟩
        · split
          · have p := posP_lt hl hh S (-n)
            exact divP_lt (by omega) (by omega) p.1 p.2
          · exact posP_lt hl hh S n

theorem one_point (w : World) : Calls Try.prog 33 #[.float .f64 4607182418800017408] w fun e w' => e = .returned (.agg #[.float .f64 4607182418800017408, .float .f64 4607182418800017408]) ∧ Below w.heap.size w w' := by
  have h := point_w 4607182418800017408 (by omega) w
  have e : makeP 4607182418800017408 4607182418800017408 = (4607182418800017408, 4607182418800017408) := by decide
  rw [e] at h
  exact h

theorem one_make (w : World) : Calls Try.prog 32 #[.float .f64 4607182418800017408, .float .f64 4607182418800017408] w fun e w' => e = .returned (.agg #[.float .f64 4607182418800017408, .float .f64 4607182418800017408]) ∧ Below w.heap.size w w' := by
  have h := rmake_w 4607182418800017408 4607182418800017408 (by omega) (by omega) w
  have e : makeP 4607182418800017408 4607182418800017408 = (4607182418800017408, 4607182418800017408) := by decide
  rw [e] at h
  exact h

theorem Pow_pos (lo hi : Nat) (hl : lo < 18446744073709551616) (hh : hi < 18446744073709551616) (hs : hsB lo hi = true) (n : Int) (h1 : 0 < n) (h2 : n ≤ 64) (w : World) :
    Calls Try.prog 67 #[.agg #[.float .f64 lo, .float .f64 hi], .int .i64 n] w fun e w' => e = .returned (.agg #[.float .f64 (posP lo hi n).1, .float .f64 (posP lo hi n).2]) ∧ Below w.heap.size w w' := by
  have S := hs_iff.1 hs
  have c0 := fun b W c0 c1 => someEmpty1_w b lo hi hl hh W c0 c1
  rw [hs] at c0
  obtain ⟨k1, k2, k3, n1, n2, w1, w2⟩ := mag_keys hl hh S
  have hk : (n - 1).toNat ≤ 63 := by omega
  have hn : n = (((n - 1).toNat : Nat) : Int) + 1 := by omega
  unfold posP
  rcases tmod_two h1 with c | c
  · rw [if_pos c]
    exact ppow_even lo hi (migP lo hi) (magP lo hi) _ _ n c0 h1 h2 c (fun w => mig_w lo hi hl hh w) (fun w => mag_w lo hi hl hh w) (fun w => power_w _ _ (by omega) n1 _ hk n hn w) (fun w => power_w _ _ (by omega) n2 _ hk n hn w) w
  · rw [if_neg (by omega)]
    have f := odd_facts hl S.nl (n - 1).toNat (-1)
    have g := odd_facts hh S.nh (n - 1).toNat 1
    exact ppow_odd lo hi _ _ _ _ n c0 h1 h2 c (fun w => odd_w lo (-1) (Or.inl rfl) hl S.nl _ hk n hn w) (fun w => odd_w hi 1 (Or.inr rfl) hh S.nh _ hk n hn w) (fun w => make_w _ _ f.2.1 g.2.1 w) w

theorem rPow_pos (lo hi : Nat) (hl : lo < 18446744073709551616) (hh : hi < 18446744073709551616) (hs : hsB lo hi = true) (n : Int) (h1 : 0 < n) (h2 : n ≤ 64) (w : World) :
    Calls Try.prog 51 #[.agg #[.float .f64 lo, .float .f64 hi], .int .i64 n] w fun e w' => e = .returned (.agg #[.float .f64 (posP lo hi n).1, .float .f64 (posP lo hi n).2]) ∧ Below w.heap.size w w' := by
  have S := hs_iff.1 hs
  have c0 := fun w => none_w lo hi hl hh w
  rw [hs] at c0
  obtain ⟨k1, k2, k3, n1, n2, w1, w2⟩ := mag_keys hl hh S
  have hk : (n - 1).toNat ≤ 63 := by omega
  have hn : n = (((n - 1).toNat : Nat) : Int) + 1 := by omega
  unfold posP
  rcases tmod_two h1 with c | c
  · rw [if_pos c]
    have f := pow_num (-1) (show migP lo hi < 18446744073709551616 by omega) n1 (n - 1).toNat
    have g := pow_num 1 (show magP lo hi < 18446744073709551616 by omega) n2 (n - 1).toNat
    exact rpow_even lo hi (migP lo hi) (magP lo hi) _ _ _ _ n c0 h1 h2 c (fun w => rMig_w lo hi hl hh w) (fun w => rMag_w lo hi hl hh w) (fun w => rpower_w _ _ (by omega) n1 _ hk n hn w) (fun w => rpower_w _ _ (by omega) n2 _ hk n hn w) (fun w => rends_w _ _ f.2 g.2 (even_some hl hh S _) w) w
  · rw [if_neg (by omega), ← rodd_is hl hh S]
    have f := odd_facts hl S.nl (n - 1).toNat (-1)
    have g := odd_facts hh S.nh (n - 1).toNat 1
    have ce := fun w => rends_core _ _ _ _ _ _ (rendsP _ _) (o_gt f.2.2.2.1 (show 9218868437227405311 < 18446744073709551616 by omega)) (o_lt g.2.2.2.1 (show 18442240474082181119 < 18446744073709551616 by omega)) rfl rfl (fun w => rmake_w _ _ (by split <;> omega) (by split <;> omega) w) w
    exact rpow_odd lo hi _ _ _ _ n c0 h1 h2 c (fun w => rsigned_w lo (-1) (Or.inl rfl) hl S.nl _ hk n hn w) (fun w => rsigned_w hi 1 (Or.inr rfl) hh S.nh _ hk n hn w) ce w

theorem Pow_w (lo hi : Nat) (hl : lo < 18446744073709551616) (hh : hi < 18446744073709551616) (n : Int) (w : World) :
    Calls Try.prog 67 #[.agg #[.float .f64 lo, .float .f64 hi], .int .i64 n] w fun e w' => e = .returned (.agg #[.float .f64 (powP lo hi n).1, .float .f64 (powP lo hi n).2]) ∧ Below w.heap.size w w' := by
  have c0 := fun b W c0 c1 => someEmpty1_w b lo hi hl hh W c0 c1
  unfold powP
  cases hs : hsB lo hi
  · rw [hs] at c0
    rw [if_neg (by simp)]
    exact ppow_none lo hi n c0 w
  · have P := fun m h1 h2 w => Pow_pos lo hi hl hh hs m h1 h2 w
    rw [hs] at c0
    rw [if_pos rfl]
    by_cases c1 : n < -64
    · rw [if_pos c1]; exact ppow_low lo hi n c0 c1 w
    · rw [if_neg c1]
      by_cases c2 : 64 < n
      · rw [if_pos c2]; exact ppow_high lo hi n c0 c2 w
      · rw [if_neg c2]
        by_cases c3 : n = 0
        · rw [if_pos c3]; exact ppow_zero lo hi n c0 c3 one_point w
        · rw [if_neg c3]
          by_cases c4 : n < 0
          · rw [if_pos c4]
            have p := posP_lt hl hh (hs_iff.1 hs) (-n)
            exact ppow_neg lo hi _ _ _ _ n c0 (by omega) c4 one_point (fun w => P (-n) (by omega) (by omega) w) (fun w => Div_w _ _ _ _ (by omega) (by omega) p.1 p.2 w) w
          · rw [if_neg c4]
            exact P n (by omega) (by omega) w

theorem rPow_w (lo hi : Nat) (hl : lo < 18446744073709551616) (hh : hi < 18446744073709551616) (n : Int) (w : World) :
    Calls Try.prog 51 #[.agg #[.float .f64 lo, .float .f64 hi], .int .i64 n] w fun e w' => e = .returned (.agg #[.float .f64 (powP lo hi n).1, .float .f64 (powP lo hi n).2]) ∧ Below w.heap.size w w' := by
  have c0 := fun w => none_w lo hi hl hh w
  unfold powP
  cases hs : hsB lo hi
  · rw [hs] at c0
    rw [if_neg (by simp)]
    exact rpow_none lo hi n c0 w
  · have P := fun m h1 h2 w => rPow_pos lo hi hl hh hs m h1 h2 w
    rw [hs] at c0
    rw [if_pos rfl]
    by_cases c1 : n < -64
    · rw [if_pos c1]; exact rpow_low lo hi n c0 c1 w
    · rw [if_neg c1]
      by_cases c2 : 64 < n
      · rw [if_pos c2]; exact rpow_high lo hi n c0 c2 w
      · rw [if_neg c2]
        by_cases c3 : n = 0
        · rw [if_pos c3]; exact rpow_zero lo hi n c0 c3 one_make w
        · rw [if_neg c3]
          by_cases c4 : n < 0
          · rw [if_pos c4]
            have p := posP_lt hl hh (hs_iff.1 hs) (-n)
            exact rpow_neg lo hi _ _ _ _ n c0 (by omega) c4 one_make (fun w => P (-n) (by omega) (by omega) w) (fun w => rDiv_w _ _ _ _ (by omega) (by omega) p.1 p.2 w) w
          · rw [if_neg c4]
            exact P n (by omega) (by omega) w

end Go.Proofs.Ytimcjmkjichgnaa
