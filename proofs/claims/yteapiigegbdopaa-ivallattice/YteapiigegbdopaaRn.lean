/- Plain facts on the program's rounding, whatever is rounded: its three sides stand in order, no more than neighbours apart. -/
import Derived.Test.YteapiigegbdopaaWd
import Derived.Test.YteapiigegbdopaaWb
namespace Go.Proofs.Yteapiigegbdopaa

theorem keptN_lt {m d : Nat} (hm : m < 18446744073709551616) (hd : 11 ≤ d) : keptN m d ≤ 9007199254740991 := by
  unfold keptN
  split
  · omega
  · have h1 : m / 2 ^ d ≤ m / 2 ^ 11 := Nat.div_le_div_left (Nat.pow_le_pow_right (by omega) hd) (Nat.two_pow_pos _)
    have h2 : m / 2 ^ 11 < 2 ^ 53 := Nat.div_lt_of_lt_mul (by rw [← Nat.pow_add]; exact hm)
    omega

theorem goes_zero (k r : Nat) : goesN k r 0 = false := rfl
theorem goes_mono {k r : Nat} (h : goesN k r 1 = true) : goesN k r 2 = true := by
  have h1 : goesN k r 1 = decide (9223372036854775808 < r ∨ r = 9223372036854775808 ∧ k % 2 = 1) := rfl
  have h2 : goesN k r 2 = decide (r ≠ 0) := rfl
  rw [h1] at h
  rw [h2]
  simp only [decide_eq_true_eq] at h ⊢
  omega

theorem rung_sides (t : Nat) (e : Int) (ht : t < 18446744073709551616) :
    ∃ (r : Nat) (b1 b2 : Bool), r ≤ 9218868437227405311 ∧ rungN t e 0 = r ∧ rungN t e 1 = r + b1.toNat ∧ rungN t e 2 = r + b2.toNat ∧ (b1 = true → b2 = true) := by
  have hd11 : 11 ≤ dropN e := by unfold dropN; omega
  have hk := keptN_lt (d := dropN e) ht hd11
  by_cases h : 971 < e + dropN e
  · refine ⟨9218868437227405311, true, true, by omega, ?_, ?_, ?_, fun _ => rfl⟩
    · have b : rungN t e 0 = boundN 0 := by unfold rungN; exact if_pos h
      have c : boundN 0 = 9218868437227405311 := if_pos rfl
      omega
    · have b : rungN t e 1 = boundN 1 := by unfold rungN; exact if_pos h
      have c : boundN 1 = 9218868437227405312 := if_neg (by decide)
      simp only [Bool.toNat_true]; omega
    · have b : rungN t e 2 = boundN 2 := by unfold rungN; exact if_pos h
      have c : boundN 2 = 9218868437227405312 := if_neg (by decide)
      simp only [Bool.toNat_true]; omega
  · have hd : -1074 ≤ e + dropN e := by unfold dropN; omega
    refine ⟨(e + dropN e + 1074).toNat * 4503599627370496 + keptN t (dropN e), goesN (keptN t (dropN e)) (restN t (dropN e)) 1, goesN (keptN t (dropN e)) (restN t (dropN e)) 2, by omega, ?_, ?_, ?_, goes_mono⟩
    · have b : rungN t e 0 = (e + dropN e + 1074).toNat * 4503599627370496 + keptN t (dropN e) + (goesN (keptN t (dropN e)) (restN t (dropN e)) 0).toNat := by unfold rungN; exact if_neg h
      rw [b, goes_zero, Bool.toNat_false, Nat.add_zero]
    · unfold rungN; exact if_neg h
    · unfold rungN; exact if_neg h

/-- Three answers that stand in order, the same or neighbours; none is -0, all are numbers. -/
def SidesOK (d n u : Nat) : Prop :=
  (nanB d = false ∧ nanB n = false ∧ nanB u = false) ∧ (d ≠ 9223372036854775808 ∧ n ≠ 9223372036854775808 ∧ u ≠ 9223372036854775808) ∧
  (d < 18446744073709551616 ∧ n < 18446744073709551616 ∧ u < 18446744073709551616) ∧ key d ≤ key n ∧ key n ≤ key u ∧ (key u = key d ∨ key u = key d + 1)

theorem signN_facts (g : Bool) (r : Nat) (h : r ≤ 9218868437227405312) :
    nanB (signN g r) = false ∧ signN g r ≠ 9223372036854775808 ∧ signN g r < 18446744073709551616 ∧ key (signN g r) = if g then -(r : Int) else r := by
  unfold signN nanB key
  cases g
  · simp only [Bool.false_eq_true, if_false]
    refine ⟨?_, by omega, by omega, ?_⟩
    · simp; omega
    · rw [if_pos (by omega)]
  · simp only [if_true]
    by_cases hz : r = 0
    · subst hz; simp
    · rw [if_neg hz]
      refine ⟨?_, by omega, by omega, ?_⟩
      · simp; omega
      · rw [if_neg (by omega)]; omega

theorem roundN_facts (g : Bool) (m : Nat) (e dir : Int) (hm : m < 18446744073709551616) :
    nanB (roundN g m e dir) = false ∧ roundN g m e dir ≠ 9223372036854775808 ∧ roundN g m e dir < 18446744073709551616 := by
  unfold roundN
  by_cases h0 : m = 0
  · rw [if_pos h0]; decide
  · rw [if_neg h0]
    have ht := (topN_bounds h0 hm).2
    have hle : rungN (topN m) (clampN e - shiftN m) (sideN dir g) ≤ 9218868437227405312 := by
      obtain ⟨r, b1, b2, hr, h0', h1', h2', _⟩ := rung_sides (topN m) (clampN e - shiftN m) ht
      have hs : sideN dir g = 0 ∨ sideN dir g = 1 ∨ sideN dir g = 2 := by unfold sideN; split <;> (try split) <;> omega
      rcases hs with hs | hs | hs
      · rw [hs, h0']; omega
      · rw [hs, h1']; cases b1 <;> simp <;> omega
      · rw [hs, h2']; cases b2 <;> simp <;> omega
    have hf := signN_facts g _ hle
    exact ⟨hf.1, hf.2.1, hf.2.2.1⟩

theorem round_sides (g : Bool) (m : Nat) (e : Int) (hm : m < 18446744073709551616) : SidesOK (roundN g m e (-1)) (roundN g m e 0) (roundN g m e 1) := by
  have f1 := roundN_facts g m e (-1) hm
  have f2 := roundN_facts g m e 0 hm
  have f3 := roundN_facts g m e 1 hm
  refine ⟨⟨f1.1, f2.1, f3.1⟩, ⟨f1.2.1, f2.2.1, f3.2.1⟩, ⟨f1.2.2, f2.2.2, f3.2.2⟩, ?_⟩
  clear f1 f2 f3
  unfold roundN
  by_cases h0 : m = 0
  · simp only [h0, if_true]; decide
  · simp only [h0, if_false]
    obtain ⟨r, b1, b2, hr, h0', h1', h2', hb⟩ := rung_sides (topN m) (clampN e - shiftN m) (topN_bounds h0 hm).2
    have c1 : r + b1.toNat ≤ 9218868437227405312 := by cases b1 <;> simp <;> omega
    have c2 : r + b2.toNat ≤ 9218868437227405312 := by cases b2 <;> simp <;> omega
    have c12 : b1.toNat ≤ b2.toNat ∧ b2.toNat ≤ 1 := by
      cases b1 <;> cases b2 <;> simp at hb ⊢
    cases g
    · have s1 : sideN (-1) false = 0 := rfl
      have s2 : sideN 0 false = 1 := rfl
      have s3 : sideN 1 false = 2 := rfl
      rw [s1, s2, s3, h0', h1', h2', (signN_facts false r (by omega)).2.2.2, (signN_facts false _ c1).2.2.2, (signN_facts false _ c2).2.2.2]
      simp only [Bool.false_eq_true, if_false]
      omega
    · have s1 : sideN (-1) true = 2 := rfl
      have s2 : sideN 0 true = 1 := rfl
      have s3 : sideN 1 true = 0 := rfl
      rw [s1, s2, s3, h0', h1', h2', (signN_facts true r (by omega)).2.2.2, (signN_facts true _ c1).2.2.2, (signN_facts true _ c2).2.2.2]
      simp only [if_true]
      omega

/-- Mirrored: the other side of the negative. -/
theorem round_mirror (g : Bool) (m : Nat) (e : Int) (hm : m < 18446744073709551616) : key (roundN (!g) m e 1) = - key (roundN g m e (-1)) := by
  unfold roundN
  by_cases h0 : m = 0
  · simp only [h0, if_true]; rfl
  · simp only [h0, if_false]
    obtain ⟨r, b1, b2, hr, h0', h1', h2', hb⟩ := rung_sides (topN m) (clampN e - shiftN m) (topN_bounds h0 hm).2
    have c2 : r + b2.toNat ≤ 9218868437227405312 := by cases b2 <;> simp <;> omega
    cases g
    · have s1 : sideN (-1) false = 0 := rfl
      have s3 : sideN 1 (!false) = 0 := rfl
      rw [s1, s3, h0', (signN_facts false r (by omega)).2.2.2, (signN_facts (!false) r (by omega)).2.2.2]
      simp
    · have s1 : sideN (-1) true = 2 := rfl
      have s3 : sideN 1 (!true) = 2 := rfl
      rw [s1, s3, h2', (signN_facts true _ c2).2.2.2, (signN_facts (!true) _ c2).2.2.2]
      simp

end Go.Proofs.Yteapiigegbdopaa
