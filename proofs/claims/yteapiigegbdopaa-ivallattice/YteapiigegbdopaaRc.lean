/- Plain facts: what the program rounds an amount to is what the document asks for, of any exact amount that the parts stand for. -/
import Derived.Test.YteapiigegbdopaaRn
namespace Go.Proofs.Yteapiigegbdopaa

/-- An exact amount, by what halves of the least float it holds: h of them are not above it; h of them are just it. -/
structure Cut where
  le : Nat → Prop
  eq : Nat → Prop
structure Cut.Ok (C : Cut) : Prop where
  down : ∀ {h k : Nat}, h ≤ k → C.le k → C.le h
  eqle : ∀ {h : Nat}, C.eq h → C.le h
  eqlt : ∀ {h k : Nat}, C.eq h → h < k → ¬ C.le k
  zero : C.le 0

/-- The greatest float not above, never the infinite one. -/
structure IsDown (C : Cut) (d : Nat) : Prop where
  top : d ≤ 9218868437227405311
  low : C.le (2 * val d)
  up : d = 9218868437227405311 ∨ ¬ C.le (2 * val (d + 1))

/-- How an amount is rounded to a side: 0 inward, 2 outward, 1 to the nearest. -/
def IsR (C : Cut) (s : Int) (r : Nat) : Prop := ∃ d, IsDown C d ∧ (s = 0 → r = d) ∧ (s = 2 → (C.eq (2 * val d) ∧ r = d ∨ ¬ C.eq (2 * val d) ∧ r = d + 1)) ∧
  (s = 1 → (C.eq (2 * val d) ∧ r = d ∨ ¬ C.eq (2 * val d) ∧ (C.eq (val d + val (d + 1)) ∧ r = (if d % 2 = 0 then d else d + 1) ∨ ¬ C.eq (val d + val (d + 1)) ∧ (C.le (val d + val (d + 1)) ∧ r = d + 1 ∨ ¬ C.le (val d + val (d + 1)) ∧ r = d))))

theorem isDown_unique {C : Cut} (ok : C.Ok) {d e : Nat} (h : IsDown C d) (k : IsDown C e) : d = e := by
  have key : ∀ {d e : Nat}, IsDown C d → IsDown C e → ¬ d < e := fun {d e} h k hlt => by
    rcases h.up with u | u
    · have := k.top; omega
    · refine u (ok.down ?_ k.low)
      rcases Nat.lt_or_ge (d + 1) e with c | c
      · have := val_mono c; omega
      · have : d + 1 = e := by omega
        rw [this]; omega
  rcases Nat.lt_trichotomy d e with c | c | c
  · exact absurd c (key h k)
  · exact c
  · exact absurd c (key k h)

theorem isR_unique {C : Cut} (ok : C.Ok) {s : Int} (hs : s = 0 ∨ s = 1 ∨ s = 2) {r t : Nat} (h : IsR C s r) (k : IsR C s t) : r = t := by
  obtain ⟨d, hd, h0, h2, h1⟩ := h
  obtain ⟨e, he, k0, k2, k1⟩ := k
  obtain rfl := isDown_unique ok hd he
  rcases hs with rfl | rfl | rfl
  · rw [h0 rfl, k0 rfl]
  · rcases h1 rfl with ⟨a, b⟩ | ⟨a, ⟨a2, b⟩ | ⟨a2, ⟨a3, b⟩ | ⟨a3, b⟩⟩⟩ <;> rcases k1 rfl with ⟨c, f⟩ | ⟨c, ⟨c2, f⟩ | ⟨c2, ⟨c3, f⟩ | ⟨c3, f⟩⟩⟩ <;> first | (rw [b, f]; done) | contradiction
  · rcases h2 rfl with ⟨a, b⟩ | ⟨a, b⟩ <;> rcases k2 rfl with ⟨c, f⟩ | ⟨c, f⟩ <;> first | (rw [b, f]; done) | contradiction

/-- What parts stand for: an amount, or, with the last bit as a mark, an amount between two neighbours. -/
def Near (M : Nat) (E : Int) (C : Cut) : Prop := ∃ a b : Nat, (b : Int) - a = E + 1075 ∧
  ((∀ h, (C.le h ↔ h * 2 ^ a ≤ M * 2 ^ b) ∧ (C.eq h ↔ h * 2 ^ a = M * 2 ^ b)) ∨
   (M % 2 = 1 ∧ 36028797018963968 ≤ M ∧ ∀ h, (h * 2 ^ a ≤ (M - 1) * 2 ^ b → C.le h ∧ ¬ C.eq h) ∧ ((M + 1) * 2 ^ b ≤ h * 2 ^ a → ¬ C.le h ∧ ¬ C.eq h)))

theorem mul_two_pow_le {x y b : Nat} : x * 2 ^ b ≤ y * 2 ^ b ↔ x ≤ y := Nat.mul_le_mul_right_iff (Nat.two_pow_pos b)
theorem mul_two_pow_eq {x y b : Nat} : x * 2 ^ b = y * 2 ^ b ↔ x = y := Nat.mul_left_inj (Nat.ne_of_gt (Nat.two_pow_pos b))

theorem near_grid {M : Nat} {E : Int} {C : Cut} (h : Near M E C) (h0 : M ≠ 0) (hM : M < 18446744073709551616) (u : Nat) (hu : (u : Int) = E - shiftN M + dropN (E - shiftN M) + 1074) (j : Nat) :
    (C.le (j * 2 ^ u) ↔ j * 2 ^ (dropN (E - shiftN M) - 1) ≤ topN M) ∧ (C.eq (j * 2 ^ u) ↔ j * 2 ^ (dropN (E - shiftN M) - 1) = topN M) := by
  obtain ⟨a, b, hab, hc⟩ := h
  have hd : 11 ≤ dropN (E - shiftN M) := by unfold dropN; omega
  have hsh : shiftN M = 63 - M.log2 := rfl
  have hl : M.log2 < 64 := (Nat.log2_lt h0).2 hM
  generalize dropN (E - shiftN M) = d at *
  unfold topN
  generalize shiftN M = s at *
  have ex : u + a + s = d - 1 + b := by omega
  have e1 : j * 2 ^ u * 2 ^ a * 2 ^ s = j * 2 ^ (d - 1) * 2 ^ b := by
    rw [Nat.mul_assoc, Nat.mul_assoc, Nat.mul_assoc, ← Nat.pow_add, ← Nat.pow_add, ← Nat.pow_add]
    congr 2; omega
  have e2 : M * 2 ^ b * 2 ^ s = M * 2 ^ s * 2 ^ b := Nat.mul_right_comm _ _ _
  rcases hc with hc | ⟨odd, big, hc⟩
  · rw [(hc (j * 2 ^ u)).1, (hc (j * 2 ^ u)).2, ← mul_two_pow_le (b := s), ← mul_two_pow_eq (b := s), e1, e2, mul_two_pow_le, mul_two_pow_eq]
    exact ⟨Iff.rfl, Iff.rfl⟩
  · have hlog : 55 ≤ M.log2 := (Nat.le_log2 h0).2 big
    have hs : s + 2 ≤ d - 1 := by omega
    have e3 : j * 2 ^ (d - 1) = (j * 2 ^ (d - 1 - s)) * 2 ^ s := by
      rw [Nat.mul_assoc, ← Nat.pow_add]; congr 2; omega
    have e4 : j * 2 ^ u * 2 ^ a = (j * 2 ^ (d - 1 - s)) * 2 ^ b := by
      have := e1
      rw [e3, Nat.mul_right_comm _ (2 ^ s) (2 ^ b)] at this
      exact mul_two_pow_eq.1 this
    have e5 : 2 ^ (d - 1 - s) = 2 * 2 ^ (d - 1 - s - 1) := by rw [← Nat.pow_succ']; congr 1; omega
    rw [e3, mul_two_pow_le, mul_two_pow_eq]
    have hc := hc (j * 2 ^ u)
    rw [e4] at hc
    have ev : j * 2 ^ (d - 1 - s) % 2 = 0 := by rw [e5, ← Nat.mul_assoc, Nat.mul_comm j 2, Nat.mul_assoc]; exact Nat.mul_mod_right _ _
    generalize j * 2 ^ (d - 1 - s) = J at *
    rw [mul_two_pow_le, mul_two_pow_le] at hc
    rcases Nat.lt_or_ge J M with c | c
    · have := hc.1 (by omega)
      exact ⟨⟨fun _ => by omega, fun _ => this.1⟩, ⟨fun h => absurd h this.2, fun h => by omega⟩⟩
    · have := hc.2 (by omega)
      exact ⟨⟨fun h => absurd h this.1, fun _ => by omega⟩, ⟨fun h => absurd h this.2, fun h => by omega⟩⟩

theorem val_grid {u k : Nat} (hk : k ≤ 9007199254740992) (h : u = 0 ∨ 4503599627370496 ≤ k) : val (u * 4503599627370496 + k) = k * 2 ^ u := by
  unfold val
  rcases Nat.lt_or_ge k 4503599627370496 with c | c
  · have hu : u = 0 := by omega
    subst hu
    rw [if_pos (by omega)]; simp
  · rw [if_neg (by omega)]
    rcases Nat.lt_or_ge k 9007199254740992 with c2 | c2
    · have h1 : (u * 4503599627370496 + k) % 4503599627370496 = k - 4503599627370496 := by omega
      have h2 : (u * 4503599627370496 + k) / 4503599627370496 - 1 = u := by omega
      have h3 : 4503599627370496 + (k - 4503599627370496) = k := by omega
      rw [h1, h2, h3]
    · have hk2 : k = 9007199254740992 := by omega
      subst hk2
      have h1 : (u * 4503599627370496 + 9007199254740992) % 4503599627370496 = 0 := by omega
      have h2 : (u * 4503599627370496 + 9007199254740992) / 4503599627370496 - 1 = u + 1 := by omega
      rw [h1, h2, Nat.pow_succ]; omega

theorem rest_facts {t d : Nat} (hd : 11 ≤ d) (ht : t < 18446744073709551616) (h0 : 0 < t) :
    (restN t d ≠ 0 ↔ (2 * keptN t d) * 2 ^ (d - 1) ≠ t) ∧ (9223372036854775808 < restN t d ↔ (2 * keptN t d + 1) * 2 ^ (d - 1) < t) ∧ (restN t d = 9223372036854775808 ↔ (2 * keptN t d + 1) * 2 ^ (d - 1) = t) ∧
    (2 * keptN t d) * 2 ^ (d - 1) ≤ t ∧ t < (2 * keptN t d + 2) * 2 ^ (d - 1) := by
  unfold restN keptN
  have e5 : 2 ^ d = 2 * 2 ^ (d - 1) := by rw [← Nat.pow_succ']; congr 1; omega
  by_cases c : 64 < d
  · rw [if_pos c, if_pos c]
    have hp : 2 ^ 64 ≤ 2 ^ (d - 1) := Nat.pow_le_pow_right (by omega) (by omega)
    generalize 2 ^ (d - 1) = p at *
    simp only [Nat.mul_zero, Nat.zero_add, Nat.zero_mul, Nat.one_mul]
    omega
  · rw [if_neg c, if_neg c, e5]
    have hm := Nat.div_add_mod t (2 * 2 ^ (d - 1))
    have hlt : t % (2 * 2 ^ (d - 1)) < 2 * 2 ^ (d - 1) := Nat.mod_lt _ (by have := Nat.two_pow_pos (d - 1); omega)
    have e6 : 2 ^ (d - 1) * 2 ^ (64 - d) = 9223372036854775808 := by rw [← Nat.pow_add, show d - 1 + (64 - d) = 63 by omega]
    have hq := Nat.two_pow_pos (64 - d)
    generalize t % (2 * 2 ^ (d - 1)) = r at *
    generalize t / (2 * 2 ^ (d - 1)) = k at *
    have e7 : 2 * k * 2 ^ (d - 1) = 2 * 2 ^ (d - 1) * k := by rw [Nat.mul_right_comm]
    have e8 : (2 * k + 1) * 2 ^ (d - 1) = 2 * 2 ^ (d - 1) * k + 2 ^ (d - 1) := by rw [Nat.add_mul, e7, Nat.one_mul]
    have e9 : (2 * k + 2) * 2 ^ (d - 1) = 2 * 2 ^ (d - 1) * k + 2 * 2 ^ (d - 1) := by rw [Nat.add_mul, e7]
    rw [e7, e8, e9]
    have g1 : 9223372036854775808 < r * 2 ^ (64 - d) ↔ 2 ^ (d - 1) < r := by
      rw [← e6]; exact Nat.mul_lt_mul_right hq
    have g2 : r * 2 ^ (64 - d) = 9223372036854775808 ↔ r = 2 ^ (d - 1) := by
      rw [← e6]; exact mul_two_pow_eq
    have g3 : r * 2 ^ (64 - d) ≠ 0 ↔ r ≠ 0 := by
      rw [ne_eq, Nat.mul_eq_zero]; constructor <;> intro h <;> omega
    rw [g1, g2, g3]
    generalize 2 * 2 ^ (d - 1) * k = z at *
    generalize 2 ^ (d - 1) = p at *
    omega

theorem rung_far {C : Cut} (ok : C.Ok) {s : Int} (hs : s = 0 ∨ s = 1 ∨ s = 2) {L : Nat} (hL : L = 9218868437227405311) (h : C.le (2 * val (L + 1))) : IsR C s (boundN s) := by
  have hv := val_mono (show L < L + 1 by omega)
  have b0 : boundN 0 = L := hL.symm
  have b1 : boundN 1 = L + 1 := by rw [hL]; rfl
  have b2 : boundN 2 = L + 1 := by rw [hL]; rfl
  refine ⟨L, ⟨by omega, ok.down (by omega) h, Or.inl hL⟩, ?_, ?_, ?_⟩
  · rintro rfl; exact b0
  · rintro rfl
    exact Or.inr ⟨fun e => ok.eqlt e (by omega) h, b2⟩
  · rintro rfl
    exact Or.inr ⟨fun e => ok.eqlt e (by omega) h, Or.inr ⟨fun e => ok.eqlt e (by omega) h, Or.inl ⟨ok.down (by omega) h, b1⟩⟩⟩

/-- THE PROGRAM'S ROUNDING OF AN AMOUNT IS THE DOCUMENT'S. -/
theorem rung_is {M : Nat} {E : Int} {C : Cut} (ok : C.Ok) (h : Near M E C) (h0 : M ≠ 0) (hM : M < 18446744073709551616) {s : Int} (hs : s = 0 ∨ s = 1 ∨ s = 2) :
    IsR C s (rungN (topN M) (E - shiftN M) s) := by
  have hb := topN_bounds h0 hM
  have hd : 11 ≤ dropN (E - shiftN M) := by unfold dropN; omega
  have hd2 : -1074 ≤ E - shiftN M + dropN (E - shiftN M) := by unfold dropN; omega
  have hd3 : dropN (E - shiftN M) = 11 ∨ E - shiftN M + dropN (E - shiftN M) = -1074 := by unfold dropN; omega
  obtain ⟨u, hu⟩ : ∃ u : Nat, (u : Int) = E - shiftN M + dropN (E - shiftN M) + 1074 := ⟨(E - shiftN M + dropN (E - shiftN M) + 1074).toNat, by omega⟩
  have grid := near_grid h h0 hM u hu
  have hk := keptN_lt (d := dropN (E - shiftN M)) hb.2 hd
  have rf := rest_facts (t := topN M) hd hb.2 (by omega)
  unfold rungN
  have hut : (E - shiftN M + dropN (E - shiftN M) + 1074).toNat = u := by omega
  rw [hut]
  generalize E - (shiftN M : Int) = e at *
  generalize dropN e = d at *
  generalize topN M = t at *
  clear h h0 hM
  by_cases far : 971 < e + d
  · rw [if_pos far]
    have hd11 : d = 11 := by omega
    subst hd11
    refine rung_far ok hs rfl ?_
    have g := (grid 9007199254740992).1.2 (by omega)
    refine ok.down ?_ g
    obtain ⟨U, hU⟩ : ∃ U : Nat, U = 2046 := ⟨_, rfl⟩
    have e0 : 9218868437227405311 + 1 = U * 4503599627370496 + 4503599627370496 := by omega
    have e1 := val_grid (u := U) (k := 4503599627370496) (by omega) (Or.inr (by omega))
    have hp : 2 ^ U ≤ 2 ^ u := Nat.pow_le_pow_right (by omega) (by omega)
    rw [e0, e1, ← Nat.mul_assoc]
    exact Nat.mul_le_mul (by omega) hp
  · rw [if_neg far]
    have hk2 : u = 0 ∨ 4503599627370496 ≤ keptN t d := by
      rcases hd3 with c | c
      · right
        subst c
        unfold keptN
        rw [if_neg (by omega)]
        have : (2 : Nat) ^ 11 = 2048 := rfl
        rw [this]; omega
      · left; omega
    have v0 := val_grid (u := u) (k := keptN t d) (by omega) hk2
    have v1 := val_grid (u := u) (k := keptN t d + 1) (by omega) (by omega)
    rw [← Nat.add_assoc] at v1
    generalize keptN t d = k at *
    have m0 : 2 * val (u * 4503599627370496 + k) = (2 * k) * 2 ^ u := by rw [v0, Nat.mul_assoc]
    have m2 : 2 * val (u * 4503599627370496 + k + 1) = (2 * k + 2) * 2 ^ u := by rw [v1, ← Nat.mul_assoc, Nat.mul_add]
    have m1 : val (u * 4503599627370496 + k) + val (u * 4503599627370496 + k + 1) = (2 * k + 1) * 2 ^ u := by rw [v0, v1, ← Nat.add_mul]; congr 1; omega
    have par : (u * 4503599627370496 + k) % 2 = k % 2 := by omega
    obtain ⟨r0, r1, r2, r3, r4⟩ := rf
    refine ⟨u * 4503599627370496 + k, ⟨by omega, ?_, Or.inr ?_⟩, ?_, ?_, ?_⟩
    · rw [m0]; exact (grid _).1.2 r3
    · rw [m2]; exact fun c => absurd ((grid _).1.1 c) (by omega)
    · rintro rfl
      have eg : goesN k (restN t d) 0 = false := rfl
      rw [eg, Bool.toNat_false, Nat.add_zero]
    · rintro rfl
      rw [m0]
      have eg : goesN k (restN t d) 2 = decide (restN t d ≠ 0) := rfl
      rw [eg]
      by_cases c : restN t d ≠ 0
      · right
        exact ⟨fun h => r0.1 c ((grid _).2.1 h), by simp [c]⟩
      · left
        exact ⟨(grid _).2.2 (Decidable.not_not.1 (fun h => c (r0.2 h))), by simp [Decidable.not_not.1 c]⟩
    · rintro rfl
      rw [m0, m1, par]
      have eg : goesN k (restN t d) 1 = decide (9223372036854775808 < restN t d ∨ restN t d = 9223372036854775808 ∧ k % 2 = 1) := rfl
      rw [eg]
      by_cases c : restN t d ≠ 0
      · right
        refine ⟨fun h => r0.1 c ((grid _).2.1 h), ?_⟩
        by_cases c2 : restN t d = 9223372036854775808
        · left
          refine ⟨(grid _).2.2 (r2.1 c2), ?_⟩
          by_cases c3 : k % 2 = 0
          · have : ¬ k % 2 = 1 := by omega
            simp [c2, c3]
          · have c4 : k % 2 = 1 := by omega
            simp [c2, c4]
        · right
          refine ⟨fun h => c2 (r2.2 ((grid _).2.1 h)), ?_⟩
          by_cases c3 : 9223372036854775808 < restN t d
          · left
            exact ⟨(grid _).1.2 (Nat.le_of_lt (r1.1 c3)), by simp [c3]⟩
          · right
            refine ⟨fun h => ?_, by simp [c2, c3]⟩
            have := (grid _).1.1 h
            rcases Nat.lt_or_eq_of_le this with c4 | c4
            · exact c3 (r1.2 c4)
            · exact c2 (r2.2 c4)
      · left
        have c0 : restN t d = 0 := Decidable.not_not.1 c
        exact ⟨(grid _).2.2 (Decidable.not_not.1 (fun h => c (r0.2 h))), by simp [c0]⟩

end Go.Proofs.Yteapiigegbdopaa
