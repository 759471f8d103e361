/- Plain facts: quotients and roots, rounded to a side, rise with the exact ones. -/
import Derived.Test.YtmdhgaiklgmmpaaRo
namespace Go.Proofs.Ytmdhgaiklgmmpaa

theorem valz {b : Nat} (zb : isZ b = false) : 0 < val (b % 9223372036854775808) := by
  have h : ¬ b % 9223372036854775808 = 0 := by simpa [isZ] using zb
  have := val_mono (show 0 < b % 9223372036854775808 by omega)
  rw [val_zero] at this
  exact this

/-- The quotient's exact number, by its divisor's amount. -/
theorem div_pos_down {u : Nat} (hu : u = 1075) {a b : Nat} (ha : a < 18446744073709551616) (hb : b < 18446744073709551616) (fa : finB a = true) (fb : finB b = true) (kb : 0 < key b) :
    KDown (exQ (V (key a) * ((2 ^ u : Nat) : Int)) (V (key b)).toNat) (key (divF a b (-1))) := by
  have zb : isZ b = false := by
    cases h : isZ b
    · rfl
    · have := (key_zero hb).1 h; omega
  have gb : splitG b = false := by
    unfold splitG
    unfold key at kb
    simp only [decide_eq_false_iff_not]
    split at kb <;> omega
  have h := divF_down hu ha fa fb zb
  rw [gb] at h
  have e : (V (key b)).toNat = val (b % 9223372036854775808) := by rw [key_val hb, gb]; simp
  rw [e]
  simpa using h

theorem div_flip {a b : Nat} (ha : a < 18446744073709551616) (hb : b < 18446744073709551616) (fa : finB a = true) (fb : finB b = true) (zb : isZ b = false) : key (divF (negB a) (negB b) (-1)) = key (divF a b (-1)) := by
  obtain ⟨u, hu⟩ : ∃ u : Nat, u = 1075 := ⟨_, rfl⟩
  have h1 := divF_down hu ha fa fb zb
  have h2 := divF_down hu (negB_lt ha) (by rw [finB_negB ha]; exact fa) (by rw [finB_negB hb]; exact fb) (by rw [isZ_negB hb]; exact zb)
  rw [splitG_negB hb (splitM_zero zb), key_negB ha, V_neg, mod_negB hb] at h2
  have e : (if (!splitG b) = true then -(-V (key a)) else -V (key a)) = (if splitG b = true then -V (key a) else V (key a)) := by
    cases splitG b <;> simp
  rw [e] at h2
  have ok := exQ_ok ((if splitG b = true then -V (key a) else V (key a)) * ((2 ^ u : Nat) : Int)) (valz zb)
  exact Int.le_antisymm (kdown_mono ok (fun _ c => c) h2 h1) (kdown_mono ok (fun _ c => c) h1 h2)

theorem div_le {p q a b : Nat} (hp : p < 18446744073709551616) (hq : q < 18446744073709551616) (ha : a < 18446744073709551616) (hb : b < 18446744073709551616) (fp : finB p = true) (fq : finB q = true) (fa : finB a = true) (fb : finB b = true) (kq : 0 < key q) (kb : 0 < key b)
    (h : V (key p) * V (key b) ≤ V (key a) * V (key q)) : key (divF p q (-1)) ≤ key (divF a b (-1)) := by
  obtain ⟨u, hu⟩ : ∃ u : Nat, u = 1075 := ⟨_, rfl⟩
  have h1 := div_pos_down hu hp hq fp fq kq
  have h2 := div_pos_down hu ha hb fa fb kb
  have vq := V_pos kq
  have vb := V_pos kb
  have eq : ((V (key q)).toNat : Int) = V (key q) := by omega
  have eb : ((V (key b)).toNat : Int) = V (key b) := by omega
  have hc : (0 : Int) ≤ ((2 ^ u : Nat) : Int) := Int.natCast_nonneg _
  clear hu
  generalize ((2 ^ u : Nat) : Int) = c at *
  refine kdown_mono (exQ_ok _ (by omega)) (fun k hk => ?_) h1 h2
  have hk : k * ((V (key q)).toNat : Int) ≤ V (key p) * c := hk
  show k * ((V (key b)).toNat : Int) ≤ V (key a) * c
  rw [eq] at hk
  rw [eb]
  generalize V (key p) = P at *
  generalize V (key q) = Q at *
  generalize V (key a) = A at *
  generalize V (key b) = B at *
  have s1 : k * Q * B ≤ P * c * B := Int.mul_le_mul_of_nonneg_right hk (by omega)
  have s2 : P * B * c ≤ A * Q * c := Int.mul_le_mul_of_nonneg_right h hc
  have s3 : k * B * Q ≤ A * c * Q := by
    have e1 : k * Q * B = k * B * Q := Int.mul_right_comm _ _ _
    have e2 : P * c * B = P * B * c := Int.mul_right_comm _ _ _
    have e3 : A * Q * c = A * c * Q := Int.mul_right_comm _ _ _
    rw [e1, e2] at s1
    rw [e3] at s2
    exact Int.le_trans s1 s2
  exact Int.le_of_mul_le_mul_right s3 vq

theorem div_bot {u : Nat} (hu : u = 1075) {a b : Nat} (ha : a < 18446744073709551616) (fa : finB a = true) (fb : finB b = true) (zb : isZ b = false) : -9218868437227405312 ≤ key (divF a b (-1)) ∧ key (divF a b (-1)) ≤ 9218868437227405311 :=
  ⟨(divF_down hu ha fa fb zb).bot, (divF_down hu ha fa fb zb).top⟩

theorem div_nonneg {a b : Nat} (ha : a < 18446744073709551616) (hb : b < 18446744073709551616) (fa : finB a = true) (fb : finB b = true) (ka : 0 ≤ key a) (kb : 0 < key b) : 0 ≤ key (divF a b (-1)) := by
  obtain ⟨u, hu⟩ : ∃ u : Nat, u = 1075 := ⟨_, rfl⟩
  have h2 := div_pos_down hu ha hb fa fb kb
  have vb := V_pos kb
  have va := V_nonneg ka
  have hc : (0 : Int) ≤ ((2 ^ u : Nat) : Int) := Int.natCast_nonneg _
  clear hu
  generalize ((2 ^ u : Nat) : Int) = c at *
  have h0 : KDown (exQ 0 (V (key b)).toNat) 0 := kdown_zero (exQ_ok 0 (by omega)) (by simp [exQ]) (by simp [exQ])
  exact kdown_mono (exQ_ok _ (by omega)) (exQ_le (Int.mul_nonneg va hc)) h0 h2

/-- The place of the least float that is not below; never that of -Inf; above all it is that of +Inf. -/
structure KUp (x : Ex) (k : Int) : Prop where
  low : k = 9218868437227405312 ∨ x.ge (2 * V k)
  up : ¬ x.ge (2 * V (k - 1))
  top : k ≤ 9218868437227405312

theorem kup_mono {x y : Ex} (okx : x.Ok) (h : ∀ h, y.ge h → x.ge h) {k l : Int} (hk : KUp x k) (hl : KUp y l) : k ≤ l := by
  rcases Int.lt_or_le l k with c | c
  · exfalso
    rcases hl.low with e | e
    · have := hk.top; omega
    · exact hk.up (okx.up (by have := V_mono_le (show l ≤ k - 1 by omega); omega) (h _ e))
  · exact c

theorem sqrt_mono_down {a c : Nat} (ha : a < 18446744073709551616) (hc : c < 18446744073709551616) (fa : finB a = true) (fc : finB c = true) (ka : 0 ≤ key a) (h : key a ≤ key c) : key (sqrtF a (-1)) ≤ key (sqrtF c (-1)) := by
  obtain ⟨u, hu⟩ : ∃ u : Nat, u = 1076 := ⟨_, rfl⟩
  refine kdown_mono (exS_ok _) (fun k hk => ?_) (sqrtF_down hu fa) (sqrtF_down hu fc)
  have hle : val (a % 9223372036854775808) ≤ val (c % 9223372036854775808) := by
    have e : a % 9223372036854775808 ≤ c % 9223372036854775808 := by
      unfold key at ka h
      split at ka <;> split at h <;> (try split at h) <;> omega
    rcases Nat.lt_or_eq_of_le e with l | l
    · exact Nat.le_of_lt (val_mono l)
    · rw [l]; exact Nat.le_refl _
  have hm := Nat.mul_le_mul_right (2 ^ u) hle
  clear hu
  rcases hk with hk | hk
  · exact Or.inl hk
  · exact Or.inr (Int.le_trans hk (by exact_mod_cast hm))

end Go.Proofs.Ytmdhgaiklgmmpaa
