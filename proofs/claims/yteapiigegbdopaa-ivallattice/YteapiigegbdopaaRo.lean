/- Plain facts: sums, products, quotients and roots, rounded to a side, rise with the exact ones; infinite ends too. -/
import Derived.Test.YteapiigegbdopaaRt
namespace Go.Proofs.Yteapiigegbdopaa

theorem key_inf {x : Nat} (hx : x < 18446744073709551616) (hn : nanB x = false) : finB x = false ↔ (key x = 9218868437227405312 ∨ key x = -9218868437227405312) := by
  have h1 : ¬ 9218868437227405312 < x % 9223372036854775808 := by simpa [nanB] using hn
  unfold finB key
  simp only [decide_eq_false_iff_not]
  split <;> omega
theorem fin_key {x : Nat} (hx : x < 18446744073709551616) (hf : finB x = true) : -9218868437227405311 ≤ key x ∧ key x ≤ 9218868437227405311 := by
  have h1 : x % 9223372036854775808 < 9218868437227405312 := by simpa [finB] using hf
  unfold key; split <;> omega
theorem key_zero {x : Nat} (hx : x < 18446744073709551616) : isZ x = true ↔ key x = 0 := by
  unfold isZ key
  simp only [decide_eq_true_eq]
  split <;> omega
theorem V_inj0 {k : Int} : V k = 0 ↔ k = 0 := by
  constructor
  · intro h
    rcases Int.lt_trichotomy k 0 with c | c | c
    · have := V_lt0 c; omega
    · exact c
    · have := V_pos c; omega
  · rintro rfl; rfl
theorem sign_key {x : Nat} (hx : x < 18446744073709551616) (hz : isZ x = false) : signB x = decide (key x < 0) := by
  have h : ¬ x % 9223372036854775808 = 0 := by simpa [isZ] using hz
  unfold signB key
  rw [Bool.eq_iff_iff]
  simp only [decide_eq_true_eq]
  split <;> omega
theorem infW_key (g : Bool) : key (infW g) = if g then -9218868437227405312 else 9218868437227405312 := by cases g <;> decide

theorem exQ_le {M N : Int} {D : Nat} (h : M ≤ N) (k : Int) : (exQ M D).le k → (exQ N D).le k := fun c => Int.le_trans c h

/-- SUMS. -/
theorem add_mono {a b c d : Nat} (ha : a < 18446744073709551616) (hb : b < 18446744073709551616) (hc : c < 18446744073709551616) (hd : d < 18446744073709551616) (fa : finB a = true) (fb : finB b = true) (fc : finB c = true) (fd : finB d = true) (h1 : key a ≤ key c) (h2 : key b ≤ key d) :
    key (addF a b (-1)) ≤ key (addF c d (-1)) :=
  kdown_mono (exQ_ok _ (by omega)) (exQ_le (by have := V_mono_le h1; have := V_mono_le h2; omega)) (addF_down ha hb fa fb) (addF_down hc hd fc fd)

/-- PRODUCTS. -/
theorem mulF_zero_le {u : Nat} (hu : u = 1073) {a b : Nat} (ha : a < 18446744073709551616) (hb : b < 18446744073709551616) (fa : finB a = true) (fb : finB b = true) (za : isZ a = false) (zb : isZ b = false) :
    KDown (exQ (V (key a) * V (key b)) (2 ^ u)) (key (mulF a b (-1))) := mulF_down hu ha hb fa fb (splitM_zero za) (splitM_zero zb)

theorem kdown_zero {x : Ex} (ok : x.Ok) (l : x.le 0) (g : x.ge 0) : KDown x 0 := by
  refine ⟨by omega, by omega, Or.inr ?_, Or.inr fun c => ?_⟩
  · rw [V_zero]; exact l
  · have := ok.sep g c
    have h1 := V_pos (show (0 : Int) < 0 + 1 by omega)
    omega

theorem mulR_down {u : Nat} (hu : u = 1073) {a b r : Nat} (ha : a < 18446744073709551616) (hb : b < 18446744073709551616) (fa : finB a = true) (fb : finB b = true) (h : mulR a b (-1) = some r) :
    KDown (exQ (V (key a) * V (key b)) (2 ^ u)) (key r) := by
  unfold mulR at h
  rw [fin_not_nan fa, fin_not_nan fb] at h
  simp only [Bool.or_self, Bool.false_eq_true, if_false] at h
  by_cases z : (isZ a || isZ b) = true
  · rw [if_pos z] at h
    have hz : V (key a) * V (key b) = 0 := by
      rcases Bool.or_eq_true _ _ |>.mp z with c | c
      · rw [(V_inj0).2 ((key_zero ha).1 c), Int.zero_mul]
      · rw [(V_inj0).2 ((key_zero hb).1 c), Int.mul_zero]
    obtain rfl : 0 = r := by injection h
    rw [hz]
    have k0 : key 0 = 0 := rfl
    rw [k0]
    exact kdown_zero (exQ_ok 0 (Nat.two_pow_pos u)) (by simp [exQ]) (by simp [exQ])
  · have z' : (isZ a || isZ b) = false := by simpa using z
    rw [z', fa, fb] at h
    simp only [Bool.false_eq_true, if_false, Bool.and_self, if_true] at h
    obtain rfl : mulF a b (-1) = r := by injection h
    have z2 := Bool.or_eq_false_iff.1 z'
    exact mulF_zero_le hu ha hb fa fb z2.1 z2.2

theorem mulR_inf {p q r : Nat} {d : Int} (hp : p < 18446744073709551616) (hq : q < 18446744073709551616) (np : nanB p = false) (nq : nanB q = false) (hf : (finB p && finB q) = false) (h : mulR p q d = some r) (hle : V (key p) * V (key q) ≤ 0) :
    (V (key p) * V (key q) = 0 ∧ key r = 0) ∨ key r = -9218868437227405312 := by
  unfold mulR at h
  rw [np, nq, hf] at h
  simp only [Bool.or_self, Bool.false_eq_true, if_false] at h
  by_cases z : (isZ p || isZ q) = true
  · rw [if_pos z] at h
    left
    refine ⟨?_, by injection h with h; rw [← h]; rfl⟩
    rcases Bool.or_eq_true _ _ |>.mp z with c | c
    · rw [(V_inj0).2 ((key_zero hp).1 c), Int.zero_mul]
    · rw [(V_inj0).2 ((key_zero hq).1 c), Int.mul_zero]
  · right
    have z' : (isZ p || isZ q) = false := by simpa using z
    rw [z'] at h
    simp only [Bool.false_eq_true, if_false] at h
    injection h with h
    have z2 := Bool.or_eq_false_iff.1 z'
    have kp : key p ≠ 0 := fun c => by rw [(key_zero hp).2 c] at z2; cases z2.1
    have kq : key q ≠ 0 := fun c => by rw [(key_zero hq).2 c] at z2; cases z2.2
    rw [← h, infW_key, sign_key hp z2.1, sign_key hq z2.2]
    rcases Int.lt_or_le (key p) 0 with c1 | c1 <;> rcases Int.lt_or_le (key q) 0 with c2 | c2
    · have := Int.mul_pos_of_neg_of_neg (V_lt0 c1) (V_lt0 c2); omega
    · have c3 : ¬ key q < 0 := by omega
      simp [c1, c3]
    · have c3 : ¬ key p < 0 := by omega
      simp [c2, c3]
    · have := Int.mul_pos (V_pos (show 0 < key p by omega)) (V_pos (show 0 < key q by omega)); omega

theorem mul_le {p q a b r s : Nat} (hp : p < 18446744073709551616) (hq : q < 18446744073709551616) (ha : a < 18446744073709551616) (hb : b < 18446744073709551616) (np : nanB p = false) (nq : nanB q = false) (fa : finB a = true) (fb : finB b = true)
    (hr : mulR p q (-1) = some r) (hs : mulR a b (-1) = some s) (h : V (key p) * V (key q) ≤ V (key a) * V (key b)) (hi : (finB p && finB q) = false → V (key p) * V (key q) ≤ 0) : key r ≤ key s := by
  obtain ⟨u, hu⟩ : ∃ u : Nat, u = 1073 := ⟨_, rfl⟩
  have ks := mulR_down hu ha hb fa fb hs
  by_cases f : (finB p && finB q) = true
  · obtain ⟨fp, fq⟩ := Bool.and_eq_true_iff.1 f
    exact kdown_mono (exQ_ok _ (Nat.two_pow_pos u)) (exQ_le h) (mulR_down hu hp hq fp fq hr) ks
  · have f' : (finB p && finB q) = false := by simpa using f
    rcases mulR_inf hp hq np nq f' hr (hi f') with ⟨e, k⟩ | k
    · rw [k]
      clear hu
      have h0 : KDown (exQ 0 (2 ^ u)) 0 := kdown_zero (exQ_ok 0 (Nat.two_pow_pos u)) (by simp [exQ]) (by simp [exQ])
      exact kdown_mono (exQ_ok _ (Nat.two_pow_pos u)) (exQ_le (by rw [← e]; exact h)) h0 ks
    · rw [k]; exact ks.bot

theorem mul_top {a b s : Nat} (ha : a < 18446744073709551616) (hb : b < 18446744073709551616) (fa : finB a = true) (fb : finB b = true) (hs : mulR a b (-1) = some s) : key s ≤ 9218868437227405311 := by
  obtain ⟨u, hu⟩ : ∃ u : Nat, u = 1073 := ⟨_, rfl⟩
  exact (mulR_down hu ha hb fa fb hs).top

theorem valz {b : Nat} (zb : isZ b = false) : 0 < val (b % 9223372036854775808) := by
  have h : ¬ b % 9223372036854775808 = 0 := by simpa [isZ] using zb
  have := val_mono (show 0 < b % 9223372036854775808 by omega)
  rw [val_zero] at this
  exact this

/-- The quotient's exact number, by its divisor's amount. -/
theorem div_pos_down {u : Nat} (hu : u = 1075) {a b : Nat} (ha : a < 18446744073709551616) (hb : b < 18446744073709551616) (fa : finB a = true) (fb : finB b = true) (kb : 0 < key b) :
    KDown (exQ (V (key a) * ((2 ^ u : Nat) : Int)) (V (key b)).toNat) (key (divF a b (-1))) := by
  have zb : isZ b = false := by
    cases h : isZ b
    · rfl
    · have := (key_zero hb).1 h; omega
  have gb : splitG b = false := by
    unfold splitG
    unfold key at kb
    simp only [decide_eq_false_iff_not]
    split at kb <;> omega
  have h := divF_down hu ha fa fb zb
  rw [gb] at h
  have e : (V (key b)).toNat = val (b % 9223372036854775808) := by rw [key_val hb, gb]; simp
  rw [e]
  simpa using h

theorem div_flip {a b : Nat} (ha : a < 18446744073709551616) (hb : b < 18446744073709551616) (fa : finB a = true) (fb : finB b = true) (zb : isZ b = false) : key (divF (negB a) (negB b) (-1)) = key (divF a b (-1)) := by
  obtain ⟨u, hu⟩ : ∃ u : Nat, u = 1075 := ⟨_, rfl⟩
  have h1 := divF_down hu ha fa fb zb
  have h2 := divF_down hu (negB_lt ha) (by rw [finB_negB ha]; exact fa) (by rw [finB_negB hb]; exact fb) (by rw [isZ_negB hb]; exact zb)
  rw [splitG_negB hb (splitM_zero zb), key_negB ha, V_neg, mod_negB hb] at h2
  have e : (if (!splitG b) = true then -(-V (key a)) else -V (key a)) = (if splitG b = true then -V (key a) else V (key a)) := by
    cases splitG b <;> simp
  rw [e] at h2
  have ok := exQ_ok ((if splitG b = true then -V (key a) else V (key a)) * ((2 ^ u : Nat) : Int)) (valz zb)
  exact Int.le_antisymm (kdown_mono ok (fun _ c => c) h2 h1) (kdown_mono ok (fun _ c => c) h1 h2)

theorem div_le {p q a b : Nat} (hp : p < 18446744073709551616) (hq : q < 18446744073709551616) (ha : a < 18446744073709551616) (hb : b < 18446744073709551616) (fp : finB p = true) (fq : finB q = true) (fa : finB a = true) (fb : finB b = true) (kq : 0 < key q) (kb : 0 < key b)
    (h : V (key p) * V (key b) ≤ V (key a) * V (key q)) : key (divF p q (-1)) ≤ key (divF a b (-1)) := by
  obtain ⟨u, hu⟩ : ∃ u : Nat, u = 1075 := ⟨_, rfl⟩
  have h1 := div_pos_down hu hp hq fp fq kq
  have h2 := div_pos_down hu ha hb fa fb kb
  have vq := V_pos kq
  have vb := V_pos kb
  have eq : ((V (key q)).toNat : Int) = V (key q) := by omega
  have eb : ((V (key b)).toNat : Int) = V (key b) := by omega
  have hc : (0 : Int) ≤ ((2 ^ u : Nat) : Int) := Int.natCast_nonneg _
  clear hu
  generalize ((2 ^ u : Nat) : Int) = c at *
  refine kdown_mono (exQ_ok _ (by omega)) (fun k hk => ?_) h1 h2
  have hk : k * ((V (key q)).toNat : Int) ≤ V (key p) * c := hk
  show k * ((V (key b)).toNat : Int) ≤ V (key a) * c
  rw [eq] at hk
  rw [eb]
  generalize V (key p) = P at *
  generalize V (key q) = Q at *
  generalize V (key a) = A at *
  generalize V (key b) = B at *
  have s1 : k * Q * B ≤ P * c * B := Int.mul_le_mul_of_nonneg_right hk (by omega)
  have s2 : P * B * c ≤ A * Q * c := Int.mul_le_mul_of_nonneg_right h hc
  have s3 : k * B * Q ≤ A * c * Q := by
    have e1 : k * Q * B = k * B * Q := Int.mul_right_comm _ _ _
    have e2 : P * c * B = P * B * c := Int.mul_right_comm _ _ _
    have e3 : A * Q * c = A * c * Q := Int.mul_right_comm _ _ _
    rw [e1, e2] at s1
    rw [e3] at s2
    exact Int.le_trans s1 s2
  exact Int.le_of_mul_le_mul_right s3 vq

theorem div_bot {u : Nat} (hu : u = 1075) {a b : Nat} (ha : a < 18446744073709551616) (fa : finB a = true) (fb : finB b = true) (zb : isZ b = false) : -9218868437227405312 ≤ key (divF a b (-1)) ∧ key (divF a b (-1)) ≤ 9218868437227405311 :=
  ⟨(divF_down hu ha fa fb zb).bot, (divF_down hu ha fa fb zb).top⟩

theorem div_nonneg {a b : Nat} (ha : a < 18446744073709551616) (hb : b < 18446744073709551616) (fa : finB a = true) (fb : finB b = true) (ka : 0 ≤ key a) (kb : 0 < key b) : 0 ≤ key (divF a b (-1)) := by
  obtain ⟨u, hu⟩ : ∃ u : Nat, u = 1075 := ⟨_, rfl⟩
  have h2 := div_pos_down hu ha hb fa fb kb
  have vb := V_pos kb
  have va := V_nonneg ka
  have hc : (0 : Int) ≤ ((2 ^ u : Nat) : Int) := Int.natCast_nonneg _
  clear hu
  generalize ((2 ^ u : Nat) : Int) = c at *
  have h0 : KDown (exQ 0 (V (key b)).toNat) 0 := kdown_zero (exQ_ok 0 (by omega)) (by simp [exQ]) (by simp [exQ])
  exact kdown_mono (exQ_ok _ (by omega)) (exQ_le (Int.mul_nonneg va hc)) h0 h2

/-- The place of the least float that is not below; never that of -Inf; above all it is that of +Inf. -/
structure KUp (x : Ex) (k : Int) : Prop where
  low : k = 9218868437227405312 ∨ x.ge (2 * V k)
  up : ¬ x.ge (2 * V (k - 1))
  top : k ≤ 9218868437227405312

theorem kup_mono {x y : Ex} (okx : x.Ok) (h : ∀ h, y.ge h → x.ge h) {k l : Int} (hk : KUp x k) (hl : KUp y l) : k ≤ l := by
  rcases Int.lt_or_le l k with c | c
  · exfalso
    rcases hl.low with e | e
    · have := hk.top; omega
    · exact hk.up (okx.up (by have := V_mono_le (show l ≤ k - 1 by omega); omega) (h _ e))
  · exact c

theorem sqrt_mono_down {a c : Nat} (ha : a < 18446744073709551616) (hc : c < 18446744073709551616) (fa : finB a = true) (fc : finB c = true) (ka : 0 ≤ key a) (h : key a ≤ key c) : key (sqrtF a (-1)) ≤ key (sqrtF c (-1)) := by
  obtain ⟨u, hu⟩ : ∃ u : Nat, u = 1076 := ⟨_, rfl⟩
  refine kdown_mono (exS_ok _) (fun k hk => ?_) (sqrtF_down hu fa) (sqrtF_down hu fc)
  have hle : val (a % 9223372036854775808) ≤ val (c % 9223372036854775808) := by
    have e : a % 9223372036854775808 ≤ c % 9223372036854775808 := by
      unfold key at ka h
      split at ka <;> split at h <;> (try split at h) <;> omega
    rcases Nat.lt_or_eq_of_le e with l | l
    · exact Nat.le_of_lt (val_mono l)
    · rw [l]; exact Nat.le_refl _
  have hm := Nat.mul_le_mul_right (2 ^ u) hle
  clear hu
  rcases hk with hk | hk
  · exact Or.inl hk
  · exact Or.inr (Int.le_trans hk (by exact_mod_cast hm))

end Go.Proofs.Yteapiigegbdopaa
