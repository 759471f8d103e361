/- Plain facts: quotients and roots, rounded down, are the exact ones' places. -/
import Derived.Test.YteapiigegbdopaaRs
import Derived.Test.YteapiigegbdopaaSf
namespace Go.Proofs.Yteapiigegbdopaa

theorem roundN_zero (g : Bool) (e e' dir : Int) : roundN g 0 e dir = roundN g 0 e' dir := by unfold roundN; rw [if_pos rfl, if_pos rfl]

theorem quo_abs {Ap c : Nat} {gp gq : Bool} : ((if gq then -(if gp then -(Ap : Int) else Ap) else (if gp then -(Ap : Int) else Ap)) * (c : Int)).natAbs = Ap * c ∧
    (if gp != gq then (if gq then -(if gp then -(Ap : Int) else Ap) else (if gp then -(Ap : Int) else Ap)) * (c : Int) ≤ 0 else 0 ≤ (if gq then -(if gp then -(Ap : Int) else Ap) else (if gp then -(Ap : Int) else Ap)) * (c : Int)) := by
  have e : ((Ap : Int) * (c : Int)) = ((Ap * c : Nat) : Int) := by simp
  cases gp <;> cases gq <;> simp only [Bool.false_eq_true, if_false, if_true, Int.neg_mul, Int.neg_neg, e, bne_self_eq_false, Bool.bne_true, Bool.not_false, Bool.bne_false] <;> constructor <;> omega

/-- THE QUOTIENT, ROUNDED DOWN, IS THE EXACT ONE'S PLACE. -/
theorem divF_down {u : Nat} (hu : u = 1075) {a b : Nat} (ha : a < 18446744073709551616) (fa : finB a = true) (fb : finB b = true) (zb : isZ b = false) :
    KDown (exQ ((if splitG b then -V (key a) else V (key a)) * ((2 ^ u : Nat) : Int)) (val (b % 9223372036854775808))) (key (divF a b (-1))) := by
  have ea := splitE_bounds fa
  have eb := splitE_bounds fb
  have la := splitM_lt a
  have lb := splitM_lt b
  have hm := divM_lt (a := a) zb
  have zb := splitM_zero zb
  have tb := topN_bounds zb (by omega)
  rw [signed_val ha fa, split_val fb]
  unfold divF
  generalize splitG a = gp at *
  generalize splitG b = gq at *
  generalize splitM a = mp at *
  generalize splitM b = mq at *
  generalize splitE a = ep at *
  generalize splitE b = eq at *
  obtain ⟨P, hP⟩ : ∃ P : Nat, (P : Int) = ep + 1074 := ⟨(ep + 1074).toNat, by omega⟩
  obtain ⟨Q, hQ⟩ : ∃ Q : Nat, (Q : Int) = eq + 1074 := ⟨(eq + 1074).toNat, by omega⟩
  have tP : (ep + 1074).toNat = P := by omega
  have tQ : (eq + 1074).toNat = Q := by omega
  rw [tP, tQ]
  have z0 : mp = 0 → (if gq then -(if gp then -((mp * 2 ^ P : Nat) : Int) else (mp * 2 ^ P : Nat)) else (if gp then -((mp * 2 ^ P : Nat) : Int) else (mp * 2 ^ P : Nat))) * ((2 ^ u : Nat) : Int) = 0 := by
    rintro rfl
    cases gp <;> cases gq <;> simp
  obtain ⟨a1, a2⟩ := quo_abs (Ap := mp * 2 ^ P) (c := 2 ^ u) (gp := gp) (gq := gq)
  generalize (if gq then -(if gp then -((mp * 2 ^ P : Nat) : Int) else (mp * 2 ^ P : Nat)) else (if gp then -((mp * 2 ^ P : Nat) : Int) else (mp * 2 ^ P : Nat))) * ((2 ^ u : Nat) : Int) = N at *
  have sp := shift_le mp
  have sq := shift_le mq
  have hDD : 0 < mq * 2 ^ Q := Nat.mul_pos (by omega) (Nat.two_pow_pos Q)
  by_cases za : mp = 0
  · have : N = 0 := z0 za
    subst this
    have t0 : topN 0 = 0 := by unfold topN; simp
    have q0 : quoM mp mq = 0 := by rw [za]; unfold quoM; rw [t0, Nat.zero_mul, Nat.zero_div, Nat.zero_mod]; rfl
    rw [q0]
    rw [roundN_zero _ _ 0]
    refine round_down (exQ_ok 0 hDD) (by omega) (by omega) (fun _ => ⟨by simp [exQ], by simp [exQ]⟩) ?_ (fun h => absurd rfl h)
    cases (gp != gq) <;> simp [exQ]
  · have ta := topN_bounds za (by omega)
    have big : 36028797018963968 ≤ topN mp * 9223372036854775808 / topN mq := by
      rw [Nat.le_div_iff_mul_le (by omega)]
      omega
    have hz : quoM mp mq ≠ 0 := by
      intro h
      rcases mark_near (topN mp * 9223372036854775808) (topN mq) (by omega) (show quoM mp mq = _ from rfl) with ⟨-, e⟩ | ⟨-, e, -⟩
      · rw [h, Nat.zero_mul] at e; omega
      · omega
    have d63 : (9223372036854775808 : Nat) = 2 ^ 63 := rfl
    have hT : topN mp * 9223372036854775808 * 2 ^ (P + u + shiftN mq) = (mp * 2 ^ P * 2 ^ u) * 2 ^ (shiftN mp + shiftN mq + 63) := by
      rw [top_eq, d63]
      simp only [Nat.pow_add, Nat.mul_comm, Nat.mul_left_comm, Nat.mul_assoc]
    have hmid : ∀ h : Nat, h * 2 ^ (Q + shiftN mp + 63) * topN mq = h * (mq * 2 ^ Q) * 2 ^ (shiftN mp + shiftN mq + 63) := fun h => by
      rw [top_eq]
      simp only [Nat.pow_add, Nat.mul_comm, Nat.mul_left_comm, Nat.mul_assoc]
    refine round_down (exQ_ok N hDD) hm (by unfold quoE; omega) (fun h0 => absurd h0 hz) ?_ (fun _ => near_of (T := topN mp * 9223372036854775808) (D := topN mq) (a := Q + shiftN mp + 63) (b := P + u + shiftN mq) (by omega) (by unfold quoE; omega) (fun h => ?_) (fun h => ?_) rfl (fun _ => big))
    · cases h : (gp != gq)
      · rw [h] at a2; simpa [exQ] using a2
      · rw [h] at a2; simpa [exQ] using a2
    · rw [(amt_Q a2 h).1, a1, hT, hmid, mul_two_pow_le]
    · rw [(amt_Q a2 h).2, a1, hT, hmid, mul_two_pow_eq]

/-- The root of N, in halves of the least float. -/
def exS (N : Nat) : Ex := ⟨fun h => h ≤ 0 ∨ h * h ≤ N, fun h => 0 ≤ h ∧ (N : Int) ≤ h * h⟩
theorem sq_le {h k : Int} (h0 : 0 ≤ h) (hk : h ≤ k) : h * h ≤ k * k := Int.mul_le_mul hk hk h0 (by omega)
theorem sq_lt {h k : Int} (h0 : 0 ≤ h) (hk : h < k) : h * h < k * k := by
  have h1 := sq_le h0 (show h ≤ k by omega)
  have h2 : h * k < k * k := Int.mul_lt_mul_of_pos_right hk (by omega)
  have h3 : h * h ≤ h * k := Int.mul_le_mul_of_nonneg_left (by omega) h0
  omega
theorem exS_ok (N : Nat) : (exS N).Ok where
  down := fun {h k} c d => by
    rcases d with d | d
    · left; omega
    · by_cases h0 : h ≤ 0
      · exact Or.inl h0
      · exact Or.inr (Int.le_trans (sq_le (by omega) c) d)
  total := fun h => by
    by_cases h0 : h ≤ 0
    · exact Or.inl (Or.inl h0)
    · rcases Int.le_total (h * h) N with c | c
      · exact Or.inl (Or.inr c)
      · exact Or.inr ⟨by omega, c⟩
  sep := fun {h k} c d => by
    rcases d with d | d
    · have := c.1; omega
    · rcases Int.lt_or_le h k with e | e
      · have := sq_lt c.1 e
        have := c.2
        omega
      · exact e

theorem amt_S {N : Nat} (h : Nat) : (((exS N).amt false).le h ↔ h * h ≤ N) ∧ (((exS N).amt false).eq h ↔ h * h = N) := by
  have e : ((h * h : Nat) : Int) = (h : Int) * (h : Int) := by simp
  have l : ((exS N).amt false).le h ↔ ((h : Int) ≤ 0 ∨ (h : Int) * h ≤ N) := Iff.rfl
  have q : ((exS N).amt false).eq h ↔ (((h : Int) ≤ 0 ∨ (h : Int) * h ≤ N) ∧ (0 ≤ (h : Int) ∧ (N : Int) ≤ (h : Int) * h)) := Iff.rfl
  have z : h = 0 → h * h = 0 := by rintro rfl; rfl
  rw [l, q, ← e]
  constructor
  · constructor
    · rintro (c | c)
      · have := z (by omega); omega
      · omega
    · intro c; right; omega
  · constructor
    · rintro ⟨c | c, d⟩
      · have := z (by omega); omega
      · omega
    · intro c; exact ⟨Or.inr (by omega), by omega, by omega⟩

theorem root_near {C : Cut} {N r b M : Nat} {E : Int} (hab : (b : Int) = E + 1075) (hle : ∀ h, C.le h ↔ h * h ≤ N * 2 ^ (2 * b)) (heq : ∀ h, C.eq h ↔ h * h = N * 2 ^ (2 * b))
    (hr : IsRoot N r) (hM : M = markN r (!decide (r * r = N))) (big : 36028797018963968 ≤ r) : Near M E C := by
  obtain ⟨r1, r2⟩ := hr
  have p2 : (2 : Nat) ^ (2 * b) = 2 ^ b * 2 ^ b := by rw [← Nat.pow_add]; congr 1; omega
  have sq : ∀ m : Nat, m * m * 2 ^ (2 * b) = (m * 2 ^ b) * (m * 2 ^ b) := fun m => by
    rw [p2]; simp only [Nat.mul_comm, Nat.mul_left_comm, Nat.mul_assoc]
  have mono : ∀ x y : Nat, x * x ≤ y * y ↔ x ≤ y := fun x y => Nat.mul_self_le_mul_self_iff
  have p := Nat.two_pow_pos (2 * b)
  refine ⟨0, b, by omega, ?_⟩
  by_cases e : r * r = N
  · left
    have hM2 : M = r := by rw [hM]; simp [e, markN]
    subst hM2
    intro h
    rw [hle h, heq h, ← e, sq, mono, Nat.pow_zero, Nat.mul_one]
    refine ⟨Iff.rfl, ⟨fun c => ?_, fun c => by rw [c]⟩⟩
    exact Nat.le_antisymm ((mono _ _).1 (by omega)) ((mono _ _).1 (by omega))
  · right
    have hM2 : M = r / 2 * 2 + 1 := by rw [hM]; simp [e, markN]
    have l1 : r * r * 2 ^ (2 * b) < N * 2 ^ (2 * b) := Nat.mul_lt_mul_of_pos_right (by omega) p
    have l2 : N * 2 ^ (2 * b) < (r + 1) * (r + 1) * 2 ^ (2 * b) := Nat.mul_lt_mul_of_pos_right r2 p
    rw [sq] at l1 l2
    refine ⟨by omega, by omega, fun h => ⟨fun c => ?_, fun c => ?_⟩⟩
    · rw [hle h, heq h]
      rw [Nat.pow_zero, Nat.mul_one] at c
      have c1 : h ≤ r * 2 ^ b := Nat.le_trans c (Nat.mul_le_mul_right _ (by omega))
      have := (mono _ _).2 c1
      exact ⟨by omega, by omega⟩
    · rw [hle h, heq h]
      rw [Nat.pow_zero, Nat.mul_one] at c
      have c1 : (r + 1) * 2 ^ b ≤ h := Nat.le_trans (Nat.mul_le_mul_right _ (by omega)) c
      have := (mono _ _).2 c1
      exact ⟨by omega, by omega⟩

theorem rootW_eq {m : Nat} {e : Int} (h0 : m ≠ 0) (hm : m < 9007199254740992) (he : -1074 ≤ e ∧ e ≤ 971) :
    ∃ f : Int, rootF m e = 2 * f ∧ -600 ≤ f ∧ f ≤ 600 ∧ 4611686018427387904 ≤ rootW m e ∧ rootW m e < 18446744073709551616 ∧ ∀ b : Nat, (b : Int) = f + 1043 → m * 2 ^ (e + 2150).toNat = rootW m e * 18446744073709551616 * 2 ^ (2 * b) := by
  have ht := topN_bounds h0 (by omega)
  have sh := shift_le m
  have s11 : 11 ≤ shiftN m := by
    have : m.log2 < 53 := (Nat.log2_lt h0).2 hm
    unfold shiftN; omega
  have te := top_eq m
  unfold rootF rootW
  by_cases c : (e - shiftN m) % 2 = 1
  · rw [if_pos c, if_pos c]
    have ev : topN m = topN m / 2 * 2 := by
      rw [te]
      have : 2 ^ shiftN m = 2 * 2 ^ (shiftN m - 1) := by rw [← Nat.pow_succ']; congr 1; omega
      rw [this, ← Nat.mul_assoc, Nat.mul_right_comm]
      omega
    refine ⟨(e - shiftN m + 1) / 2, by omega, by omega, by omega, by omega, by omega, fun b hb => ?_⟩
    have d64 : (18446744073709551616 : Nat) = 2 ^ 64 := rfl
    have x1 : m * 2 ^ shiftN m * 2 ^ (e + 2150 - shiftN m).toNat = m * 2 ^ (e + 2150).toNat := by
      rw [Nat.mul_assoc, ← Nat.pow_add]; congr 2; omega
    rw [← x1, ← te]
    generalize topN m / 2 = h at *
    rw [ev, Nat.mul_assoc, Nat.mul_assoc, d64, ← Nat.pow_succ', ← Nat.pow_add]
    congr 2; omega
  · rw [if_neg c, if_neg c]
    refine ⟨(e - shiftN m) / 2, by omega, by omega, by omega, by omega, by omega, fun b hb => ?_⟩
    have d64 : (18446744073709551616 : Nat) = 2 ^ 64 := rfl
    have x1 : m * 2 ^ shiftN m * 2 ^ (e + 2150 - shiftN m).toNat = m * 2 ^ (e + 2150).toNat := by
      rw [Nat.mul_assoc, ← Nat.pow_add]; congr 2; omega
    rw [← x1, ← te, d64, Nat.mul_assoc, ← Nat.pow_add]
    congr 2; omega

/-- THE ROOT, ROUNDED DOWN, IS THE EXACT ONE'S PLACE. -/
theorem sqrtF_down {u : Nat} (hu : u = 1076) {a : Nat} (fa : finB a = true) :
    KDown (exS (val (a % 9223372036854775808) * 2 ^ u)) (key (sqrtF a (-1))) := by
  have ea := splitE_bounds fa
  have la := splitM_lt a
  rw [split_val fa]
  unfold sqrtF
  generalize splitM a = m at *
  generalize splitE a = e at *
  have hN : m * 2 ^ (e + 1074).toNat * 2 ^ u = m * 2 ^ (e + 2150).toNat := by
    rw [Nat.mul_assoc, ← Nat.pow_add]; congr 2; omega
  rw [hN]
  by_cases h0 : m = 0
  · subst h0
    rw [rootM_zero, Nat.zero_mul]
    rw [roundN_zero _ _ 0]
    exact round_down (exS_ok 0) (by omega) (by omega) (fun _ => ⟨Or.inl (by omega), by omega, by omega⟩) (Or.inl (by omega)) (fun h => absurd rfl h)
  · obtain ⟨f, hf, f1, f2, w1, w2, hb⟩ := rootW_eq h0 la ea
    obtain ⟨b, hb0⟩ : ∃ b : Nat, (b : Int) = f + 1043 := ⟨(f + 1043).toNat, by omega⟩
    rw [hb b hb0]
    have hr := isqrt_is (rootW m e * 18446744073709551616)
    have big : 36028797018963968 ≤ isqrt (rootW m e * 18446744073709551616) := by
      rcases Nat.lt_or_ge (isqrt (rootW m e * 18446744073709551616)) 36028797018963968 with c | c
      · exfalso
        have h2 := hr.2
        have h3 : (isqrt (rootW m e * 18446744073709551616) + 1) * (isqrt (rootW m e * 18446744073709551616) + 1) ≤ 36028797018963968 * 36028797018963968 := Nat.mul_le_mul (by omega) (by omega)
        omega
      · exact c
    have he : rootE m e = f - 32 := by unfold rootE; rw [hf]; omega
    have hz : rootM m e ≠ 0 := by
      unfold rootM markN
      split <;> omega
    rw [he]
    refine round_down (exS_ok _) (rootM_lt (by omega)) (by omega) (fun h => absurd h hz) (Or.inl (by omega)) (fun _ => ?_)
    exact root_near (N := rootW m e * 18446744073709551616) (r := isqrt (rootW m e * 18446744073709551616)) (b := b) (by omega) (fun h => (amt_S h).1) (fun h => (amt_S h).2) hr rfl big

end Go.Proofs.Yteapiigegbdopaa
