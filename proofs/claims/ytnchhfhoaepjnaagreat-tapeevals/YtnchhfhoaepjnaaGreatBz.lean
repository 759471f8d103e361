/- The reference's Add and Sub: the exact sum, rounded; the walk of the statement UlpSums. -/
import Derived.Test.YtnchhfhoaepjnaaGreatBv
namespace Go.Proofs.YtnchhfhoaepjnaaGreat
open Go.ChangeShapes Go.WideShapes Go.ChangeAt Go.RowKit

theorem log2_mul_pow {m k : Nat} (h : m ≠ 0) : (m * 2 ^ k).log2 = m.log2 + k := by
  have hp := Nat.two_pow_pos k
  have h0 : m * 2 ^ k ≠ 0 := by
    intro c
    rcases Nat.mul_eq_zero.1 c with c | c
    · exact h c
    · omega
  have a := Nat.log2_self_le h
  have b := @Nat.lt_log2_self m
  have l1 : m.log2 + k ≤ (m * 2 ^ k).log2 := by
    rw [Nat.le_log2 h0, Nat.pow_add]
    exact Nat.mul_le_mul_right _ a
  have l2 : (m * 2 ^ k).log2 < m.log2 + 1 + k := by
    rw [Nat.log2_lt h0, Nat.pow_add]
    exact Nat.mul_lt_mul_of_pos_right b hp
  omega

theorem cut_pow (neg : Bool) (m k : Nat) (h : m ≠ 0) : Ieee.Toward.even.cut neg (m * 2 ^ k) k = m := by
  unfold Ieee.Toward.cut
  have hl := log2_mul_pow (k := k) h
  have hp := Nat.two_pow_pos k
  have e : min k ((m * 2 ^ k).log2 + 2) = k := by omega
  simp only [e, Nat.one_shiftLeft]
  have e1 : m * 2 ^ k / 2 ^ k = m := Nat.mul_div_cancel _ hp
  have e2 : m * 2 ^ k % 2 ^ k = 0 := Nat.mul_mod_left _ _
  rw [e1, e2]
  have e3 : (2 ^ k < 2 * 0 || (2 ^ k == 2 * 0 && m % 2 == 1)) = false := by
    simp
  rw [e3]
  rfl

theorem nearest_parts {m k : Nat} (h : m ≠ 0) (hm : m < 9007199254740992) (hk : k ≤ 2045) (hn : k = 0 ∨ 4503599627370496 ≤ m) (neg : Bool) :
    Ieee.double.nearest neg (m * 2 ^ k) (-1074) = if neg then 9223372036854775808 + (k * 4503599627370496 + m) else k * 4503599627370496 + m := by
  have hp := Nat.two_pow_pos k
  have h0 : m * 2 ^ k ≠ 0 := by
    intro c
    rcases Nat.mul_eq_zero.1 c with c | c
    · exact h c
    · omega
  have hb : Ieee.double.binade = 4503599627370496 := by decide
  have hi : Ieee.double.infRung = 9218868437227405312 := by decide
  have hpl : Ieee.double.leastPlace = -1074 := by decide
  have hf : Ieee.double.fractionBits = 52 := rfl
  have hs : Ieee.double.signWeight = 9223372036854775808 := by decide
  have hl := log2_mul_pow (k := k) h
  have ll : m.log2 < 53 := (Nat.log2_lt h).2 hm
  have lk : k = 0 ∨ m.log2 = 52 := by
    rcases hn with c | c
    · exact Or.inl c
    · right
      have := (Nat.le_log2 h).2 (show 2 ^ 52 ≤ m from c)
      omega
  unfold Ieee.Format.nearest
  rw [if_neg h0]
  simp only [hb, hi, hpl, hf, hl]
  have l1 : max ((-1074 : Int) + ((m.log2 + k : Nat) : Int) - ((52 : Nat) : Int)) (-1074) = -1074 + (k : Int) := by omega
  rw [l1]
  have l2 : ((-1074 : Int) - (-1074 + (k : Int))).toNat = 0 := by omega
  have l3 : ((-1074 : Int) + (k : Int) - -1074).toNat = k := by omega
  rw [l2, l3, Nat.shiftLeft_zero, cut_pow neg m k h, Nat.min_eq_left (by omega)]
  unfold Ieee.Format.word
  rw [hs]

theorem radd_nan (a b : Nat) (dir : Int) (ha : a < 18446744073709551616) (hb : b < 18446744073709551616) (h : nanB a = true ∨ nanB a = false ∧ nanB b = true) (w : World) :
    Calls Tryz.prog 91 #[.float .f64 a, .float .f64 b, .int .i64 dir] w fun x w' => Ans none x ∧ Below w.heap.size w w' := by
  rcases h with h | ⟨h1, h2⟩
  all_goals
    go_enter Tryz.func91, Tryz.ntmps91
    go_wp2_with (first | (go_at_call 101; refine (isNum_w _ (by assumption) _).mono ?_; rintro _ _ ⟨rfl, rfl⟩) | (go_at_call 150; refine (nan_w _).mono ?_; rintro _ _ ⟨rfl, rfl⟩))
    go_ret
    exact ⟨ans_nan, Below.refl _ _⟩

set_option maxHeartbeats 400000 in
theorem radd_inf (a b : Nat) (dir : Int) (ha : a < 18446744073709551616) (hb : b < 18446744073709551616) (na : nanB a = false) (nb : nanB b = false) (R : Option Nat) (hR : ∀ r, R = some r → r < 18446744073709551616)
    (h : finB a = true ∧ finB b = false ∧ R = some b ∨ finB a = false ∧ (FloatKind.f64.format.order a b == some .eq) = true ∧ R = some b ∨ finB a = false ∧ (FloatKind.f64.format.order a b == some .eq) = false ∧ finB b = true ∧ R = some a ∨ finB a = false ∧ (FloatKind.f64.format.order a b == some .eq) = false ∧ finB b = false ∧ R = none) (w : World) :
    Calls Tryz.prog 91 #[.float .f64 a, .float .f64 b, .int .i64 dir] w fun x w' => Ans R x ∧ Below w.heap.size w w' := by
  have ca := fun w => rfinite_w a ha w
  have cb := fun w => rfinite_w b hb w
  have HB : Below w.heap.size w w := Below.refl _ _
  rcases h with ⟨fa, fb, rfl⟩ | ⟨fa, ho, rfl⟩ | ⟨fa, ho, fb, rfl⟩ | ⟨fa, ho, fb, rfl⟩
  · rw [fa] at ca
    rw [fb] at cb
    go_enter Tryz.func91, Tryz.ntmps91
    go_wp2_with (first
      | (go_at_call 101; refine (isNum_w _ (by assumption) _).mono ?_; rintro _ _ ⟨rfl, rfl⟩)
      | (go_at_call_of 151 (Value.float .f64 a); refine (ca _).mono ?_; rintro _ w1 ⟨rfl, hb1⟩; replace HB := later HB hb1; clear hb1)
      | (go_at_call_of 151 (Value.float .f64 b); refine (cb _).mono ?_; rintro _ w2 ⟨rfl, hb1⟩; replace HB := later HB hb1; clear hb1)
      | (go_at_call 150; refine (nan_w _).mono ?_; rintro _ _ ⟨rfl, rfl⟩))
    go_ret
    exact ⟨⟨_, rfl, hR _ rfl, rfl⟩, HB⟩
  · rw [fa] at ca
    go_enter Tryz.func91, Tryz.ntmps91
    go_wp2_with (first
      | (go_at_call 101; refine (isNum_w _ (by assumption) _).mono ?_; rintro _ _ ⟨rfl, rfl⟩)
      | (go_at_call_of 151 (Value.float .f64 a); refine (ca _).mono ?_; rintro _ w1 ⟨rfl, hb1⟩; replace HB := later HB hb1; clear hb1)
      | (go_at_call_of 151 (Value.float .f64 b); refine (cb _).mono ?_; rintro _ w2 ⟨rfl, hb1⟩; replace HB := later HB hb1; clear hb1)
      | (go_at_call 150; refine (nan_w _).mono ?_; rintro _ _ ⟨rfl, rfl⟩))
    go_ret
    exact ⟨⟨_, rfl, hR _ rfl, rfl⟩, HB⟩
  · rw [fa] at ca
    rw [fb] at cb
    go_enter Tryz.func91, Tryz.ntmps91
    go_wp2_with (first
      | (go_at_call 101; refine (isNum_w _ (by assumption) _).mono ?_; rintro _ _ ⟨rfl, rfl⟩)
      | (go_at_call_of 151 (Value.float .f64 a); refine (ca _).mono ?_; rintro _ w1 ⟨rfl, hb1⟩; replace HB := later HB hb1; clear hb1)
      | (go_at_call_of 151 (Value.float .f64 b); refine (cb _).mono ?_; rintro _ w2 ⟨rfl, hb1⟩; replace HB := later HB hb1; clear hb1)
      | (go_at_call 150; refine (nan_w _).mono ?_; rintro _ _ ⟨rfl, rfl⟩))
    go_ret
    exact ⟨⟨_, rfl, hR _ rfl, rfl⟩, HB⟩
  · rw [fa] at ca
    rw [fb] at cb
    go_enter Tryz.func91, Tryz.ntmps91
    go_wp2_with (first
      | (go_at_call 101; refine (isNum_w _ (by assumption) _).mono ?_; rintro _ _ ⟨rfl, rfl⟩)
      | (go_at_call_of 151 (Value.float .f64 a); refine (ca _).mono ?_; rintro _ w1 ⟨rfl, hb1⟩; replace HB := later HB hb1; clear hb1)
      | (go_at_call_of 151 (Value.float .f64 b); refine (cb _).mono ?_; rintro _ w2 ⟨rfl, hb1⟩; replace HB := later HB hb1; clear hb1)
      | (go_at_call 150; refine (nan_w _).mono ?_; rintro _ _ ⟨rfl, rfl⟩))
    go_ret
    exact ⟨ans_nan, HB⟩

set_option maxHeartbeats 1000000 in
theorem radd_fin (a b : Nat) (dir : Int) (ha : a < 18446744073709551616) (hb : b < 18446744073709551616) (fa : finB a = true) (fb : finB b = true) (hlt : addF a b dir < 18446744073709551616) (hnz : addF a b dir ≠ 9223372036854775808) (w : World) :
    Calls Tryz.prog 91 #[.float .f64 a, .float .f64 b, .int .i64 dir] w fun x w' => x = .returned (.float .f64 (addF a b dir)) ∧ Below w.heap.size w w' := by
  have ca := fun w => rfinite_w a ha w
  have cb := fun w => rfinite_w b hb w
  rw [fa] at ca
  rw [fb] at cb
  have na := fin_num fa
  have nb := fin_num fb
  have f0 := fun w => float_z a ha fa w
  have f1 := fun w => float_z b hb fb w
  have hr := addF_is dir ha hb fa fb
  have hok := ofKey_key hlt hnz
  clear hlt hnz
  generalize addF a b dir = M at *
  obtain ⟨L, hL⟩ : ∃ L : Nat, L = 2099 := ⟨_, rfl⟩
  have cp := fun W v0 v1 (h0 : NumZ (-1074) 971 53 W v0 (V (key a))) (h1 : NumZ (-1074) 971 53 W v1 (V (key b))) => sum_z (S := -1074) (T := 971) (K := 53) (L := L) (by omega) (by omega) (by omega) (by omega) h0 h1
  have cw : ∀ W x, NumZ (-1074) 971 L W x (V (key a) + V (key b)) → Calls Tryz.prog 152 #[x, .int .i64 dir] W fun r w' => r = .returned (.float .f64 (ofKey (key M))) ∧ Below W.heap.size W w' := fun W x hx => by
    have h1 := (hx.scale (S' := -1075) (t := 1) (by omega)).wide (T' := 6000) (K' := 20000) (by omega) (by omega)
    rw [show (V (key a) + V (key b)) * ((2 ^ 1 : Nat) : Int) = 2 * (V (key a) + V (key b)) by simp; omega] at h1
    exact whole_x (t := 0) (by omega) (by rw [Nat.pow_zero]; exact hr) h1
  rw [hok] at cw
  clear hr hok hL
  generalize V (key a) = A at *
  generalize V (key b) = B at *
  have HB : Below w.heap.size w w := Below.refl _ _
  go_enter Tryz.func91, Tryz.ntmps91
  go_wp2_with (first
    | (go_at_call 101; refine (isNum_w _ (by assumption) _).mono ?_; rintro _ _ ⟨rfl, rfl⟩)
    | (go_at_call_of 151 (Value.float .f64 a); refine (ca _).mono ?_; rintro _ w1 ⟨rfl, hb1⟩; replace HB := later HB hb1; clear hb1)
    | (go_at_call_of 151 (Value.float .f64 b); refine (cb _).mono ?_; rintro _ w2 ⟨rfl, hb1⟩; replace HB := later HB hb1; clear hb1)
    | (go_at_call_of 154 (Value.float .f64 a); refine (f0 _).mono ?_; rintro _ w3 ⟨⟨v0, rfl, hv0⟩, hb1⟩; replace HB := later HB hb1; clear hb1)
    | (go_at_call_of 154 (Value.float .f64 b); refine (f1 _).mono ?_; rintro _ w4 ⟨⟨v1, rfl, hv1⟩, hb1⟩; replace HB := later HB hb1; replace hv0 := hv0.keep hb1; clear hb1)
    | (go_at_call 153; refine (cp _ _ _ hv0 hv1).mono ?_; rintro _ w5 ⟨⟨v2, rfl, hv2⟩, hb1⟩; replace HB := later HB hb1; clear hb1)
    | (go_at_call 152; refine (cw _ _ hv2).mono ?_; rintro _ w6 ⟨rfl, hb1⟩; replace HB := later HB hb1; clear hb1))
  go_ret
  exact ⟨rfl, HB⟩

theorem radd_facts (a b : Nat) (d : Int) : nanB (addF a b d) = false ∧ addF a b d ≠ 9223372036854775808 ∧ addF a b d < 18446744073709551616 := by
  have hm := sumM_lt (splitG a) (splitM a) (splitE a) (splitG b) (splitM b) (splitE b) (splitM_lt a) (splitM_lt b)
  exact roundN_facts _ _ _ d hm

/-- THE REFERENCE's SUM is the program's. -/
theorem radd_w (a b : Nat) (dir : Int) (ha : a < 18446744073709551616) (hb : b < 18446744073709551616) (w : World) :
    Calls Tryz.prog 91 #[.float .f64 a, .float .f64 b, .int .i64 dir] w fun x w' => Ans (addR a b dir) x ∧ Below w.heap.size w w' := by
  unfold addR
  cases na : nanB a
  · cases nb : nanB b
    · simp only [Bool.or_self, Bool.false_eq_true, if_false]
      have ho := order_eq a b ha hb
      rw [na, nb] at ho
      simp only [Bool.or_self, Bool.false_eq_true, if_false] at ho
      cases fa : finB a
      · have ea := inf_word ha na fa
        cases fb : finB b
        · have eb := inf_word hb nb fb
          have sd : (signB a != signB b) = true ∨ a = b := by
            unfold signB
            generalize decide (9223372036854775808 ≤ a) = s at *
            generalize decide (9223372036854775808 ≤ b) = t at *
            cases s <;> cases t <;> simp_all
          have hne : (signB a != signB b) = true → (FloatKind.f64.format.order a b == some .eq) = false := by
            intro h
            rw [ho]
            unfold signB at h
            have hk : compare (key a) (key b) ≠ .eq := by
              intro c
              have c := Int.compare_eq_eq.1 c
              generalize hs : decide (9223372036854775808 ≤ a) = s at *
              generalize ht : decide (9223372036854775808 ≤ b) = t at *
              cases s <;> cases t <;> simp at h <;> simp only [Bool.false_eq_true, if_false, if_true] at ea eb <;> subst ea <;> subst eb <;> exact absurd c (by decide)
            simp [hk]
          cases hs : (signB a != signB b)
          · rcases sd with h | h
            · rw [h] at hs; cases hs
            · subst h
              simp only [Bool.and_self, Bool.false_eq_true, if_false, Bool.not_false, Bool.and_false]
              exact radd_inf a a dir ha ha na na (some a) (fun r h => by cases h; exact ha) (Or.inr (Or.inl ⟨fa, by rw [ho]; simp, rfl⟩)) w
          · simp only [Bool.and_self, Bool.false_eq_true, if_false, Bool.not_false, if_true]
            exact radd_inf a b dir ha hb na nb none (fun r h => by cases h) (Or.inr (Or.inr (Or.inr ⟨fa, hne hs, fb, rfl⟩))) w
        · have hne : (FloatKind.f64.format.order a b == some .eq) = false := by
            rw [ho]
            have hk : compare (key a) (key b) ≠ .eq := by
              intro c
              have c := Int.compare_eq_eq.1 c
              have h1 : ¬ a % 9223372036854775808 < 9218868437227405312 := by simpa [finB] using fa
              have h2 : b % 9223372036854775808 < 9218868437227405312 := by simpa [finB] using fb
              unfold key at c
              split at c <;> split at c <;> omega
            simp [hk]
          simp only [Bool.false_and, Bool.false_eq_true, if_false, Bool.not_true, Bool.and_false]
          exact radd_inf a b dir ha hb na nb (some a) (fun r h => by cases h; exact ha) (Or.inr (Or.inr (Or.inl ⟨fa, hne, fb, rfl⟩))) w
      · cases fb : finB b
        · simp only [Bool.and_false, Bool.false_eq_true, if_false, Bool.not_true, Bool.false_and, if_true]
          exact radd_inf a b dir ha hb na nb (some b) (fun r h => by cases h; exact hb) (Or.inl ⟨fa, fb, rfl⟩) w
        · simp only [Bool.and_self, if_true]
          have hm := radd_facts a b dir
          exact (radd_fin a b dir ha hb fa fb hm.2.2 hm.2.1 w).mono fun x w' h => ⟨⟨_, h.1, hm.2.2, rfl⟩, h.2⟩
    · simp only [Bool.or_true, if_true]
      exact radd_nan a b dir ha hb (Or.inr ⟨na, nb⟩) w
  · simp only [Bool.true_or, if_true]
    exact radd_nan a b dir ha hb (Or.inl na) w

/-- 0 less a value. -/
def zminus (b : Nat) : Nat := if isZ b then 0 else negB b

theorem read_zero : Ieee.double.read 0 = .number false 0 (-1074) := by decide

theorem sub_bits_fin {b : Nat} (hb : b < 18446744073709551616) (fb : finB b = true) : floatBits .sub .f64 0 b = some (zminus b) := by
  show ((Ieee.double.read 0).sum (Ieee.double.read b).opposite).map Ieee.double.write = _
  have hr : b % 9223372036854775808 < 9218868437227405312 := by simpa [finB] using fb
  have em : b % 4503599627370496 = b % 9223372036854775808 % 4503599627370496 := by omega
  rw [read_zero, read_eq b hb, if_pos hr, em]
  unfold zminus isZ
  have hneg : negB b = if b < 9223372036854775808 then 9223372036854775808 + b % 9223372036854775808 else b % 9223372036854775808 := by unfold negB; split <;> omega
  have hs : (!decide (9223372036854775808 ≤ b)) = decide (b < 9223372036854775808) := by
    by_cases h : b < 9223372036854775808
    · simp [h]
    · simp [h]
      omega
  have hsp : ∃ m k : Nat, (if b % 9223372036854775808 < 4503599627370496 then b % 9223372036854775808 else 4503599627370496 + b % 9223372036854775808 % 4503599627370496) = m ∧ b % 9223372036854775808 / 4503599627370496 - 1 = k ∧ (m = 0 ↔ b % 9223372036854775808 = 0) ∧ m < 9007199254740992 ∧ k ≤ 2045 ∧ (k = 0 ∨ 4503599627370496 ≤ m) ∧ k * 4503599627370496 + m = b % 9223372036854775808 := by
    refine ⟨_, _, rfl, rfl, ?_⟩
    split <;> omega
  obtain ⟨m, k, h1, h2, h3, h4, h5, h6, h7⟩ := hsp
  rw [h1, h2]
  simp only [Ieee.Datum.opposite, Ieee.Datum.sum, hs, Option.map]
  have hbase : min (-1074 : Int) (-1074 + (k : Int)) = -1074 := by omega
  rw [hbase]
  have hk : ((-1074 : Int) + (k : Int) - -1074).toNat = k := by omega
  have h0 : Ieee.signed false 0 ((-1074 : Int) - -1074).toNat = 0 := by decide
  rw [hk, h0, Int.zero_add]
  have hab : (Ieee.signed (decide (b < 9223372036854775808)) m k).natAbs = m * 2 ^ k := by
    unfold Ieee.signed
    rw [Nat.shiftLeft_eq]
    generalize m * 2 ^ k = M
    split <;> omega
  have hp := Nat.two_pow_pos k
  rw [hab]
  by_cases hz : b % 9223372036854775808 = 0
  · have m0 := h3.2 hz
    subst m0
    have e0 : Ieee.signed (decide (b < 9223372036854775808)) 0 k = 0 := by unfold Ieee.signed; simp
    rw [e0, Nat.zero_mul]
    simp only [hz, decide_true, if_true, Bool.false_and]
    rfl
  · have m0 : m ≠ 0 := fun c => hz (h3.1 c)
    have mp : 0 < m * 2 ^ k := Nat.mul_pos (by omega) hp
    have et : Ieee.signed (decide (b < 9223372036854775808)) m k ≠ 0 := by
      intro c; rw [c] at hab; simp at hab; omega
    have es : decide (Ieee.signed (decide (b < 9223372036854775808)) m k < 0) = decide (b < 9223372036854775808) := by
      unfold Ieee.signed
      rw [Nat.shiftLeft_eq]
      generalize m * 2 ^ k = M at *
      by_cases h : b < 9223372036854775808
      · simp [h]; omega
      · simp [h]
    rw [if_neg et, es]
    show some (Ieee.double.nearest _ (m * 2 ^ k) (-1074)) = _
    rw [nearest_parts m0 h4 h5 h6, h7, hneg]
    simp only [hz, decide_false, Bool.false_eq_true, if_false, decide_eq_true_eq]

theorem sub_bits_inf {b : Nat} (hb : b < 18446744073709551616) (nb : nanB b = false) (fb : finB b = false) : floatBits .sub .f64 0 b = some (zminus b) := by
  show ((Ieee.double.read 0).sum (Ieee.double.read b).opposite).map Ieee.double.write = _
  rw [read_zero, read_inf hb nb fb]
  have eb := inf_word hb nb fb
  have hz : isZ b = false := by unfold finB at fb; unfold isZ; simp at fb ⊢; omega
  unfold zminus
  rw [hz]
  simp only [Ieee.Datum.opposite, Ieee.Datum.sum, Option.map, Bool.false_eq_true, if_false]
  show some (Ieee.double.write (.infinity _)) = _
  rw [write_inf]
  generalize decide (9223372036854775808 ≤ b) = s at *
  cases s
  · simp only [Bool.false_eq_true, if_false] at eb
    subst eb
    rfl
  · simp only [if_true] at eb
    subst eb
    rfl

theorem sub_bits_nan {b : Nat} (hb : b < 18446744073709551616) (nb : nanB b = true) : floatBits .sub .f64 0 b = none := by
  show ((Ieee.double.read 0).sum (Ieee.double.read b).opposite).map Ieee.double.write = _
  obtain ⟨s, f, hr⟩ := read_nan hb nb
  rw [read_zero, hr]
  rfl

theorem run_sub_none (t : TypeId) (a b : Nat) (h : floatBits .sub .f64 a b = none) (w : World) :
    (binOp .sub t (.float .f64 a) (.float .f64 b)).run Tryz.prog w = .ok (.float .f64 (nanOf a b w)) w.drew := by
  unfold floatBits at h
  simp only at h
  simp [binOp, Op.floatArith, h, nanOf, Question.forced]

theorem addF_zero (a : Nat) (dir : Int) : addF a 0 dir = addF a 9223372036854775808 dir := by
  have e1 : splitG 0 = splitG 9223372036854775808 := by decide
  have e2 : splitM 0 = splitM 9223372036854775808 := by decide
  have e3 : splitE 0 = splitE 9223372036854775808 := by decide
  unfold addF
  generalize splitG 9223372036854775808 = x at *
  generalize splitM 9223372036854775808 = y at *
  generalize splitE 9223372036854775808 = z at *
  subst e1 e2 e3
  rfl

theorem add_zminus {b : Nat} (hb : b < 18446744073709551616) (a : Nat) (dir : Int) : addR a (zminus b) dir = addR a (negB b) dir := by
  unfold zminus
  cases hz : isZ b
  · simp only [Bool.false_eq_true, if_false]
  · simp only [if_true]
    have h0 : b % 9223372036854775808 = 0 := by unfold isZ at hz; simpa using hz
    have hn : negB b = 0 ∨ negB b = 9223372036854775808 := by unfold negB; split <;> omega
    rcases hn with h | h
    · rw [h]
    · rw [h]
      have e4 := addF_zero a dir
      have e5 : nanB 0 = false := by decide
      have e6 : nanB 9223372036854775808 = false := by decide
      have e7 : finB 0 = true := by decide
      have e8 : finB 9223372036854775808 = true := by decide
      unfold addR
      rw [e5, e6, e7, e8]
      revert e4
      generalize addF a 0 dir = P
      generalize addF a 9223372036854775808 dir = Q
      intro e4
      subst e4
      cases finB a <;> simp

end Go.Proofs.YtnchhfhoaepjnaaGreat
