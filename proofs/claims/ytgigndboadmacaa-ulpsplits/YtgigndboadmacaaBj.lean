/- The reference's Order: what it answers. -/
import Derived.Test.YtgigndboadmacaaBi
namespace Go.Proofs.Ytgigndboadmacaa
open Go.ChangeShapes Go.WideShapes Go.ChangeAt Go.RowKit

/-- A number with its sign, by its amount. -/
def sgnd (g : Bool) (A : Nat) : Int := if g then -(A : Int) else (A : Int)
def cmpZ (x y : Int) : Int := if x < y then -1 else if y < x then 1 else 0

theorem sgnd_sign {g : Bool} {m A : Nat} (h : A = 0 ↔ m = 0) : (signZ g m < 0 ↔ sgnd g A < 0) ∧ (signZ g m = 0 ↔ sgnd g A = 0) ∧ (0 < signZ g m ↔ 0 < sgnd g A) ∧ (signZ g m = -1 ∨ signZ g m = 0 ∨ signZ g m = 1) := by
  unfold signZ sgnd
  by_cases h0 : m = 0
  · have := h.2 h0
    subst this
    rw [if_pos h0]
    cases g <;> simp
  · have : A ≠ 0 := fun c => h0 (h.1 c)
    rw [if_neg h0]
    cases g <;> simp <;> omega

theorem scale_zero (m t : Nat) : m * 2 ^ t = 0 ↔ m = 0 := by
  have := Nat.two_pow_pos t
  constructor
  · intro h
    rcases Nat.mul_eq_zero.1 h with c | c
    · exact c
    · omega
  · intro h; rw [h, Nat.zero_mul]

theorem zord_differ {g h : Bool} {m n A B : Nat} (hA : A = 0 ↔ m = 0) (hB : B = 0 ↔ n = 0) (hne : signZ g m ≠ signZ h n) :
    signZ g m < signZ h n ∧ cmpZ (sgnd g A) (sgnd h B) = -1 ∨ ¬ signZ g m < signZ h n ∧ cmpZ (sgnd g A) (sgnd h B) = 1 := by
  obtain ⟨a1, a2, a3, a4⟩ := sgnd_sign (g := g) hA
  obtain ⟨b1, b2, b3, b4⟩ := sgnd_sign (g := h) hB
  generalize sgnd g A = x at *
  generalize sgnd h B = y at *
  unfold cmpZ
  by_cases c : signZ g m < signZ h n
  · left
    refine ⟨c, if_pos ?_⟩
    omega
  · right
    refine ⟨c, ?_⟩
    rw [if_neg (by omega), if_pos (by omega)]

theorem zord_zero {g h : Bool} {m n A B : Nat} (hA : A = 0 ↔ m = 0) (hB : B = 0 ↔ n = 0) (h1 : signZ g m = 0) (h2 : signZ h n = 0) : cmpZ (sgnd g A) (sgnd h B) = 0 := by
  obtain ⟨a1, a2, a3, a4⟩ := sgnd_sign (g := g) hA
  obtain ⟨b1, b2, b3, b4⟩ := sgnd_sign (g := h) hB
  unfold cmpZ
  rw [if_neg (by omega), if_neg (by omega)]

theorem cmpZ_sgnd (g : Bool) (A B : Nat) : cmpZ (sgnd g A) (sgnd g B) = if g then -(cmpN A B) else cmpN A B := by
  unfold cmpZ sgnd cmpN
  cases g
  · simp only [Bool.false_eq_true, if_false]
    by_cases h1 : A < B
    · rw [if_pos (by omega), if_pos h1]
    · rw [if_neg (by omega), if_neg h1]
      by_cases h2 : B < A
      · rw [if_pos (by omega), if_pos h2]
      · rw [if_neg (by omega), if_neg h2]
  · simp only [if_true]
    by_cases h1 : A < B
    · rw [if_neg (by omega), if_pos (by omega), if_pos h1]; rfl
    · rw [if_neg h1]
      by_cases h2 : B < A
      · rw [if_pos (by omega), if_pos h2]
      · rw [if_neg (by omega), if_neg (by omega), if_neg h2]; rfl

theorem cmpN_scale (m n t : Nat) : cmpN (m * 2 ^ t) (n * 2 ^ t) = cmpN m n := by
  have hp := Nat.two_pow_pos t
  unfold cmpN
  simp only [Nat.mul_lt_mul_right hp]

theorem bits_less {m n t u : Nat} (hm : m ≠ 0) (hn : n ≠ 0) (h : bitsN m + t < bitsN n + u) : m * 2 ^ t < n * 2 ^ u := by
  obtain ⟨a, ha, a1, a2⟩ := bitsN_low hm
  obtain ⟨b, hb, b1, b2⟩ := bitsN_low hn
  have h1 := Nat.mul_lt_mul_of_pos_right a2 (Nat.two_pow_pos t)
  have h2 := Nat.mul_le_mul_right (2 ^ u) b1
  rw [← Nat.pow_add] at h1 h2
  have h3 := Nat.pow_le_pow_right (show 2 > 0 by omega) (show a + 1 + t ≤ b + u by omega)
  omega

theorem sign_eq {g h : Bool} {m n : Nat} (he : signZ g m = signZ h n) (h0 : signZ g m ≠ 0) : m ≠ 0 ∧ n ≠ 0 ∧ g = h := by
  unfold signZ at *
  by_cases c1 : m = 0
  · rw [if_pos c1] at h0; exact absurd rfl h0
  · by_cases c2 : n = 0
    · rw [if_pos c2] at he; rw [he] at h0; exact absurd rfl h0
    · rw [if_neg c1, if_neg c2] at he
      refine ⟨c1, c2, ?_⟩
      cases g <;> cases h <;> simp at he ⊢

theorem zord_bits {g : Bool} {m n t u : Nat} (hm : m ≠ 0) (hn : n ≠ 0) :
    (bitsN m + t < bitsN n + u → cmpZ (sgnd g (m * 2 ^ t)) (sgnd g (n * 2 ^ u)) = if g then -(-1) else -1) ∧ (bitsN n + u < bitsN m + t → cmpZ (sgnd g (m * 2 ^ t)) (sgnd g (n * 2 ^ u)) = if g then -1 else 1) := by
  rw [cmpZ_sgnd]
  constructor
  · intro h
    have := bits_less hm hn h
    have e : cmpN (m * 2 ^ t) (n * 2 ^ u) = -1 := by unfold cmpN; rw [if_pos this]
    rw [e]
  · intro h
    have := bits_less hn hm h
    have e : cmpN (m * 2 ^ t) (n * 2 ^ u) = 1 := by unfold cmpN; rw [if_neg (by omega), if_pos this]
    rw [e]

theorem bitsN_le {m K : Nat} (h : m < 2 ^ K) : bitsN m ≤ K := by
  rcases Nat.eq_zero_or_pos m with c | c
  · subst c; simp [bitsN]
  · obtain ⟨b, hb, b1, b2⟩ := bitsN_low (show m ≠ 0 by omega)
    have := (Nat.pow_lt_pow_iff_right (show 1 < 2 by omega)).1 (Nat.lt_of_le_of_lt b1 h)
    omega

theorem pow_scale {m K t u : Nat} (h : m < 2 ^ K) (ht : t ≤ u) : m * 2 ^ t < 2 ^ (K + u) := by
  have h1 := Nat.mul_lt_mul_of_pos_right h (Nat.two_pow_pos t)
  rw [← Nat.pow_add] at h1
  have := Nat.pow_le_pow_right (show 2 > 0 by omega) (show K + t ≤ K + u by omega)
  omega

theorem cmpN_cases (m n : Nat) : cmpN m n = -1 ∨ cmpN m n = 0 ∨ cmpN m n = 1 := by unfold cmpN; split <;> (try split) <;> simp

theorem order_w (g h : Bool) (va vb : Value) (m n K : Nat) (e f S : Int) (hK : K ≤ 500000) (hm : m < 2 ^ K) (hn : n < 2 ^ K) (hS : -50000 ≤ S) (he : S ≤ e ∧ e ≤ 50000) (hf : S ≤ f ∧ f ≤ 50000) (w : World) (ha : BigIs w va m) (hb : BigIs w vb n) :
    Calls Try.prog 70 #[.agg #[.bool g, va, .int .i64 e], .agg #[.bool h, vb, .int .i64 f]] w fun r w' =>
      r = .returned (.int .i64 (cmpZ (sgnd g (m * 2 ^ (e - S).toNat)) (sgnd h (n * 2 ^ (f - S).toNat)))) ∧ Below w.heap.size w w' := by
  have c1 := fun W (hW : Below w.heap.size w W) => sign_w g va m e W (ha.keep hW)
  have c2 := fun W (hW : Below w.heap.size w W) => sign_w h vb n f W (hb.keep hW)
  have b1 := fun W (hW : Below w.heap.size w W) => bits_w va m K (by omega) hm W (ha.keep hW)
  have b2 := fun W (hW : Below w.heap.size w W) => bits_w vb n K (by omega) hn W (hb.keep hW)
  have cl := fun W (hW : Below w.heap.size w W) => level_w g h va vb m n K e f (by omega) hm hn (by omega) (by omega) W (ha.keep hW) (hb.keep hW)
  have x1 := bitsN_le hm
  have x2 := bitsN_le hn
  obtain ⟨ao, l, ca, rfl, -⟩ := ha.shape
  obtain ⟨bo, k, cb, rfl, -⟩ := hb.shape
  by_cases hne : signZ g m = signZ h n
  · by_cases h0 : signZ g m = 0
    · exact order_zero g h ao bo l k ca cb e f _ _ w c1 c2 h0 (hne ▸ h0) _ (zord_zero (scale_zero m _) (scale_zero n _) h0 (hne ▸ h0))
    · obtain ⟨m0, n0, rfl⟩ := sign_eq hne h0
      have h0' : (signZ g m == 0) = false := by rw [beq_eq_false_iff_ne]; exact h0
      rcases Int.lt_trichotomy ((bitsN m : Int) + e) ((bitsN n : Int) + f) with c | c | c
      · exact order_bits g g ao bo l k ca cb _ _ e f _ _ w c1 c2 b1 b2 (by omega) (by omega) (by omega) (by omega) hne h0' _ (-1) (Or.inl ⟨c, rfl⟩) ((zord_bits m0 n0).1 (by omega))
      · have e1 : (e - S).toNat = (e - min e f).toNat + (min e f - S).toNat := by omega
        have e2 : (f - S).toNat = (f - min e f).toNat + (min e f - S).toNat := by omega
        have hc : cmpZ (sgnd g (m * 2 ^ (e - S).toNat)) (sgnd g (n * 2 ^ (f - S).toNat)) = if g then -(cmpN (m * 2 ^ (e - min e f).toNat) (n * 2 ^ (f - min e f).toNat)) else cmpN (m * 2 ^ (e - min e f).toNat) (n * 2 ^ (f - min e f).toNat) := by
          rw [cmpZ_sgnd, e1, e2, Nat.pow_add, Nat.pow_add, ← Nat.mul_assoc, ← Nat.mul_assoc, cmpN_scale]
        exact order_cmp g g ao bo l k ca cb _ _ e f _ _ w c1 c2 b1 b2 (by omega) (by omega) (by omega) (by omega) hne h0' _ _ _ cl _ _ (fun W v1 v2 h1 h2 => cmp_w v1 v2 _ _ (K + 100000) (by omega) (pow_scale hm (by omega)) (pow_scale hn (by omega)) W h1 h2) c (cmpN_cases _ _) hc
      · exact order_bits g g ao bo l k ca cb _ _ e f _ _ w c1 c2 b1 b2 (by omega) (by omega) (by omega) (by omega) hne h0' _ 1 (Or.inr ⟨c, rfl⟩) ((zord_bits m0 n0).2 (by omega))
  · have h0' : (signZ g m == signZ h n) = false := by rw [beq_eq_false_iff_ne]; exact hne
    exact order_differ g h ao bo l k ca cb e f _ _ w c1 c2 h0' _ (zord_differ (scale_zero m _) (scale_zero n _) hne)

end Go.Proofs.Ytgigndboadmacaa
