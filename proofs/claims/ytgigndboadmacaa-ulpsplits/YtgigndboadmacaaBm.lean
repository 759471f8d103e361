/- The reference's numbers by what they are worth: Sign, Order, Product and Sum again. -/
import Derived.Test.YtgigndboadmacaaBl
namespace Go.Proofs.Ytgigndboadmacaa
open Go.ChangeShapes Go.WideShapes Go.ChangeAt Go.RowKit

/-- The value x is, in w, a number: z times 2^S; its exponent lies from S to T, its amount below 2^K. -/
def NumZ (S T : Int) (K : Nat) (w : World) (x : Value) (z : Int) : Prop :=
  ∃ g v m e, x = .agg #[.bool g, v, .int .i64 e] ∧ BigIs w v m ∧ m < 2 ^ K ∧ S ≤ e ∧ e ≤ T ∧ sgnd g (m * 2 ^ (e - S).toNat) = z

theorem NumZ.keep {S T : Int} {K : Nat} {w w' : World} {x : Value} {z : Int} (h : NumZ S T K w x z) (hb : Below w.heap.size w w') : NumZ S T K w' x z := by
  obtain ⟨g, v, m, e, h1, h2, h3⟩ := h
  exact ⟨g, v, m, e, h1, h2.keep hb, h3⟩

theorem NumZ.drew {S T : Int} {K : Nat} {w : World} {x : Value} {z : Int} (h : NumZ S T K w x z) : NumZ S T K w.drew x z := h.keep (Below.refl _ _).drew

theorem NumZ.wide {S T T' : Int} {K K' : Nat} {w : World} {x : Value} {z : Int} (h : NumZ S T K w x z) (hT : T ≤ T') (hK : K ≤ K') : NumZ S T' K' w x z := by
  obtain ⟨g, v, m, e, h1, h2, h3, h4, h5, h6⟩ := h
  exact ⟨g, v, m, e, h1, h2, Nat.lt_of_lt_of_le h3 (Nat.pow_le_pow_right (by omega) hK), h4, by omega, h6⟩

theorem NumZ.scale {S T : Int} {K : Nat} {w : World} {x : Value} {z : Int} (h : NumZ S T K w x z) {S' : Int} {t : Nat} (ht : S = S' + t) : NumZ S' T K w x (z * ((2 ^ t : Nat) : Int)) := by
  obtain ⟨g, v, m, e, h1, h2, h3, h4, h5, h6⟩ := h
  refine ⟨g, v, m, e, h1, h2, h3, by omega, h5, ?_⟩
  have e1 : (e - S').toNat = (e - S).toNat + t := by omega
  rw [e1, Nat.pow_add, ← Nat.mul_assoc, sgnd_mul, h6]

theorem NumZ.shape {S T : Int} {K : Nat} {w : World} {x : Value} {z : Int} (h : NumZ S T K w x z) : ∃ g ao l ca e, x = .agg #[.bool g, .slice ao l ca, .int .i64 e] := by
  obtain ⟨g, v, m, e, h1, h2, -⟩ := h
  obtain ⟨ao, l, ca, rfl, -⟩ := h2.shape
  exact ⟨g, ao, l, ca, e, h1⟩

theorem signZ_cmp {g : Bool} {m A : Nat} (h : A = 0 ↔ m = 0) : signZ g m = cmpZ (sgnd g A) 0 := by
  obtain ⟨a1, a2, a3, a4⟩ := sgnd_sign (g := g) h
  generalize sgnd g A = x at *
  unfold cmpZ
  by_cases c1 : x < 0
  · rw [if_pos c1]; omega
  · rw [if_neg c1]
    by_cases c2 : 0 < x
    · rw [if_pos c2]; omega
    · rw [if_neg c2]; omega

theorem sign_z {S T : Int} {K : Nat} {w : World} {x : Value} {z : Int} (h : NumZ S T K w x z) :
    Calls Try.prog 69 #[x] w fun r w' => r = .returned (.int .i64 (cmpZ z 0)) ∧ Below w.heap.size w w' := by
  obtain ⟨g, v, m, e, rfl, h2, h3, h4, h5, rfl⟩ := h
  rw [← signZ_cmp (scale_zero m _)]
  exact sign_w g v m e w h2

theorem order_z {S T : Int} {K : Nat} {w : World} {x y : Value} {a b : Int} (hK : K ≤ 500000) (hS : -50000 ≤ S) (hT : T ≤ 50000) (h1 : NumZ S T K w x a) (h2 : NumZ S T K w y b) :
    Calls Try.prog 70 #[x, y] w fun r w' => r = .returned (.int .i64 (cmpZ a b)) ∧ Below w.heap.size w w' := by
  obtain ⟨g, v, m, e, rfl, a2, a3, a4, a5, rfl⟩ := h1
  obtain ⟨h, u, n, f, rfl, b2, b3, b4, b5, rfl⟩ := h2
  exact order_w g h v u m n K e f S hK a3 b3 hS (by omega) (by omega) w a2 b2

theorem sgnd_prod (g h : Bool) (A B : Nat) : sgnd (g != h) (A * B) = sgnd g A * sgnd h B := by
  unfold sgnd
  cases g <;> cases h <;> simp [Int.neg_mul, Int.mul_neg]

theorem prod_z {S T S' T' : Int} {K : Nat} {w : World} {x y : Value} {a b : Int} (hK : K ≤ 200000) (hS : -25000 ≤ S ∧ T ≤ 25000) (hS' : -25000 ≤ S' ∧ T' ≤ 25000) (h0 : S + S' ≤ 0 ∧ 0 ≤ T + T') (h1 : NumZ S T K w x a) (h2 : NumZ S' T' K w y b) :
    Calls Try.prog 41 #[x, y] w fun r w' => (∃ v, r = .returned v ∧ NumZ (S + S') (T + T') (K + K) w' v (a * b)) ∧ Below w.heap.size w w' := by
  obtain ⟨g, v, m, e, rfl, a2, a3, a4, a5, rfl⟩ := h1
  obtain ⟨h, u, n, f, rfl, b2, b3, b4, b5, rfl⟩ := h2
  refine (prod_w g h v u m n K e f (by omega) a3 b3 (by omega) (by omega) w a2 b2).mono ?_
  rintro _ w' ⟨⟨s, v', E, rfl, hv, z1, z2⟩, hb⟩
  refine ⟨⟨_, rfl, s, v', m * n, E, rfl, hv, ?_, ?_⟩, hb⟩
  · rw [Nat.pow_add]; exact Nat.mul_lt_mul'' a3 b3
  · by_cases c : m * n = 0
    · obtain ⟨rfl, rfl⟩ := z1 c
      refine ⟨by omega, by omega, ?_⟩
      rw [← sgnd_prod]
      have e1 : m * 2 ^ (e - S).toNat * (n * 2 ^ (f - S').toNat) = m * n * (2 ^ (e - S).toNat * 2 ^ (f - S').toNat) := by
        rw [Nat.mul_mul_mul_comm]
      rw [e1, c, Nat.zero_mul, Nat.zero_mul]
      unfold sgnd
      cases (g != h) <;> rfl
    · obtain ⟨rfl, rfl⟩ := z2 c
      refine ⟨by omega, by omega, ?_⟩
      rw [← sgnd_prod]
      have e2 : (e + f - (S + S')).toNat = (e - S).toNat + (f - S').toNat := by omega
      rw [e2, Nat.pow_add, Nat.mul_mul_mul_comm]

theorem sgnd_add_same (g : Bool) (A B : Nat) : sgnd g (A + B) = sgnd g A + sgnd g B := by
  unfold sgnd; cases g <;> simp <;> omega
theorem sgnd_sub (g h : Bool) (hne : g ≠ h) {A B : Nat} (hle : B ≤ A) : sgnd g (A - B) = sgnd g A + sgnd h B := by
  unfold sgnd
  cases g <;> cases h <;> simp at hne ⊢ <;> omega

theorem sum_z {S T : Int} {K L : Nat} {w : World} {x y : Value} {a b : Int} (hK : K ≤ 200000) (hS : -25000 ≤ S ∧ S ≤ 0) (hT : T ≤ 25000 ∧ 0 ≤ T) (hL : (K : Int) + (T - S) + 1 ≤ L) (h1 : NumZ S T K w x a) (h2 : NumZ S T K w y b) :
    Calls Try.prog 36 #[x, y] w fun r w' => (∃ v, r = .returned v ∧ NumZ S T L w' v (a + b)) ∧ Below w.heap.size w w' := by
  have h1' := h1
  have h2' := h2
  obtain ⟨g, v, m, e, rfl, a2, a3, a4, a5, rfl⟩ := h1
  obtain ⟨h, u, n, f, rfl, b2, b3, b4, b5, rfl⟩ := h2
  have zs : ∀ (g : Bool) (t : Nat), sgnd g (0 * t) = 0 := fun g t => by rw [Nat.zero_mul]; unfold sgnd; cases g <;> rfl
  by_cases m0 : m = 0
  · subst m0
    refine (sum_zero_a g h v u n e f w a2 b2).mono ?_
    rintro _ w' ⟨rfl, hb⟩
    rw [zs, Int.zero_add]
    exact ⟨⟨_, rfl, (h2'.wide (Int.le_refl _) (by omega)).keep hb⟩, hb⟩
  · by_cases n0 : n = 0
    · subst n0
      refine (sum_zero_b g h v u m e f m0 w a2 b2).mono ?_
      rintro _ w' ⟨rfl, hb⟩
      rw [zs, Int.add_zero]
      exact ⟨⟨_, rfl, (h1'.wide (Int.le_refl _) (by omega)).keep hb⟩, hb⟩
    · clear h1' h2' zs
      have cl := fun W (hW : Below w.heap.size w W) => level_w g h v u m n K e f (by omega) a3 b3 (by omega) (by omega) W (a2.keep hW) (b2.keep hW)
      obtain ⟨ao, l, ca, rfl, hl⟩ := a2.shape
      obtain ⟨bo, k, cc, rfl, hk⟩ := b2.shape
      have hl0 : ((l : Int) == 0) = false := by rw [beq_eq_false_iff_ne]; intro c; exact m0 (hl.1 (by omega))
      have hk0 : ((k : Int) == 0) = false := by rw [beq_eq_false_iff_ne]; intro c; exact n0 (hk.1 (by omega))
      obtain ⟨E, hE⟩ : ∃ E, E = min e f := ⟨_, rfl⟩
      have e1 : (e - S).toNat = (e - E).toNat + (E - S).toNat := by omega
      have e2 : (f - S).toNat = (f - E).toNat + (E - S).toNat := by omega
      rw [← hE] at cl
      obtain ⟨J, hJ⟩ : ∃ J : Nat, (J : Int) = T - S := ⟨(T - S).toNat, by omega⟩
      have p1 : m * 2 ^ (e - E).toNat < 2 ^ (K + J) := pow_scale a3 (by omega)
      have p2 : n * 2 ^ (f - E).toNat < 2 ^ (K + J) := pow_scale b3 (by omega)
      rw [e1, e2, Nat.pow_add, Nat.pow_add, ← Nat.mul_assoc, ← Nat.mul_assoc]
      generalize m * 2 ^ (e - E).toNat = A at *
      generalize n * 2 ^ (f - E).toNat = B at *
      rw [sgnd_mul g A, sgnd_mul h B, ← Int.add_mul]
      have hKL : 2 ^ (K + J + 1) ≤ 2 ^ L := Nat.pow_le_pow_right (by omega) (by omega)
      rw [Nat.pow_succ] at hKL
      by_cases hgh : g = h
      · refine (sum_same g h ao bo l k ca cc A B e f E w hl0 hk0 cl (A + B) (fun W v1 v2 q1 q2 => plus_w v1 v2 A B (K + J) (by omega) p1 p2 W q1 q2) hgh).mono ?_
        rintro _ w' ⟨⟨v', rfl, hv⟩, hb⟩
        subst hgh
        exact ⟨⟨_, rfl, g, v', A + B, E, rfl, hv, by omega, by omega, by omega, by rw [sgnd_mul, sgnd_add_same]⟩, hb⟩
      · have hgh' : (g == h) = false := by cases g <;> cases h <;> simp at hgh ⊢
        have cm := fun W v1 v2 q1 q2 => cmp_w v1 v2 A B (K + J) (by omega) p1 p2 W q1 q2
        rcases Nat.lt_trichotomy A B with c | c | c
        · refine (sum_lt g h ao bo l k ca cc A B e f E w hl0 hk0 cl (B - A) (fun W v1 v2 q1 q2 => less_w v2 v1 B A (K + J) (by omega) p2 (by omega) W q2 q1) _ cm hgh' (cmpN_lt c)).mono ?_
          rintro _ w' ⟨⟨v', rfl, hv⟩, hb⟩
          exact ⟨⟨_, rfl, h, v', B - A, E, rfl, hv, by omega, by omega, by omega, by rw [sgnd_mul, sgnd_sub h g (fun q => hgh q.symm) (by omega), Int.add_comm]⟩, hb⟩
        · refine (sum_eq g h ao bo l k ca cc A B e f E w hl0 hk0 cl _ cm hgh' (cmpN_eq c)).mono ?_
          rintro _ w' ⟨⟨v', rfl, hv⟩, hb⟩
          subst c
          refine ⟨⟨_, rfl, false, v', 0, 0, rfl, hv, Nat.two_pow_pos _, by omega, by omega, ?_⟩, hb⟩
          rw [← sgnd_sub g h hgh (Nat.le_refl A), Nat.sub_self, sgnd_mul]
          unfold sgnd
          cases g <;> simp
        · refine (sum_gt g h ao bo l k ca cc A B e f E w hl0 hk0 cl (A - B) (fun W v1 v2 q1 q2 => less_w v1 v2 A B (K + J) (by omega) p1 (by omega) W q1 q2) _ cm hgh' (cmpN_gt c)).mono ?_
          rintro _ w' ⟨⟨v', rfl, hv⟩, hb⟩
          exact ⟨⟨_, rfl, g, v', A - B, E, rfl, hv, by omega, by omega, by omega, by rw [sgnd_mul, sgnd_sub g h hgh (by omega)]⟩, hb⟩

end Go.Proofs.Ytgigndboadmacaa
