/- Plain facts on powers: products, one by one, rounded to a side; the reference's amounts. -/
import Derived.Test.YtnchhfhoaepjnaaGreatKc
namespace Go.Proofs.YtnchhfhoaepjnaaGreat
open Go.ChangeShapes Go.WideShapes Go.ChangeAt Go.RowKit

/-- v to the n + 1, worked out by rounded products. -/
def powW (v : Nat) (d : Int) : Nat → Nat
  | 0 => v
  | n + 1 => mulV (powW v d n) v d

theorem pow_num {v : Nat} (d : Int) (hv : v < 18446744073709551616) (nv : nanB v = false) (n : Nat) : nanB (powW v d n) = false ∧ powW v d n < 18446744073709551616 := by
  induction n with
  | zero => exact ⟨nv, hv⟩
  | succ n ih => exact mulV_facts d ih.1 nv

theorem pow_nz {v : Nat} (d : Int) (hv : v < 18446744073709551616) (nv : nanB v = false) (zv : v ≠ 9223372036854775808) (n : Nat) : powW v d n ≠ 9223372036854775808 := by
  cases n with
  | zero => exact zv
  | succ n => exact mulV_nz d (pow_num d hv nv n).1 nv

/-- Products of what is not below 0 are not below 0. -/
theorem mul_nneg {a b : Nat} (d : Int) (hd : d = -1 ∨ d = 1) (ha : a < 18446744073709551616) (hb : b < 18446744073709551616) (na : nanB a = false) (nb : nanB b = false) (ka : 0 ≤ key a) (kb : 0 ≤ key b) : 0 ≤ key (mulV a b d) := by
  have z : ∀ e, mulV 0 b e = 0 := fun e => mulV_zl e (by decide) nb (by decide)
  have k0 : key 0 = 0 := by decide
  rcases hd with rfl | rfl
  · have h := mul_rise (p := 0) (by omega) ha hb (by decide) na nb kb (by rw [k0]; exact ka)
    rw [z, k0] at h
    exact h
  · have n1 : nanB (negB a) = false := by rw [nanB_negB ha]; exact na
    have h := mul_rise (a := 0) (negB_lt ha) (by omega) hb n1 (by decide) nb kb (by rw [k0, key_negB ha]; omega)
    rw [z, k0] at h
    have m := mulV_mirror' ha na nb
    omega

theorem mul_updown {a b : Nat} (ha : a < 18446744073709551616) (hb : b < 18446744073709551616) (na : nanB a = false) (nb : nanB b = false) : key (mulV a b (-1)) ≤ key (mulV a b 1) := by
  cases fa : finB a
  · cases za : isZ a
    · cases zb : isZ b
      · rw [mulV_inf (-1) na nb za zb (by rw [fa]; rfl), mulV_inf 1 na nb za zb (by rw [fa]; rfl)]
        exact Int.le_refl _
      · rw [mulV_zr (-1) na nb zb, mulV_zr 1 na nb zb]
        exact Int.le_refl _
    · rw [mulV_zl (-1) na nb za, mulV_zl 1 na nb za]
      exact Int.le_refl _
  · cases fb : finB b
    · cases za : isZ a
      · cases zb : isZ b
        · rw [mulV_inf (-1) na nb za zb (by rw [fb, Bool.and_false]), mulV_inf 1 na nb za zb (by rw [fb, Bool.and_false])]
          exact Int.le_refl _
        · rw [mulV_zr (-1) na nb zb, mulV_zr 1 na nb zb]
          exact Int.le_refl _
      · rw [mulV_zl (-1) na nb za, mulV_zl 1 na nb za]
        exact Int.le_refl _
    · obtain ⟨s1, s2, -, -⟩ := mulV_sides ha hb fa fb
      exact Int.le_trans s1.le s2.le

theorem pow_nneg {v : Nat} (d : Int) (hd : d = -1 ∨ d = 1) (hv : v < 18446744073709551616) (nv : nanB v = false) (k0 : 0 ≤ key v) (n : Nat) : 0 ≤ key (powW v d n) := by
  induction n with
  | zero => exact k0
  | succ n ih =>
    have f := pow_num d hv nv n
    exact mul_nneg d hd f.2 hv f.1 nv ih k0

theorem fin_of {x : Nat} (hx : x < 18446744073709551616) (nx : nanB x = false) (k0 : 0 ≤ key x) (k1 : key x ≤ 9218868437227405311) : finB x = true := by
  cases h : finB x
  · rcases (key_inf hx nx).1 h with d | d <;> omega
  · rfl

theorem pow_top {v : Nat} (hv : v < 18446744073709551616) (nv : nanB v = false) (k0 : 0 ≤ key v) (k1 : key v ≤ 9218868437227405311) (n : Nat) : key (powW v (-1) n) ≤ 9218868437227405311 := by
  induction n with
  | zero => exact k1
  | succ n ih =>
    have f := pow_num (-1) hv nv n
    have g := pow_nneg (-1) (Or.inl rfl) hv nv k0 n
    exact mul_top f.2 hv (fin_of f.2 f.1 g ih) (fin_of hv nv k0 k1) (mulV_is (-1) f.1 nv)

theorem pow_le {a b : Nat} (ha : a < 18446744073709551616) (hb : b < 18446744073709551616) (na : nanB a = false) (nb : nanB b = false) (k0 : 0 ≤ key a) (k1 : key a ≤ key b) (n : Nat) : key (powW a (-1) n) ≤ key (powW b 1 n) := by
  induction n with
  | zero => exact k1
  | succ n ih =>
    have f := pow_num (-1) ha na n
    have g := pow_num 1 hb nb n
    have q0 := pow_nneg 1 (Or.inr rfl) hb nb (by omega) n
    have s1 := mul_rise f.2 g.2 ha f.1 g.1 na k0 ih
    have s2 := mul_rise ha hb g.2 na nb g.1 q0 k1
    rw [mulV_comm a, mulV_comm b] at s2
    have s3 := mul_updown g.2 hb g.1 nb
    show key (mulV (powW a (-1) n) a (-1)) ≤ key (mulV (powW b 1 n) b 1)
    omega

/-- Amounts. -/
theorem mag_keys {lo hi : Nat} (hl : lo < 18446744073709551616) (hh : hi < 18446744073709551616) (S : Some2 lo hi) : 0 ≤ key (migP lo hi) ∧ key (migP lo hi) ≤ 9218868437227405311 ∧ key (migP lo hi) ≤ key (magP lo hi) ∧ nanB (migP lo hi) = false ∧ nanB (magP lo hi) = false ∧ migP lo hi < 9223372036854775808 ∧ magP lo hi < 9223372036854775808 := by
  have hs := hs_iff.2 S
  have a1 := key_abs hl
  have a2 := key_abs hh
  have n1 := nan_abs lo
  have n2 := nan_abs hi
  rw [S.nl] at n1
  rw [S.nh] at n2
  have w1 : lo % 9223372036854775808 < 9223372036854775808 := Nat.mod_lt _ (by omega)
  have w2 : hi % 9223372036854775808 < 9223372036854775808 := Nat.mod_lt _ (by omega)
  have x1 := maxW_is (a := lo % 9223372036854775808) (b := hi % 9223372036854775808) (by omega) (by omega)
  have x2 := minW_is (a := lo % 9223372036854775808) (b := hi % 9223372036854775808) (by omega) (by omega)
  have kl := S.le
  have k3 := S.lt
  have k4 := S.gt
  unfold migP magP
  rw [hs]
  simp only [if_true]
  rw [x1, x2]
  generalize lo % 9223372036854775808 = A at *
  generalize hi % 9223372036854775808 = B at *
  have kA : 0 ≤ key A := by rw [a1]; split <;> omega
  have kB : 0 ≤ key B := by rw [a2]; split <;> omega
  cases h : hasB lo hi 0
  · simp only [Bool.false_eq_true, if_false]
    have no : ¬ (key lo ≤ 0 ∧ 0 ≤ key hi) := fun c => by
      have : hasB lo hi 0 = true := has_iff.2 ⟨S, by decide, by decide, c.1, c.2⟩
      rw [h] at this
      cases this
    refine ⟨?_, ?_, ?_, ?_, ?_, ?_, ?_⟩
    · split <;> assumption
    · split <;> split at a1 <;> split at a2 <;> omega
    · split <;> split <;> omega
    · split <;> assumption
    · split <;> assumption
    · split <;> assumption
    · split <;> assumption
  · simp only [if_true]
    have e0 : key 0 = 0 := by decide
    refine ⟨by decide, by decide, ?_, by decide, ?_, by omega, ?_⟩
    · rw [e0]; split <;> assumption
    · split <;> assumption
    · split <;> assumption

/-- The even powers' ends hold some number. -/
theorem even_some {lo hi : Nat} (hl : lo < 18446744073709551616) (hh : hi < 18446744073709551616) (S : Some2 lo hi) (n : Nat) : Some2 (powW (migP lo hi) (-1) n) (powW (magP lo hi) 1 n) := by
  obtain ⟨k1, k2, k3, n1, n2, w1, w2⟩ := mag_keys hl hh S
  have f := pow_num (-1) (show migP lo hi < 18446744073709551616 by omega) n1 n
  have g := pow_num 1 (show magP lo hi < 18446744073709551616 by omega) n2 n
  have t := pow_top (by omega) n1 k1 k2 n
  have u := pow_nneg 1 (Or.inr rfl) (show magP lo hi < 18446744073709551616 by omega) n2 (by omega) n
  exact ⟨f.1, g.1, pow_le (by omega) (by omega) n1 n2 k1 k3 n, by omega, by omega, pow_nz _ (by omega) n1 (by omega) n, pow_nz _ (by omega) n2 (by omega) n⟩

end Go.Proofs.YtnchhfhoaepjnaaGreat
