/- Plain facts: roots, rounded up; what is made of numbers lies between what is made of ends: the frame of it, and sums. -/
import Derived.Test.YteapiigegbdopaaRo
import Derived.Test.YteapiigegbdopaaIv
namespace Go.Proofs.Yteapiigegbdopaa

theorem round_up {x : Ex} (ok : x.Ok) {M : Nat} {E : Int} (hM : M < 18446744073709551616) (hE : -4096 ≤ E ∧ E ≤ 4096) (hz : M = 0 → x.le 0 ∧ x.ge 0) (hl : x.le 0) (near : M ≠ 0 → Near M E (x.amt false)) :
    KUp x (key (roundN false M E 1)) := by
  unfold roundN
  by_cases h0 : M = 0
  · rw [if_pos h0]
    obtain ⟨l, u⟩ := hz h0
    have hk : key 0 = 0 := rfl
    rw [hk]
    refine ⟨Or.inr ?_, fun c => ?_, by omega⟩
    · rw [V_zero]; exact u
    · have := ok.sep c l
      have h1 := V_lt0 (show (0 : Int) - 1 < 0 by omega)
      omega
  · rw [if_neg h0]
    have ec : clampN E = E := by unfold clampN; omega
    have es : sideN 1 false = 2 := rfl
    rw [ec, es]
    have okc := ok.cut (g := false) (by simpa using hl)
    obtain ⟨d, hd, -, r2, -⟩ := rung_is okc (near h0) h0 hM (s := 2) (by simp)
    have r2 := r2 rfl
    have dt := hd.top
    have lo : x.le ((2 * val d : Nat) : Int) := hd.low
    have up : d = 9218868437227405311 ∨ ¬ x.le ((2 * val (d + 1) : Nat) : Int) := hd.up
    have hle : rungN (topN M) (E - shiftN M) 2 ≤ 9218868437227405312 := by rcases r2 with ⟨-, c⟩ | ⟨-, c⟩ <;> omega
    rw [(signN_facts false _ hle).2.2.2]
    simp only [Bool.false_eq_true, if_false]
    rcases r2 with ⟨e, c⟩ | ⟨e, c⟩
    · rw [c]
      have e : x.le ((2 * val d : Nat) : Int) ∧ x.ge ((2 * val d : Nat) : Int) := e
      refine ⟨Or.inr ?_, fun g => ?_, by omega⟩
      · rw [V_nat]
        have := e.2
        simpa using this
      · have s := ok.sep g lo
        have m := V_mono (show (d : Int) - 1 < d by omega)
        rw [V_nat] at m
        omega
    · rw [c]
      have e : ¬ (x.le ((2 * val d : Nat) : Int) ∧ x.ge ((2 * val d : Nat) : Int)) := e
      refine ⟨?_, fun g => ?_, by omega⟩
      · rcases up with u | u
        · left; omega
        · right
          rcases ok.total ((2 * val (d + 1) : Nat) : Int) with t | t
          · exact absurd t u
          · rw [V_nat]; simpa using t
      · apply e
        refine ⟨lo, ?_⟩
        have e3 : ((d + 1 : Nat) : Int) - 1 = (d : Int) := by omega
        rw [e3, V_nat] at g
        simpa using g

theorem sqrtF_up {u : Nat} (hu : u = 1076) {a : Nat} (fa : finB a = true) :
    KUp (exS (val (a % 9223372036854775808) * 2 ^ u)) (key (sqrtF a 1)) := by
  have ea := splitE_bounds fa
  have la := splitM_lt a
  rw [split_val fa]
  unfold sqrtF
  generalize splitM a = m at *
  generalize splitE a = e at *
  have hN : m * 2 ^ (e + 1074).toNat * 2 ^ u = m * 2 ^ (e + 2150).toNat := by
    rw [Nat.mul_assoc, ← Nat.pow_add]; congr 2; omega
  rw [hN]
  by_cases h0 : m = 0
  · subst h0
    rw [rootM_zero, Nat.zero_mul]
    rw [roundN_zero _ _ 0]
    exact round_up (exS_ok 0) (by omega) (by omega) (fun _ => ⟨Or.inl (by omega), by omega, by omega⟩) (Or.inl (by omega)) (fun h => absurd rfl h)
  · obtain ⟨f, hf, f1, f2, w1, w2, hb⟩ := rootW_eq h0 la ea
    obtain ⟨b, hb0⟩ : ∃ b : Nat, (b : Int) = f + 1043 := ⟨(f + 1043).toNat, by omega⟩
    rw [hb b hb0]
    have hr := isqrt_is (rootW m e * 18446744073709551616)
    have big : 36028797018963968 ≤ isqrt (rootW m e * 18446744073709551616) := by
      rcases Nat.lt_or_ge (isqrt (rootW m e * 18446744073709551616)) 36028797018963968 with c | c
      · exfalso
        have h2 := hr.2
        have h3 : (isqrt (rootW m e * 18446744073709551616) + 1) * (isqrt (rootW m e * 18446744073709551616) + 1) ≤ 36028797018963968 * 36028797018963968 := Nat.mul_le_mul (by omega) (by omega)
        omega
      · exact c
    have he : rootE m e = f - 32 := by unfold rootE; rw [hf]; omega
    have hz : rootM m e ≠ 0 := by
      unfold rootM markN
      split <;> omega
    rw [he]
    refine round_up (exS_ok _) (rootM_lt (by omega)) (by omega) (fun h => absurd h hz) (Or.inl (by omega)) (fun _ => ?_)
    exact root_near (N := rootW m e * 18446744073709551616) (r := isqrt (rootW m e * 18446744073709551616)) (b := b) (by omega) (fun h => (amt_S h).1) (fun h => (amt_S h).2) hr rfl big

theorem sqrt_mono_up {a c : Nat} (ha : a < 18446744073709551616) (hc : c < 18446744073709551616) (fa : finB a = true) (fc : finB c = true) (ka : 0 ≤ key a) (h : key a ≤ key c) : key (sqrtF a 1) ≤ key (sqrtF c 1) := by
  obtain ⟨u, hu⟩ : ∃ u : Nat, u = 1076 := ⟨_, rfl⟩
  refine kup_mono (exS_ok _) (fun k hk => ?_) (sqrtF_up hu fa) (sqrtF_up hu fc)
  have hle : val (a % 9223372036854775808) ≤ val (c % 9223372036854775808) := by
    have e : a % 9223372036854775808 ≤ c % 9223372036854775808 := by
      unfold key at ka h
      split at ka <;> split at h <;> (try split at h) <;> omega
    rcases Nat.lt_or_eq_of_le e with l | l
    · exact Nat.le_of_lt (val_mono l)
    · rw [l]; exact Nat.le_refl _
  have hm := Nat.mul_le_mul_right (2 ^ u) hle
  clear hu
  exact ⟨hk.1, Int.le_trans (by exact_mod_cast hm) hk.2⟩

/-- Words that are numbers, the first not above the second. -/
structure Le (r t : Nat) : Prop where
  r1 : r < 18446744073709551616
  t1 : t < 18446744073709551616
  r2 : nanB r = false
  t2 : nanB t = false
  le : key r ≤ key t
def LeO (o p : Option Nat) : Prop := ∃ r t, o = some r ∧ p = some t ∧ Le r t

theorem Le.trans {a b c : Nat} (h : Le a b) (k : Le b c) : Le a c := ⟨h.r1, k.t1, h.r2, k.t2, Int.le_trans h.le k.le⟩
theorem Le.btw {l v u : Nat} (h : Le l v) (k : Le v u) : Btw l u v := ⟨order_le h.r1 h.t1 h.r2 h.t2 h.le, order_le k.r1 k.t1 k.r2 k.t2 k.le⟩

theorem btw_of {oL oD oN oU oH : Option Nat} (s : SidesO oD oN oU) (lo : LeO oL oD) (hi : LeO oU oH) : ∃ l v u, oL = some l ∧ oN = some v ∧ oH = some u ∧ Le l v ∧ Le v u := by
  obtain ⟨l, d, rfl, rfl, h1⟩ := lo
  obtain ⟨w, u, rfl, rfl, h2⟩ := hi
  rcases s with ⟨c, -, -⟩ | ⟨d', n, u', e1, rfl, e3, ok⟩
  · cases c
  · obtain rfl : d = d' := by injection e1
    obtain rfl : w = u' := by injection e3
    obtain ⟨⟨nd, nn, nu⟩, -, ⟨ld, ln, lu⟩, k1, k2, -⟩ := ok
    exact ⟨l, n, u, rfl, rfl, rfl, h1.trans ⟨ld, ln, nd, nn, k1⟩, Le.trans ⟨ln, lu, nn, nu, k2⟩ h2⟩

/-- An interval that holds a number. -/
structure Held (lo hi v : Nat) : Prop where
  hl : lo < 18446744073709551616
  hh : hi < 18446744073709551616
  hv : v < 18446744073709551616
  nl : nanB lo = false
  nh : nanB hi = false
  fv : finB v = true
  kl : key lo ≤ key v
  kh : key v ≤ key hi
  zl : lo ≠ 9223372036854775808
  zh : hi ≠ 9223372036854775808
  hs : hsB lo hi = true

theorem held_of {lo hi v : Nat} (hl : lo < 18446744073709551616) (hh : hi < 18446744073709551616) (hv : v < 18446744073709551616) (h : hasB lo hi v = true) : Held lo hi v := by
  unfold hasB leB at h
  simp only [Bool.and_eq_true, Bool.not_eq_true', decide_eq_true_eq] at h
  obtain ⟨⟨⟨hs, hi'⟩, ⟨⟨nl, nv⟩, k1⟩⟩, ⟨⟨-, nh⟩, k2⟩⟩ := h
  have hs' := hs
  unfold hsB mz at hs
  simp only [Bool.and_eq_true, Bool.not_eq_true', decide_eq_false_iff_not] at hs
  have fv : finB v = true := by
    have h1 : ¬ 9218868437227405312 < v % 9223372036854775808 := by simpa [nanB] using nv
    have h2 : ¬ v % 9223372036854775808 = 9218868437227405312 := by simpa [infB] using hi'
    simp [finB]; omega
  exact ⟨hl, hh, hv, nl, nh, fv, k1, k2, hs.1.2, hs.2, hs'⟩

theorem Held.lt {lo hi v : Nat} (h : Held lo hi v) : key lo ≤ 9218868437227405311 ∧ -9218868437227405311 ≤ key hi := by
  have := fin_key h.hv h.fv
  have := h.kl
  have := h.kh
  omega
theorem Held.low_inf {lo hi v : Nat} (h : Held lo hi v) (f : finB lo = false) : key lo = -9218868437227405312 := by
  rcases (key_inf h.hl h.nl).1 f with c | c
  · have := h.lt; omega
  · exact c

/-- The mirrored interval holds the negative. -/
theorem negB_neg {x : Nat} (hx : x < 18446744073709551616) : finB (negB x) = finB x := finB_negB hx

theorem addR_low {p q c d : Nat} (hp : p < 18446744073709551616) (hq : q < 18446744073709551616) (hc : c < 18446744073709551616) (hd : d < 18446744073709551616) (np : nanB p = false) (nq : nanB q = false) (fc : finB c = true) (fd : finB d = true)
    (h1 : key p ≤ key c) (h2 : key q ≤ key d) : LeO (addR p q (-1)) (addR c d (-1)) := by
  have ec : addR c d (-1) = some (addF c d (-1)) := by unfold addR; simp only [fin_not_nan fc, fin_not_nan fd, fc, fd, Bool.or_self, Bool.and_self, Bool.false_eq_true, if_false, if_true]
  have fs := sumM_lt (splitG c) (splitM c) (splitE c) (splitG d) (splitM d) (splitE d) (splitM_lt c) (splitM_lt d)
  have ff : nanB (addF c d (-1)) = false ∧ addF c d (-1) ≠ 9223372036854775808 ∧ addF c d (-1) < 18446744073709551616 := roundN_facts _ _ _ _ fs
  have kc := fin_key hc fc
  have kd := fin_key hd fd
  have kb := (addF_down hc hd fc fd).bot
  by_cases f : (finB p && finB q) = true
  · obtain ⟨fp, fq⟩ := Bool.and_eq_true_iff.1 f
    have ep : addR p q (-1) = some (addF p q (-1)) := by unfold addR; simp only [np, nq, fp, fq, Bool.or_self, Bool.and_self, Bool.false_eq_true, if_false, if_true]
    have gs := sumM_lt (splitG p) (splitM p) (splitE p) (splitG q) (splitM q) (splitE q) (splitM_lt p) (splitM_lt q)
    have gg : nanB (addF p q (-1)) = false ∧ addF p q (-1) ≠ 9223372036854775808 ∧ addF p q (-1) < 18446744073709551616 := roundN_facts _ _ _ _ gs
    exact ⟨_, _, ep, ec, gg.2.2, ff.2.2, gg.1, ff.1, add_mono hp hq hc hd fp fq fc fd h1 h2⟩
  · have f' : (finB p && finB q) = false := by simpa using f
    have low : ∀ {x : Nat}, x < 18446744073709551616 → nanB x = false → key x ≤ 9218868437227405311 → finB x = false → key x = -9218868437227405312 ∧ signB x = true := fun {x} hx nx kx fx => by
      have e : key x = -9218868437227405312 := by rcases (key_inf hx nx).1 fx with c | c <;> omega
      refine ⟨e, ?_⟩
      unfold key at e
      unfold signB
      simp only [decide_eq_true_eq]
      split at e <;> omega
    cases fp : finB p
    · obtain ⟨k1, s1⟩ := low hp np (by omega) fp
      cases fq : finB q
      · obtain ⟨k2, s2⟩ := low hq nq (by omega) fq
        refine ⟨p, _, ?_, ec, hp, ff.2.2, np, ff.1, by omega⟩
        unfold addR
        simp only [np, nq, fp, fq, s1, s2, Bool.or_self, Bool.and_self, Bool.false_eq_true, if_false, Bool.not_false, bne_self_eq_false, Bool.and_false]
      · refine ⟨p, _, ?_, ec, hp, ff.2.2, np, ff.1, by omega⟩
        unfold addR
        simp only [np, nq, fp, fq, Bool.or_self, Bool.and_true, Bool.false_eq_true, if_false, Bool.not_true, Bool.and_false, Bool.false_and]
    · have fq : finB q = false := by rw [fp] at f'; simpa using f'
      obtain ⟨k2, s2⟩ := low hq nq (by omega) fq
      refine ⟨q, _, ?_, ec, hq, ff.2.2, nq, ff.1, by omega⟩
      unfold addR
      simp only [np, nq, fp, fq, Bool.or_self, Bool.and_false, Bool.false_eq_true, if_false, Bool.not_true, Bool.false_and, if_true]

theorem LeO.mirror {o p o' p' : Option Nat} (h : LeO o p) (m1 : Mirror o o') (m2 : Mirror p p') (b1 : ∀ r, o' = some r → r < 18446744073709551616) (b2 : ∀ r, p' = some r → r < 18446744073709551616) : LeO p' o' := by
  obtain ⟨r, t, rfl, rfl, l⟩ := h
  rcases m1 with ⟨c, -⟩ | ⟨x, y, e1, rfl, n1, n2, k1⟩
  · cases c
  rcases m2 with ⟨c, -⟩ | ⟨x', y', e1', rfl, n1', n2', k1'⟩
  · cases c
  obtain rfl : r = x := by injection e1
  obtain rfl : t = x' := by injection e1'
  exact ⟨y', y, rfl, rfl, b2 _ rfl, b1 _ rfl, n2', n2, by have := l.le; omega⟩

end Go.Proofs.Yteapiigegbdopaa
