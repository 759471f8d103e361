/- What Sqr and Sqrt of intervals that hold numbers answer: ends with the square, the root between them. -/
import Derived.Test.YtmdhgaiklgmmpaaIy
namespace Go.Proofs.Ytmdhgaiklgmmpaa
open Go.ChangeShapes Go.WideShapes Go.ChangeAt Go.RowKit

theorem key_abs {x : Nat} (hx : x < 18446744073709551616) : key (x % 9223372036854775808) = if key x < 0 then - key x else key x := by
  unfold key
  rw [if_pos (by omega)]
  by_cases c : x < 9223372036854775808
  · rw [if_pos c, if_neg (by omega)]; omega
  · rw [if_neg c]
    split <;> omega

theorem sqr_holds {xl xh a : Nat} (X : Held xl xh a) : ∃ m1 m2, (∀ w, Calls Try.prog 37 #[.agg #[.float .f64 xl, .float .f64 xh]] w fun e w' => e = .returned (.agg #[.float .f64 m1, .float .f64 m2]) ∧ Below w.heap.size w w') ∧ Enc m1 m2 (mulV a a (-1)) (mulV a a 1) := by
  have fa' := fin_key X.hv X.fv
  have na := fin_not_nan X.fv
  have kl := X.kl
  have kh := X.kh
  have al := key_abs X.hl
  have ah := key_abs X.hh
  have nl : nanB (xl % 9223372036854775808) = false := by rw [nan_abs]; exact X.nl
  have nh : nanB (xh % 9223372036854775808) = false := by rw [nan_abs]; exact X.nh
  have q1 := minW_key (xl % 9223372036854775808) (xh % 9223372036854775808)
  have q2 := maxW_key (xl % 9223372036854775808) (xh % 9223372036854775808)
  have g : magP xl xh = maxW (xl % 9223372036854775808) (xh % 9223372036854775808) := by unfold magP; rw [if_pos X.hs]
  have mig : migP xl xh < 18446744073709551616 ∧ nanB (migP xl xh) = false ∧ 0 ≤ key (migP xl xh) ∧ (key (migP xl xh) ≤ key a ∨ key (migP xl xh) ≤ - key a) := by
    unfold migP
    rw [if_pos X.hs]
    by_cases h : hasB xl xh 0 = true
    · rw [if_pos h]
      have k00 : key 0 = 0 := rfl
      exact ⟨by omega, by decide, by decide, by rw [k00]; omega⟩
    · rw [if_neg h]
      have out : ¬ (key xl ≤ 0 ∧ 0 ≤ key xh) := fun c => h (by
        unfold hasB
        rw [X.hs]
        have h0 : nanB 0 = false := by decide
        have k0 : key 0 = 0 := rfl
        have i0 : infB 0 = false := by decide
        unfold leB
        rw [X.nl, X.nh, h0, i0, k0]
        simp [c.1, c.2])
      refine ⟨?_, ?_, ?_, ?_⟩
      · rcases q1.2 with c | c <;> rw [c] <;> omega
      · rcases q1.2 with c | c <;> rw [c] <;> assumption
      · rw [q1.1, al, ah]; split <;> split <;> omega
      · rw [q1.1, al, ah]; split <;> split <;> omega
  have mag : magP xl xh < 18446744073709551616 ∧ nanB (magP xl xh) = false ∧ key a ≤ key (magP xl xh) ∧ - key a ≤ key (magP xl xh) := by
    rw [g]
    refine ⟨?_, ?_, ?_, ?_⟩
    · rcases q2.2 with c | c <;> rw [c] <;> omega
    · rcases q2.2 with c | c <;> rw [c] <;> assumption
    · rw [q2.1, al, ah]; split <;> split <;> omega
    · rw [q2.1, al, ah]; split <;> split <;> omega
  have c1 := fun w => mig_w xl xh X.hl X.hh w
  have c2 := fun w => mag_w xl xh X.hl X.hh w
  clear g q1 q2
  generalize migP xl xh = p at *
  generalize magP xl xh = q at *
  obtain ⟨hp, np, kp0, kp⟩ := mig
  obtain ⟨hq, nq, kq1, kq2⟩ := mag
  have fp : finB p = true := by
    cases h : finB p
    · rcases (key_inf hp np).1 h with d | d <;> omega
    · rfl
  have f1 := mulV_facts (-1) np np
  have f2 := mulV_facts 1 nq nq
  refine ⟨_, _, fun w => sqr_core xl xh p q _ _ (some1 X) c1 c2 (fun w => mulV_w p p (-1) hp hp np np w) (fun w => mulV_w q q 1 hq hq nq nq w) w, f1.2, f2.2, f1.1, f2.1, mulV_nz (-1) np np, mulV_nz 1 nq nq, ?_, ?_⟩
  · refine mulV_le hp hp X.hv X.hv np np X.fv X.fv ?_ (fun h => by rw [fp] at h; cases h)
    have v0 := V_nonneg kp0
    rcases kp with c | c
    · have v1 := V_mono_le c
      exact Int.mul_le_mul v1 v1 v0 (by omega)
    · have v1 := V_mono_le c
      rw [V_neg] at v1
      have := Int.mul_le_mul v1 v1 v0 (by omega)
      rwa [Int.neg_mul_neg] at this
  · have u1 := mulV_mirror' X.hv na na
    have u2 := mulV_mirror' hq nq nq
    have fna : finB (negB a) = true := by rw [finB_negB X.hv]; exact X.fv
    have eq : V (key (negB q)) = - V (key q) := by rw [key_negB hq, V_neg]
    have ea : V (key (negB a)) = - V (key a) := by rw [key_negB X.hv, V_neg]
    have v1 := V_mono_le kq1
    have v2 := V_mono_le kq2
    rw [V_neg] at v2
    have vq : 0 ≤ V (key q) := V_nonneg (by omega)
    have z : V (key (negB q)) * V (key q) ≤ 0 := by rw [eq]; exact Int.mul_nonpos_of_nonpos_of_nonneg (by omega) vq
    have := mulV_le (negB_lt hq) hq (negB_lt X.hv) X.hv (by rw [nanB_negB hq]; exact nq) nq fna X.fv (by
      rw [eq, ea, Int.neg_mul, Int.neg_mul]
      have : V (key a) * V (key a) ≤ V (key q) * V (key q) := by
        rcases Int.le_total 0 (V (key a)) with c | c
        · exact Int.mul_le_mul v1 v1 c vq
        · have := Int.mul_le_mul v2 v2 (by omega) vq
          rwa [Int.neg_mul_neg] at this
      omega) (fun _ => z)
    omega

theorem sqrtR_fin {a : Nat} (d : Int) (fa : finB a = true) (ga : splitG a = false) : sqrtR a d = some (sqrtF a d) := by
  unfold sqrtR
  rw [fin_not_nan fa, ga, fa, if_neg (by decide), if_pos rfl]
theorem sqrtR_infinite {a : Nat} (d : Int) (na : nanB a = false) (fa : finB a = false) (ga : splitG a = false) : sqrtR a d = some a := by
  unfold sqrtR
  rw [na, ga, fa, if_neg (by decide), if_neg (by decide)]
theorem sqrtV_fin {a : Nat} (d : Int) (fa : finB a = true) (ga : splitG a = false) : sqrtV a d = sqrtF a d := by
  have h := sqrtV_is d (fin_not_nan fa) ga
  rw [sqrtR_fin d fa ga] at h
  injection h with h
  exact h.symm
theorem sqrtF_facts {a : Nat} (d : Int) : nanB (sqrtF a d) = false ∧ sqrtF a d ≠ 9223372036854775808 ∧ sqrtF a d < 18446744073709551616 :=
  by unfold sqrtF; exact roundN_facts false (rootM (splitM a) (splitE a)) (rootE (splitM a) (splitE a)) d (rootM_lt (by have := splitM_lt a; omega))
theorem nneg_G {x : Nat} (hx : x < 18446744073709551616) (h : 0 ≤ key x) : splitG x = false := by
  unfold splitG
  unfold key at h
  simp only [decide_eq_false_iff_not]
  split at h <;> omega

theorem sqrt_holds {xl xh a : Nat} (X : Held xl xh a) (ka : 0 ≤ key a) : ∃ m1 m2, (∀ w, Calls Try.prog 39 #[.agg #[.float .f64 xl, .float .f64 xh]] w fun e w' => e = .returned (.agg #[.float .f64 m1, .float .f64 m2]) ∧ Below w.heap.size w w') ∧ Btw m1 m2 (sqrtV a 0) := by
  have fa' := fin_key X.hv X.fv
  have kl := X.kl
  have kh := X.kh
  have q := maxW_key xl 0
  have k00 : key 0 = 0 := rfl
  rw [k00] at q
  have n0 : nanB 0 = false := by decide
  have hm := fun ts t w => max_f (a := xl) (b := 0) X.hl (by omega) X.nl n0 Try.prog ts t w
  have hp : maxW xl 0 < 18446744073709551616 ∧ nanB (maxW xl 0) = false := by
    rcases q.2 with c | c <;> rw [c]
    · exact ⟨X.hl, X.nl⟩
    · exact ⟨by omega, n0⟩
  have kp := q.1
  clear q
  generalize maxW xl 0 = p at *
  have gp := nneg_G hp.1 (show 0 ≤ key p by omega)
  have gh := nneg_G X.hh (show 0 ≤ key xh by omega)
  have ga := nneg_G X.hv ka
  have fp : finB p = true := by
    cases h : finB p
    · rcases (key_inf hp.1 hp.2).1 h with d | d <;> omega
    · rfl
  have o : (FloatKind.f64.format.order xh 0 == some .lt) = false := by
    rw [o_lt X.hh (by omega), lt0 X.nh]; simp; omega
  refine ⟨_, _, fun w => sqrt_core_i xl xh p _ _ (some1 X) o hm (fun w => sqrtV_w p (-1) hp.1 hp.2 gp w) (fun w => sqrtV_w xh 1 X.hh X.nh gh w) w, ?_⟩
  have s := sqrtR_sides X.hv
  have na := fin_not_nan X.fv
  rw [sqrtV_is (-1) na ga, sqrtV_is 0 na ga, sqrtV_is 1 na ga] at s
  have d1 := sqrt_mono_down hp.1 X.hv fp X.fv (by omega) (show key p ≤ key a by omega)
  rw [← sqrtV_fin (-1) fp gp, ← sqrtV_fin (-1) X.fv ga] at d1
  have fp' := sqrtF_facts (a := p) (-1)
  rw [← sqrtV_fin (-1) fp gp] at fp'
  have up : Le (sqrtV a 1) (sqrtV xh 1) := by
    have f1 := sqrtF_facts (a := a) 1
    rw [← sqrtV_fin 1 X.fv ga] at f1
    cases fh : finB xh
    · have e : sqrtV xh 1 = xh := by
        have h := sqrtV_is 1 X.nh gh
        rw [sqrtR_infinite 1 X.nh fh gh] at h
        injection h with h
        exact h.symm
      rw [e]
      have g1 := nanB_key f1.2.2 f1.1
      refine ⟨f1.2.2, X.hh, f1.1, X.nh, ?_⟩
      rcases (key_inf X.hh X.nh).1 fh with c | c <;> omega
    · have f2 := sqrtF_facts (a := xh) 1
      rw [← sqrtV_fin 1 fh gh] at f2
      have m := sqrt_mono_up X.hv X.hh X.fv fh ka kh
      rw [← sqrtV_fin 1 X.fv ga, ← sqrtV_fin 1 fh gh] at m
      exact ⟨f1.2.2, f2.2.2, f1.1, f2.1, m⟩
  rcases s with ⟨c, -, -⟩ | ⟨d, n, u, e1, e2, e3, ok⟩
  · cases c
  · injection e1 with e1
    injection e2 with e2
    injection e3 with e3
    obtain ⟨⟨nd, nn, nu⟩, -, ⟨ld, ln, lu⟩, k1, k2, -⟩ := ok
    rw [e2]
    rw [e1] at d1
    rw [e3] at up
    exact Le.btw ⟨fp'.2.2, ln, fp'.1, nn, Int.le_trans d1 k1⟩ (Le.trans ⟨ln, lu, nn, nu, k2⟩ up)

end Go.Proofs.Ytmdhgaiklgmmpaa
