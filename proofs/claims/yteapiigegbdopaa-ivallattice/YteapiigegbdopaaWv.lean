/- What Sqrt answers, of all words. -/
import Derived.Test.YteapiigegbdopaaWu
namespace Go.Proofs.Yteapiigegbdopaa
open Go.ChangeShapes Go.WideShapes Go.ChangeAt Go.RowKit

/-- The whole part of a root. -/
def isqrt : Nat → Nat
  | 0 => 0
  | n + 1 => if (isqrt n + 1) * (isqrt n + 1) ≤ n + 1 then isqrt n + 1 else isqrt n

theorem isqrt_is (n : Nat) : IsRoot n (isqrt n) := by
  induction n with
  | zero => exact ⟨by decide, by decide⟩
  | succ n ih =>
    obtain ⟨h1, h2⟩ := ih
    unfold isqrt
    split
    · rename_i h
      refine ⟨h, ?_⟩
      have : (isqrt n + 1 + 1) * (isqrt n + 1 + 1) = (isqrt n + 1) * (isqrt n + 1) + (isqrt n + 1) + (isqrt n + 1) + 1 := by
        rw [Nat.add_mul (isqrt n + 1) 1, Nat.mul_add (isqrt n + 1) (isqrt n + 1) 1]; omega
      omega
    · rename_i h
      exact ⟨by omega, by omega⟩

def rootW (m : Nat) (e : Int) : Nat := if (e - shiftN m) % 2 = 1 then topN m / 2 else topN m
def rootF (m : Nat) (e : Int) : Int := if (e - shiftN m) % 2 = 1 then e - shiftN m + 1 else e - shiftN m
def rootM (m : Nat) (e : Int) : Nat := markN (isqrt (rootW m e * 18446744073709551616)) (!decide (isqrt (rootW m e * 18446744073709551616) * isqrt (rootW m e * 18446744073709551616) = rootW m e * 18446744073709551616))
def rootE (m : Nat) (e : Int) : Int := rootF m e / 2 - 32

theorem isqrt_lt {n : Nat} (h : n < 18446744073709551616) : isqrt (n * 18446744073709551616) < 18446744073709551616 := by
  rcases Nat.lt_or_ge (isqrt (n * 18446744073709551616)) 18446744073709551616 with c | c
  · exact c
  · have h1 := (isqrt_is (n * 18446744073709551616)).1
    have h2 := Nat.mul_le_mul c c
    generalize isqrt (n * 18446744073709551616) * isqrt (n * 18446744073709551616) = z at *
    omega

theorem rootM_zero (e : Int) : rootM 0 e = 0 := by
  have t : topN 0 = 0 := by unfold topN; simp
  have w : rootW 0 e = 0 := by unfold rootW; rw [t]; split <;> rfl
  unfold rootM
  rw [w]
  rfl

theorem root_w (g : Bool) (m : Nat) (e : Int) (h : m < 18446744073709551616) (he : -2000 ≤ e ∧ e ≤ 2000) (hz : m = 0 → e = 0) :
    ∃ E : Int, (m ≠ 0 → E = rootE m e) ∧ ∀ w, Calls Try.prog 53 #[.agg #[.bool g, .int .u64 m, .int .i64 e]] w fun r w' => r = .returned (.agg #[.bool false, .int .u64 (rootM m e), .int .i64 E]) ∧ Below w.heap.size w w' := by
  by_cases z : m = 0
  · have he0 := hz z
    subst z he0
    refine ⟨-32 - 32, fun h => absurd rfl h, fun w => ?_⟩
    rw [rootM_zero]
    exact root_core g 0 0 0 0 0 true 0 (-64) (-64) (-32) (by omega) (by omega) (by omega) (fun w => normal_zero g 0 (by omega) (by omega) w)
      (Or.inr ⟨by rw [i64_odd]; rfl, rfl, rfl⟩) (fun w => rootw_w 0 0 (by omega) ⟨by omega, by omega⟩ w) (fun w => mark_w 0 false (by omega) w) w
  · have b := topN_bounds z h
    have s : shiftN m ≤ 63 := by unfold shiftN; omega
    have hw : rootW m e < 18446744073709551616 := by unfold rootW; split <;> omega
    refine ⟨rootE m e, fun _ => rfl, fun w => ?_⟩
    refine root_core g m (topN m) (rootW m e) (isqrt (rootW m e * 18446744073709551616)) _ (decide (isqrt (rootW m e * 18446744073709551616) * isqrt (rootW m e * 18446744073709551616) = rootW m e * 18446744073709551616)) e (e - shiftN m) (rootF m e) (rootF m e / 2)
      (by omega) (by unfold rootF; split <;> omega) (by unfold rootF; split <;> omega) (fun w => normal_w g m e z h (by omega) (by omega) w) ?_ (fun w => rootw_w _ _ hw (isqrt_is _) w) (fun w => mark_w _ _ (isqrt_lt hw) w) w
    rw [i64_odd]
    unfold rootW rootF
    by_cases p : (e - shiftN m) % 2 = 1
    · rw [if_pos p, if_pos p]
      exact Or.inl ⟨by rw [p]; rfl, by omega, rfl⟩
    · have p0 : (e - shiftN m) % 2 = 0 := by omega
      rw [if_neg p, if_neg p]
      exact Or.inr ⟨by rw [p0]; rfl, rfl, rfl⟩

def sqrtF (a : Nat) (dir : Int) : Nat := roundN false (rootM (splitM a) (splitE a)) (rootE (splitM a) (splitE a)) dir
def sqrtR (a : Nat) (dir : Int) : Option Nat := if nanB a || splitG a then none else if finB a then some (sqrtF a dir) else some a

theorem rootM_lt {m : Nat} {e : Int} (h : m < 18446744073709551616) : rootM m e < 18446744073709551616 := by
  by_cases z : m = 0
  · subst z; rw [rootM_zero]; omega
  · have b := topN_bounds z h
    have hw : rootW m e < 18446744073709551616 := by unfold rootW; split <;> omega
    exact markN_lt (isqrt_lt hw)

theorem splitE_zero {x : Nat} (h : splitM x = 0) : splitE x = 0 := by
  unfold splitM at h
  unfold splitE
  split at h
  · rw [if_pos h]
  · omega

theorem sqrt_w (a : Nat) (dir : Int) (ha : a < 18446744073709551616) (w : World) :
    Calls Try.prog 12 #[.float .f64 a, .int .i64 dir] w fun x w' => Ans (sqrtR a dir) x ∧ Below w.heap.size w w' := by
  unfold sqrtR
  cases na : nanB a
  · have oa := ord_neg ha na
    cases ga : splitG a
    · rw [ga] at oa
      simp only [Bool.or_self, Bool.false_eq_true, if_false]
      cases fa : finB a
      · simp only [Bool.false_eq_true, if_false]
        exact sqrt_inf a dir ha na oa fa w
      · simp only [if_true]
        have h1 := splitM_lt a
        have e1 := splitE_bounds fa
        obtain ⟨E, hE, hq⟩ := root_w (splitG a) (splitM a) (splitE a) (by omega) (by omega) splitE_zero
        have hm : rootM (splitM a) (splitE a) < 18446744073709551616 := rootM_lt (by omega)
        have c := sqrt_core a dir ha na oa _ _ _ _ _ _ _ (fun w => split_w a ha fa w) hq (fun w => round_w _ _ _ dir hm w) w
        have er : roundN false (rootM (splitM a) (splitE a)) E dir = sqrtF a dir := by
          unfold sqrtF
          by_cases z : splitM a = 0
          · rw [z, rootM_zero]; rfl
          · rw [hE z]
        rw [er] at c
        have hf := (roundN_facts false (rootM (splitM a) (splitE a)) (rootE (splitM a) (splitE a)) dir hm).2.2
        exact c.mono fun x w' h => ⟨⟨_, h.1, hf, rfl⟩, h.2⟩
    · rw [ga] at oa
      simp only [Bool.or_true, if_true]
      exact sqrt_nan a dir ha (Or.inr ⟨na, oa⟩) w
  · simp only [Bool.true_or, if_true]
    exact sqrt_nan a dir ha (Or.inl na) w

end Go.Proofs.Yteapiigegbdopaa
