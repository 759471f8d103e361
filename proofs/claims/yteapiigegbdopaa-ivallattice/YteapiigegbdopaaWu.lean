/- What Mul, Div and Sqrt answer, of all words: the whole contracts. -/
import Derived.Test.YteapiigegbdopaaWt
namespace Go.Proofs.Yteapiigegbdopaa
open Go.ChangeShapes Go.WideShapes Go.ChangeAt Go.RowKit

theorem ord_zero {x : Nat} (hx : x < 18446744073709551616) (hn : nanB x = false) : (FloatKind.f64.format.order x 0 == some .eq) = isZ x := by
  unfold isZ
  rcases cases0 x hx with ⟨h, _, _⟩ | ⟨_, ho, hc⟩ | ⟨_, ho, hc⟩ | ⟨_, ho, hc⟩
  · rw [hn] at h; cases h
  · rw [ho]; simp [hc]
  · rw [ho]
    have : ¬ x % 9223372036854775808 = 0 := by omega
    simp [this]
  · rw [ho]
    have : ¬ x % 9223372036854775808 = 0 := by omega
    simp [this]
theorem ord_neg {x : Nat} (hx : x < 18446744073709551616) (hn : nanB x = false) : (FloatKind.f64.format.order x 0 == some .lt) = splitG x := by
  unfold splitG
  rcases cases0 x hx with ⟨h, _, _⟩ | ⟨_, ho, hc⟩ | ⟨_, ho, hc⟩ | ⟨_, ho, hc⟩
  · rw [hn] at h; cases h
  · rw [ho]
    have : ¬ 9223372036854775808 < x := by omega
    simp [this]
  · rw [ho]
    have : ¬ 9223372036854775808 < x := by omega
    simp [this]
  · rw [ho]
    have : 9223372036854775808 < x := by omega
    simp [this]
theorem splitM_zero {x : Nat} (h : isZ x = false) : splitM x ≠ 0 := by
  have hz : ¬ x % 9223372036854775808 = 0 := by simpa [isZ] using h
  unfold splitM; split <;> omega
theorem splitG_sign {x : Nat} (h : isZ x = false) : splitG x = signB x := by
  have hz : ¬ x % 9223372036854775808 = 0 := by simpa [isZ] using h
  unfold splitG signB
  rw [Bool.eq_iff_iff]; simp only [decide_eq_true_eq]; omega

def mulF (a b : Nat) (dir : Int) : Nat := roundN (splitG a != splitG b) (prodM (splitM a) (splitM b)) (prodE (splitM a) (splitE a) (splitM b) (splitE b)) dir
def mulR (a b : Nat) (dir : Int) : Option Nat :=
  if nanB a || nanB b then none else if isZ a || isZ b then some 0 else if finB a && finB b then some (mulF a b dir) else some (infW (signB a != signB b))

theorem prodM_lt {a b : Nat} (z1 : a ≠ 0) (z2 : b ≠ 0) (h1 : a < 18446744073709551616) (h2 : b < 18446744073709551616) : prodM a b < 18446744073709551616 :=
  markN_lt (Nat.div_lt_of_lt_mul (Nat.mul_lt_mul'' (topN_bounds z1 h1).2 (topN_bounds z2 h2).2))

theorem mul_bits {a b : Nat} (ha : a < 18446744073709551616) (hb : b < 18446744073709551616) (na : nanB a = false) (nb : nanB b = false) (za : isZ a = false) (zb : isZ b = false) (hf : (finB a && finB b) = false) :
    floatBits .mul .f64 a b = some (infW (signB a != signB b)) := by
  show ((Ieee.double.read a).product (Ieee.double.read b)).map Ieee.double.write = _
  have wi : ∀ s t : Bool, Ieee.double.write (.infinity (s ^^ t)) = infW (s != t) := by intro s t; cases s <;> cases t <;> decide
  unfold signB
  cases fa : finB a
  · rw [read_inf ha na fa]
    cases fb : finB b
    · rw [read_inf hb nb fb]
      simp only [Ieee.Datum.product, Option.map, wi]
    · obtain ⟨e, he⟩ := read_fin hb fb
      rw [he]
      simp only [Ieee.Datum.product, splitM_zero zb, if_false, Option.map, wi]
  · have fb : finB b = false := by rw [fa] at hf; simpa using hf
    rw [read_inf hb nb fb]
    obtain ⟨e, he⟩ := read_fin ha fa
    rw [he]
    simp only [Ieee.Datum.product, splitM_zero za, if_false, Option.map, wi]
    generalize decide (9223372036854775808 ≤ a) = s
    generalize decide (9223372036854775808 ≤ b) = t
    cases s <;> cases t <;> rfl

theorem infW_lt (g : Bool) : infW g < 18446744073709551616 := by cases g <;> decide

theorem mul_w (a b : Nat) (dir : Int) (ha : a < 18446744073709551616) (hb : b < 18446744073709551616) (w : World) :
    Calls Try.prog 11 #[.float .f64 a, .float .f64 b, .int .i64 dir] w fun x w' => Ans (mulR a b dir) x ∧ Below w.heap.size w w' := by
  unfold mulR
  cases na : nanB a
  · cases nb : nanB b
    · simp only [Bool.or_self, Bool.false_eq_true, if_false]
      cases za : isZ a
      · cases zb : isZ b
        · simp only [Bool.or_self, Bool.false_eq_true, if_false]
          have oa := ord_zero ha na
          have ob := ord_zero hb nb
          rw [za] at oa
          rw [zb] at ob
          by_cases hf : (finB a && finB b) = true
          · have fa : finB a = true := by cases h : finB a <;> simp_all
            have fb : finB b = true := by cases h : finB b <;> simp_all
            rw [if_pos hf]
            have h1 := splitM_lt a
            have h2 := splitM_lt b
            have e1 := splitE_bounds fa
            have e2 := splitE_bounds fb
            have hm := prodM_lt (splitM_zero za) (splitM_zero zb) (show splitM a < 18446744073709551616 by omega) (show splitM b < 18446744073709551616 by omega)
            have c := mul_core a b dir ha hb na nb oa ob _ _ _ _ _ _ _ _ _ _ (fun w => split_w a ha fa w) (fun w => split_w b hb fb w)
              (fun w => product_w (splitG a) (splitG b) (splitM a) (splitM b) (splitE a) (splitE b) (splitM_zero za) (splitM_zero zb) (by omega) (by omega) (by omega) (by omega) w)
              (fun w => round_w _ _ _ dir hm w) w
            exact c.mono fun x w' h => ⟨⟨_, h.1, (roundN_facts _ _ _ dir hm).2.2, rfl⟩, h.2⟩
          · have hf : (finB a && finB b) = false := by simpa using hf
            rw [hf]
            simp only [Bool.false_eq_true, if_false]
            obtain ⟨ga, ma, ea, sa⟩ := split_any a ha
            obtain ⟨gb, mb, eb, sb⟩ := split_any b hb
            exact mul_inf a b dir ha hb na nb oa ob ga gb (finB a) (finB b) ma mb ea eb _ (infW_lt _) hf sa sb (mul_bits ha hb na nb za zb hf) w
        · have oa := ord_zero ha na
          have ob := ord_zero hb nb
          rw [za] at oa
          rw [zb] at ob
          simp only [Bool.or_true, if_true]
          exact mul_zero a b dir ha hb na nb (Or.inr ⟨oa, ob⟩) w
      · have oa := ord_zero ha na
        rw [za] at oa
        simp only [Bool.true_or, if_true]
        exact mul_zero a b dir ha hb na nb (Or.inl oa) w
    · simp only [Bool.or_true, if_true]
      exact mul_nan a b dir ha hb (Or.inr ⟨na, nb⟩) w
  · simp only [Bool.true_or, if_true]
    exact mul_nan a b dir ha hb (Or.inl na) w

def quoM (mp mq : Nat) : Nat := markN (topN mp * 9223372036854775808 / topN mq) (decide (topN mp * 9223372036854775808 % topN mq ≠ 0))
def quoE (mp : Nat) (ep : Int) (mq : Nat) (eq : Int) : Int := (ep - shiftN mp) - (eq - shiftN mq) - 63
def divF (a b : Nat) (dir : Int) : Nat := roundN (splitG a != splitG b) (quoM (splitM a) (splitM b)) (quoE (splitM a) (splitE a) (splitM b) (splitE b)) dir
def divR (a b : Nat) (dir : Int) : Option Nat :=
  if nanB a || nanB b || isZ b then none else if !finB a then (if !finB b then none else some (infW (signB a != signB b))) else if !finB b then some 0 else some (divF a b dir)

theorem quoM_zero (mq : Nat) : quoM 0 mq = 0 := by
  have : topN 0 = 0 := by unfold topN; simp
  unfold quoM; rw [this]; simp [markN]

theorem quoM_lt {mp mq : Nat} (z1 : mp ≠ 0) (z2 : mq ≠ 0) (h1 : mp < 18446744073709551616) (h2 : mq < 18446744073709551616) : quoM mp mq < 18446744073709551616 := by
  have b1 := topN_bounds z1 h1
  have b2 := topN_bounds z2 h2
  refine markN_lt (Nat.div_lt_of_lt_mul ?_)
  have h : 9223372036854775808 * 18446744073709551616 ≤ topN mq * 18446744073709551616 := Nat.mul_le_mul_right _ b2.1
  omega

theorem quotient_w (gp gq : Bool) (mp mq : Nat) (ep eq : Int) (z2 : mq ≠ 0) (h1 : mp < 18446744073709551616) (h2 : mq < 18446744073709551616) (he1 : -2000 ≤ ep ∧ ep ≤ 2000) (he2 : -2000 ≤ eq ∧ eq ≤ 2000) :
    ∃ E : Int, (mp ≠ 0 → E = quoE mp ep mq eq) ∧ ∀ w, Calls Try.prog 56 #[.agg #[.bool gp, .int .u64 mp, .int .i64 ep], .agg #[.bool gq, .int .u64 mq, .int .i64 eq]] w fun r w' => r = .returned (.agg #[.bool (gp != gq), .int .u64 (quoM mp mq), .int .i64 E]) ∧ Below w.heap.size w w' := by
  have b2 := topN_bounds z2 h2
  have s2 : shiftN mq ≤ 63 := by unfold shiftN; omega
  by_cases z1 : mp = 0
  · subst z1
    refine ⟨(ep - 64) - (eq - shiftN mq) - 63, fun h => absurd rfl h, fun w => ?_⟩
    rw [quoM_zero]
    exact quotient_core gp gq 0 mq 0 (topN mq) 0 0 0 0 0 ep eq (ep - 64) (eq - shiftN mq) (by omega) (by omega) (fun w => normal_zero gp ep (by omega) (by omega) w) (fun w => normal_w gq mq eq z2 h2 (by omega) (by omega) w) rfl rfl
      (fun w => div64_zero (topN mq) (by simp; omega) b2.2 w) (fun w => mark_w 0 false (by omega) w) w
  · have b1 := topN_bounds z1 h1
    have s1 : shiftN mp ≤ 63 := by unfold shiftN; omega
    have e0 : topN mp / 2 * 18446744073709551616 + topN mp % 2 * 9223372036854775808 = topN mp * 9223372036854775808 := by omega
    refine ⟨quoE mp ep mq eq, fun _ => rfl, fun w => ?_⟩
    refine quotient_core gp gq mp mq (topN mp) (topN mq) (topN mp / 2) (topN mp % 2 * 9223372036854775808) (topN mp * 9223372036854775808 / topN mq) (topN mp * 9223372036854775808 % topN mq) _ ep eq (ep - shiftN mp) (eq - shiftN mq) (by omega) (by omega)
      (fun w => normal_w gp mp ep z1 h1 (by omega) (by omega) w) (fun w => normal_w gq mq eq z2 h2 (by omega) (by omega) w) (by omega) (by rw [IntKind.wrap_u64]; omega) (fun w => ?_) (fun w => ?_) w
    · have hd := div64_w (topN mp / 2) (topN mp % 2 * 9223372036854775808) (topN mq) b2.1 b2.2 (by omega) (by omega) (by omega) w
      rw [e0] at hd
      exact hd.mono fun x w' h => ⟨h.1, 0, h.2.symm⟩
    · have hlt : topN mp * 9223372036854775808 / topN mq < 18446744073709551616 := by
        refine Nat.div_lt_of_lt_mul ?_
        have h : 9223372036854775808 * 18446744073709551616 ≤ topN mq * 18446744073709551616 := Nat.mul_le_mul_right _ b2.1
        omega
      have hm := mark_w (topN mp * 9223372036854775808 / topN mq) (decide (topN mp * 9223372036854775808 % topN mq ≠ 0)) hlt w
      have e : (((topN mp * 9223372036854775808 % topN mq : Nat) : Int) != 0) = decide (topN mp * 9223372036854775808 % topN mq ≠ 0) := by
        generalize topN mp * 9223372036854775808 % topN mq = z
        rw [Bool.eq_iff_iff]; simp only [bne_iff_ne, ne_eq, decide_eq_true_eq]; omega
      rw [e]
      exact hm

theorem div_bits {a b : Nat} (ha : a < 18446744073709551616) (hb : b < 18446744073709551616) (na : nanB a = false) (nb : nanB b = false) (fa : finB a = false) :
    floatBits .quo .f64 a b = if !finB b then none else some (infW (signB a != signB b)) := by
  show ((Ieee.double.read a).quotient _ (Ieee.double.read b)).map Ieee.double.write = _
  have wi : ∀ s t : Bool, Ieee.double.write (.infinity (s ^^ t)) = infW (s != t) := by intro s t; cases s <;> cases t <;> decide
  unfold signB
  rw [read_inf ha na fa]
  cases fb : finB b
  · rw [read_inf hb nb fb]; rfl
  · obtain ⟨e, he⟩ := read_fin hb fb
    rw [he]
    simp only [Ieee.Datum.quotient, Option.map, wi, Bool.not_true, Bool.false_eq_true, if_false]

theorem div_w (a b : Nat) (dir : Int) (ha : a < 18446744073709551616) (hb : b < 18446744073709551616) (w : World) :
    Calls Try.prog 14 #[.float .f64 a, .float .f64 b, .int .i64 dir] w fun x w' => Ans (divR a b dir) x ∧ Below w.heap.size w w' := by
  unfold divR
  cases na : nanB a
  · cases nb : nanB b
    · have ob := ord_zero hb nb
      cases zb : isZ b
      · rw [zb] at ob
        simp only [Bool.or_self, Bool.false_eq_true, if_false]
        obtain ⟨ga, ma, ea, sa⟩ := split_any a ha
        obtain ⟨gb, mb, eb, sb⟩ := split_any b hb
        cases fa : finB a
        · rw [fa] at sa
          simp only [Bool.not_false, if_true]
          refine div_inf a b dir ha hb na nb ob ga gb (finB b) ma mb ea eb _ ?_ sa sb (div_bits ha hb na nb fa) w
          intro r hr
          split at hr
          · cases hr
          · cases hr; exact infW_lt _
        · cases fb : finB b
          · rw [fa] at sa
            rw [fb] at sb
            simp only [Bool.not_true, Bool.false_eq_true, if_false, Bool.not_false, if_true]
            exact div_by_inf a b dir ha hb na nb ob ga gb ma mb ea eb sa sb w
          · simp only [Bool.not_true, Bool.false_eq_true, if_false]
            have h1 := splitM_lt a
            have h2 := splitM_lt b
            have e1 := splitE_bounds fa
            have e2 := splitE_bounds fb
            obtain ⟨E, hE, hq⟩ := quotient_w (splitG a) (splitG b) (splitM a) (splitM b) (splitE a) (splitE b) (splitM_zero zb) (by omega) (by omega) (by omega) (by omega)
            have hm : quoM (splitM a) (splitM b) < 18446744073709551616 := by
              by_cases z : splitM a = 0
              · rw [z, quoM_zero]; omega
              · exact quoM_lt z (splitM_zero zb) (by omega) (by omega)
            have c := div_core a b dir ha hb na nb ob _ _ _ _ _ _ _ _ _ _ (fun w => split_w a ha fa w) (fun w => split_w b hb fb w) hq (fun w => round_w _ _ _ dir hm w) w
            have er : roundN (splitG a != splitG b) (quoM (splitM a) (splitM b)) E dir = divF a b dir := by
              unfold divF
              by_cases z : splitM a = 0
              · rw [z, quoM_zero]; rfl
              · rw [hE z]
            rw [er] at c
            have hf := (roundN_facts (splitG a != splitG b) (quoM (splitM a) (splitM b)) (quoE (splitM a) (splitE a) (splitM b) (splitE b)) dir hm).2.2
            exact c.mono fun x w' h => ⟨⟨_, h.1, hf, rfl⟩, h.2⟩
      · rw [zb] at ob
        simp only [Bool.or_true, if_true]
        exact div_nan a b dir ha hb (Or.inr (Or.inr ⟨na, nb, ob⟩)) w
    · simp only [Bool.or_true, Bool.true_or, if_true]
      exact div_nan a b dir ha hb (Or.inr (Or.inl ⟨na, nb⟩)) w
  · simp only [Bool.true_or, if_true]
    exact div_nan a b dir ha hb (Or.inl na) w

end Go.Proofs.Yteapiigegbdopaa
