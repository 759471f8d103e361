/- What Add, Sub, Mul, Div and Sqrt answer, of all words: the whole contracts. -/
import Derived.Test.YteapiigegbdopaaWq
import Derived.Test.YteapiigegbdopaaRn
namespace Go.Proofs.Yteapiigegbdopaa
open Go.ChangeShapes Go.WideShapes Go.ChangeAt Go.RowKit

theorem read_nan {x : Nat} (hx : x < 18446744073709551616) (h : nanB x = true) : ∃ s f, Ieee.double.read x = .nan s f := by
  have hr : 9218868437227405312 < x % 9223372036854775808 := by simpa [nanB] using h
  rw [read_eq x hx, if_neg (by omega), if_neg (by omega)]
  exact ⟨_, _, rfl⟩
theorem read_inf {x : Nat} (hx : x < 18446744073709551616) (h : nanB x = false) (hf : finB x = false) : Ieee.double.read x = .infinity (decide (9223372036854775808 ≤ x)) := by
  have hr : ¬ 9218868437227405312 < x % 9223372036854775808 := by simpa [nanB] using h
  have hg : ¬ x % 9223372036854775808 < 9218868437227405312 := by simpa [finB] using hf
  rw [read_eq x hx, if_neg hg, if_pos (by omega)]
theorem read_fin {x : Nat} (hx : x < 18446744073709551616) (hf : finB x = true) : ∃ e, Ieee.double.read x = .number (decide (9223372036854775808 ≤ x)) (splitM x) e := by
  have hg : x % 9223372036854775808 < 9218868437227405312 := by simpa [finB] using hf
  rw [read_eq x hx, if_pos hg]
  exact ⟨_, rfl⟩
theorem write_inf (s : Bool) : Ieee.double.write (.infinity s) = if s then 18442240474082181120 else 9218868437227405312 := by cases s <;> decide
theorem inf_word {x : Nat} (hx : x < 18446744073709551616) (h : nanB x = false) (hf : finB x = false) : x = if decide (9223372036854775808 ≤ x) then 18442240474082181120 else 9218868437227405312 := by
  have hr : ¬ 9218868437227405312 < x % 9223372036854775808 := by simpa [nanB] using h
  have hg : ¬ x % 9223372036854775808 < 9218868437227405312 := by simpa [finB] using hf
  by_cases c : 9223372036854775808 ≤ x
  · simp only [c, decide_true, if_true]; omega
  · simp only [c, decide_false, Bool.false_eq_true, if_false]; omega
theorem fin_not_nan {x : Nat} (hf : finB x = true) : nanB x = false := by
  have hg : x % 9223372036854775808 < 9218868437227405312 := by simpa [finB] using hf
  simp [nanB]; omega
theorem nan_not_fin {x : Nat} (h : nanB x = true) : finB x = false := by
  cases hf : finB x
  · rfl
  · rw [fin_not_nan hf] at h; cases h

theorem split_any (x : Nat) (hx : x < 18446744073709551616) : ∃ (g : Bool) (m : Nat) (e : Int), ∀ w, Calls Try.prog 47 #[.float .f64 x] w fun r w' => r = .returned (.tuple #[.agg #[.bool g, .int .u64 m, .int .i64 e], .bool (finB x)]) ∧ Below w.heap.size w w' := by
  cases hf : finB x
  · exact ⟨false, 0, 0, fun w => split_not x hx hf w⟩
  · exact ⟨_, _, _, fun w => split_w x hx hf w⟩

theorem splitM_norm {x : Nat} (hf : finB x = true) : splitM x ≠ 0 → -1074 < splitE x → 4503599627370496 ≤ splitM x := by
  have hg : x % 9223372036854775808 < 9218868437227405312 := by simpa [finB] using hf
  unfold splitM splitE
  intro h1 h2
  split at h2
  · split at h1 <;> omega
  · split <;> omega

def isZ (x : Nat) : Bool := decide (x % 9223372036854775808 = 0)
def infW (g : Bool) : Nat := if g then 18442240474082181120 else 9218868437227405312
def signB (x : Nat) : Bool := decide (9223372036854775808 ≤ x)

def addF (a b : Nat) (dir : Int) : Nat := roundN (sumG (splitG a) (splitM a) (splitE a) (splitG b) (splitM b) (splitE b)) (sumM (splitG a) (splitM a) (splitE a) (splitG b) (splitM b) (splitE b)) (sumE (splitM a) (splitE a) (splitM b) (splitE b)) dir
def addR (a b : Nat) (dir : Int) : Option Nat :=
  if nanB a || nanB b then none else if finB a && finB b then some (addF a b dir) else if !finB a && !finB b && (signB a != signB b) then none else some (if finB a then b else a)

theorem markN_lt {m : Nat} {l : Bool} (h : m < 18446744073709551616) : markN m l < 18446744073709551616 := by unfold markN; split <;> omega
theorem moveN_lt {m n : Nat} (h : m < 18446744073709551616) : moveN m n < 18446744073709551616 := markN_lt (Nat.lt_of_le_of_lt (Nat.div_le_self _ _) h)
theorem moveN_le {m n : Nat} (h : m ≤ 9223372036854775807) : moveN m n ≤ 9223372036854775808 := by
  have := Nat.div_le_self m (2 ^ n)
  unfold moveN markN; split <;> omega
theorem sumM_lt (ga : Bool) (ma : Nat) (ea : Int) (gb : Bool) (mb : Nat) (eb : Int) (h1 : ma < 9007199254740992) (h2 : mb < 9007199254740992) : sumM ga ma ea gb mb eb < 18446744073709551616 := by
  have hA : ∀ (g : Bool) (x : Nat) (e : Int) (g' : Bool) (y : Nat) (e' : Int), x < 9007199254740992 → y < 9007199254740992 → addM g x e g' y e' < 18446744073709551616 := fun g x e g' y e' hx hy => by
    have := moveN_le (m := y * 1024) (n := (e - e').toNat) (by omega)
    unfold addM; split <;> omega
  unfold sumM
  split
  · omega
  · split
    · omega
    · split
      · exact hA _ _ _ _ _ _ h2 h1
      · exact hA _ _ _ _ _ _ h1 h2

theorem add_bits {a b : Nat} (ha : a < 18446744073709551616) (hb : b < 18446744073709551616) (dir : Int) (hf : (finB a && finB b) = false) : floatBits .add .f64 a b = addR a b dir := by
  show ((Ieee.double.read a).sum (Ieee.double.read b)).map Ieee.double.write = _
  unfold addR
  cases na : nanB a
  · cases nb : nanB b
    · simp only [Bool.or_self, Bool.false_eq_true, if_false, hf]
      cases fa : finB a
      · rw [read_inf ha na fa]
        have ea := inf_word ha na fa
        cases fb : finB b
        · rw [read_inf hb nb fb]
          unfold signB
          simp only [Ieee.Datum.sum, Bool.not_false, Bool.true_and, Bool.false_eq_true, if_false]
          generalize decide (9223372036854775808 ≤ a) = s at *
          generalize decide (9223372036854775808 ≤ b) = t at *
          cases s <;> cases t <;> simp only [if_true, if_false, Option.map, write_inf, bne_self_eq_false, Bool.false_eq_true, Bool.true_eq_false] <;> first | rfl | (rw [ea]; rfl)
        · obtain ⟨e, he⟩ := read_fin hb fb
          rw [he]
          simp only [Ieee.Datum.sum, Option.map, write_inf, Bool.not_true, Bool.and_false, Bool.false_and, Bool.false_eq_true, if_false]
          rw [← ea]
      · have fb : finB b = false := by rw [fa] at hf; simpa using hf
        rw [read_inf hb nb fb]
        have eb := inf_word hb nb fb
        obtain ⟨e, he⟩ := read_fin ha fa
        rw [he]
        simp only [Ieee.Datum.sum, Option.map, write_inf, Bool.not_true, Bool.false_and, Bool.false_eq_true, if_false, if_true]
        rw [← eb]
    · obtain ⟨s, f, he⟩ := read_nan hb nb
      rw [he]
      simp only [Bool.or_true, if_true]
      cases Ieee.double.read a <;> rfl
  · obtain ⟨s, f, he⟩ := read_nan ha na
    rw [he]
    simp only [Bool.true_or, if_true]
    rfl

theorem add_w (a b : Nat) (dir : Int) (ha : a < 18446744073709551616) (hb : b < 18446744073709551616) (w : World) :
    Calls Try.prog 9 #[.float .f64 a, .float .f64 b, .int .i64 dir] w fun x w' => Ans (addR a b dir) x ∧ Below w.heap.size w w' := by
  by_cases hf : (finB a && finB b) = true
  · have fa : finB a = true := by cases h : finB a <;> simp_all
    have fb : finB b = true := by cases h : finB b <;> simp_all
    have e : addR a b dir = some (addF a b dir) := by unfold addR; simp only [fin_not_nan fa, fin_not_nan fb, fa, fb, Bool.or_self, Bool.and_self, Bool.false_eq_true, if_false, if_true]
    rw [e]
    have hm := sumM_lt (splitG a) (splitM a) (splitE a) (splitG b) (splitM b) (splitE b) (splitM_lt a) (splitM_lt b)
    have c := add_core a b dir _ _ _ _ _ _ _ _ _ _ (fun w => split_w a ha fa w) (fun w => split_w b hb fb w)
      (fun w => sum_w (splitG a) (splitG b) (splitM a) (splitM b) (splitE a) (splitE b) (splitM_lt a) (splitM_lt b) (splitE_bounds fa) (splitE_bounds fb) (splitM_norm fa) (splitM_norm fb) w)
      (fun w => round_w _ _ _ dir hm w) w
    exact c.mono fun x w' h => ⟨⟨_, h.1, (roundN_facts _ _ _ dir hm).2.2, rfl⟩, h.2⟩
  · have hf : (finB a && finB b) = false := by simpa using hf
    obtain ⟨ga, ma, ea, sa⟩ := split_any a ha
    obtain ⟨gb, mb, eb, sb⟩ := split_any b hb
    refine add_out a b dir ga gb (finB a) (finB b) ma mb ea eb (addR a b dir) hf ?_ sa sb (add_bits ha hb dir hf) w
    intro r hr
    have := floatBits_wf (op := .add) (k := .f64) (x := a) (y := b) (r := r) (by rw [add_bits ha hb dir hf, hr])
    simpa [Lit.wf] using this

theorem sub_w (a b : Nat) (dir : Int) (ha : a < 18446744073709551616) (hb : b < 18446744073709551616) (w : World) :
    Calls Try.prog 10 #[.float .f64 a, .float .f64 b, .int .i64 dir] w fun x w' => Ans (addR a (negB b) dir) x ∧ Below w.heap.size w w' := by
  have hneg : Op.negFloat .f64 b = negB b := negFloat_eq b hb
  have c := fun w => add_w a (negB b) dir ha (negB_lt hb) w
  generalize addR a (negB b) dir = o at *
  go_enter Try.func10, Try.ntmps10
  go_wp2_with (go_at_call 9; refine (c _).mono ?_; rintro _ w1 ⟨⟨r, rfl, h1, h2⟩, hb1⟩)
  go_ret
  exact ⟨⟨r, rfl, h1, h2⟩, hb1⟩

end Go.Proofs.Yteapiigegbdopaa
