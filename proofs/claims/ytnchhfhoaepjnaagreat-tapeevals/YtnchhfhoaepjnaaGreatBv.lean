/- The reference's Mul: the exact product, rounded. The walk of the statement UlpProducts. -/
import Derived.Test.YtnchhfhoaepjnaaGreatBs
import Derived.Test.YtnchhfhoaepjnaaGreatRw
namespace Go.Proofs.YtnchhfhoaepjnaaGreat
open Go.ChangeShapes Go.WideShapes Go.ChangeAt Go.RowKit

theorem ofKey_key {r : Nat} (hr : r < 18446744073709551616) (hz : r ≠ 9223372036854775808) : ofKey (key r) = r := by
  unfold key ofKey
  by_cases h : r < 9223372036854775808
  · rw [if_pos h, if_neg (by omega)]; omega
  · rw [if_neg h, if_pos (by omega)]; omega

/-- A number that is not 0: its sign, as floats are held against 0. -/
theorem sign_order {x : Nat} (hx : x < 18446744073709551616) (hn : nanB x = false) (hz : isZ x = false) : FloatKind.f64.format.order x 0 = some .lt ∧ signB x = true ∨ FloatKind.f64.format.order x 0 = some .gt ∧ signB x = false := by
  unfold isZ at hz
  simp at hz
  unfold signB
  rcases cases0 x hx with ⟨h, _, _⟩ | ⟨_, ho, hc⟩ | ⟨_, ho, hc⟩ | ⟨_, ho, hc⟩
  · rw [hn] at h; cases h
  · omega
  · right; exact ⟨ho, by simp; omega⟩
  · left; exact ⟨ho, by simp; omega⟩

theorem V_sign {x : Nat} (hx : x < 18446744073709551616) (hf : finB x = true) : V (key x) = if splitG x then -(val (x % 9223372036854775808) : Int) else (val (x % 9223372036854775808) : Int) := by
  rw [signed_val hx hf, split_val hf]

theorem rmul_nan (a b : Nat) (dir : Int) (ha : a < 18446744073709551616) (hb : b < 18446744073709551616) (h : nanB a = true ∨ nanB a = false ∧ nanB b = true) (w : World) :
    Calls Tryz.prog 93 #[.float .f64 a, .float .f64 b, .int .i64 dir] w fun x w' => Ans none x ∧ Below w.heap.size w w' := by
  rcases h with h | ⟨h1, h2⟩
  all_goals
    go_enter Tryz.func93, Tryz.ntmps93
    go_wp2_with (first | (go_at_call 101; refine (isNum_w _ (by assumption) _).mono ?_; rintro _ _ ⟨rfl, rfl⟩) | (go_at_call 150; refine (nan_w _).mono ?_; rintro _ _ ⟨rfl, rfl⟩))
    go_ret
    exact ⟨ans_nan, Below.refl _ _⟩

theorem rmul_zero (a b : Nat) (dir : Int) (ha : a < 18446744073709551616) (hb : b < 18446744073709551616) (na : nanB a = false) (nb : nanB b = false) (h : (FloatKind.f64.format.order a 0 == some .eq) = true ∨ (FloatKind.f64.format.order a 0 == some .eq) = false ∧ (FloatKind.f64.format.order b 0 == some .eq) = true) (w : World) :
    Calls Tryz.prog 93 #[.float .f64 a, .float .f64 b, .int .i64 dir] w fun x w' => x = .returned (.float .f64 0) ∧ Below w.heap.size w w' := by
  rcases h with h | ⟨h1, h2⟩
  all_goals
    go_enter Tryz.func93, Tryz.ntmps93
    go_wp2_with (first | (go_at_call 101; refine (isNum_w _ (by assumption) _).mono ?_; rintro _ _ ⟨rfl, rfl⟩) | (go_at_call 150; refine (nan_w _).mono ?_; rintro _ _ ⟨rfl, rfl⟩))
    go_ret
    exact ⟨rfl, Below.refl _ _⟩

set_option maxHeartbeats 400000 in
theorem rmul_inf (a b : Nat) (dir : Int) (ha : a < 18446744073709551616) (hb : b < 18446744073709551616) (na : nanB a = false) (nb : nanB b = false) (za : isZ a = false) (zb : isZ b = false) (hf : finB a = false ∨ finB a = true ∧ finB b = false) (w : World) :
    Calls Tryz.prog 93 #[.float .f64 a, .float .f64 b, .int .i64 dir] w fun x w' => x = .returned (.float .f64 (infW (signB a != signB b))) ∧ Below w.heap.size w w' := by
  have ca := fun w => rfinite_w a ha w
  have cb := fun w => rfinite_w b hb w
  have HB : Below w.heap.size w w := Below.refl _ _
  rcases sign_order ha na za with ⟨oa, sa⟩ | ⟨oa, sa⟩ <;> rcases sign_order hb nb zb with ⟨ob, sb⟩ | ⟨ob, sb⟩ <;> rcases hf with fa | ⟨fa, fb⟩
  all_goals
    rw [sa, sb]
    rw [fa] at ca
    try rw [fb] at cb
    clear sa sb za zb
    go_enter Tryz.func93, Tryz.ntmps93
    go_wp2_with (first | (go_at_call 101; refine (isNum_w _ (by assumption) _).mono ?_; rintro _ _ ⟨rfl, rfl⟩) | (go_at_call_of 151 (Value.float .f64 a); refine (ca _).mono ?_; rintro _ w1 ⟨rfl, hb1⟩; replace HB := later HB hb1; clear hb1) | (go_at_call_of 151 (Value.float .f64 b); refine (cb _).mono ?_; rintro _ w2 ⟨rfl, hb1⟩; replace HB := later HB hb1; clear hb1) | (go_at_call 155; refine (rinf_w' _ _).mono ?_; rintro _ _ ⟨rfl, rfl⟩))
    go_ret
    exact ⟨rfl, HB⟩

set_option maxHeartbeats 1000000 in
theorem rmul_fin (a b : Nat) (dir : Int) (ha : a < 18446744073709551616) (hb : b < 18446744073709551616) (fa : finB a = true) (fb : finB b = true) (za : isZ a = false) (zb : isZ b = false) (w : World) :
    Calls Tryz.prog 93 #[.float .f64 a, .float .f64 b, .int .i64 dir] w fun x w' => x = .returned (.float .f64 (mulF a b dir)) ∧ Below w.heap.size w w' := by
  have ca := fun w => rfinite_w a ha w
  have cb := fun w => rfinite_w b hb w
  rw [fa] at ca
  rw [fb] at cb
  have na := fin_num fa
  have nb := fin_num fb
  have f0 := fun w => float_z a ha fa w
  have f1 := fun w => float_z b hb fb w
  have oa := ord_zero ha na
  have ob := ord_zero hb nb
  rw [za] at oa
  rw [zb] at ob
  obtain ⟨u, hu⟩ : ∃ u : Nat, u = 1073 := ⟨_, rfl⟩
  have hr := mulF_is dir hu ha hb fa fb (splitM_zero za) (splitM_zero zb)
  have hfacts : nanB (mulF a b dir) = false ∧ mulF a b dir ≠ 9223372036854775808 ∧ mulF a b dir < 18446744073709551616 := by
    have h1 := splitM_lt a
    have h2 := splitM_lt b
    exact roundN_facts _ _ _ dir (prodM_lt (splitM_zero za) (splitM_zero zb) (show splitM a < 18446744073709551616 by omega) (show splitM b < 18446744073709551616 by omega))
  have hok := ofKey_key hfacts.2.2 hfacts.2.1
  clear hfacts
  generalize mulF a b dir = M at *
  have cp := fun W v0 v1 (h0 : NumZ (-1074) 971 53 W v0 (V (key a))) (h1 : NumZ (-1074) 971 53 W v1 (V (key b))) => prod_z (S := -1074) (T := 971) (S' := -1074) (T' := 971) (K := 53) (by omega) (by omega) (by omega) (by omega) h0 h1
  have cw := fun W x (hx : NumZ (-1074 + -1074) (971 + 971) (53 + 53) W x (V (key a) * V (key b))) => whole_x (t := u) (by omega) hr (x := x) (w := W) (by
    have := hx.wide (T' := 6000) (K' := 20000) (by omega) (by omega)
    rw [show (-1074 : Int) + -1074 = -(u : Int) - 1075 by omega] at this
    exact this)
  rw [hok] at cw
  clear hr hok hu
  generalize V (key a) = A at *
  generalize V (key b) = B at *
  have HB : Below w.heap.size w w := Below.refl _ _
  go_enter Tryz.func93, Tryz.ntmps93
  go_wp2_with (first
    | (go_at_call 101; refine (isNum_w _ (by assumption) _).mono ?_; rintro _ _ ⟨rfl, rfl⟩)
    | (go_at_call_of 151 (Value.float .f64 a); refine (ca _).mono ?_; rintro _ w1 ⟨rfl, hb1⟩; replace HB := later HB hb1; clear hb1)
    | (go_at_call_of 151 (Value.float .f64 b); refine (cb _).mono ?_; rintro _ w2 ⟨rfl, hb1⟩; replace HB := later HB hb1; clear hb1)
    | (go_at_call_of 154 (Value.float .f64 a); refine (f0 _).mono ?_; rintro _ w3 ⟨⟨v0, rfl, hv0⟩, hb1⟩; replace HB := later HB hb1; clear hb1)
    | (go_at_call_of 154 (Value.float .f64 b); refine (f1 _).mono ?_; rintro _ w4 ⟨⟨v1, rfl, hv1⟩, hb1⟩; replace HB := later HB hb1; replace hv0 := hv0.keep hb1; clear hb1)
    | (go_at_call 156; refine (cp _ _ _ hv0 hv1).mono ?_; rintro _ w5 ⟨⟨v2, rfl, hv2⟩, hb1⟩; replace HB := later HB hb1; clear hb1)
    | (go_at_call 152; refine (cw _ _ hv2).mono ?_; rintro _ w6 ⟨rfl, hb1⟩; replace HB := later HB hb1; clear hb1))
  go_ret
  exact ⟨rfl, HB⟩

/-- THE REFERENCE's PRODUCT is the program's. -/
theorem rmul_w (a b : Nat) (dir : Int) (ha : a < 18446744073709551616) (hb : b < 18446744073709551616) (w : World) :
    Calls Tryz.prog 93 #[.float .f64 a, .float .f64 b, .int .i64 dir] w fun x w' => Ans (mulR a b dir) x ∧ Below w.heap.size w w' := by
  unfold mulR
  cases na : nanB a
  · cases nb : nanB b
    · simp only [Bool.or_self, Bool.false_eq_true, if_false]
      have oa := ord_zero ha na
      have ob := ord_zero hb nb
      cases za : isZ a
      · rw [za] at oa
        cases zb : isZ b
        · simp only [Bool.or_self, Bool.false_eq_true, if_false]
          cases fa : finB a
          · simp only [Bool.false_and, Bool.false_eq_true, if_false]
            exact (rmul_inf a b dir ha hb na nb za zb (Or.inl fa) w).mono fun x w' h => ⟨⟨_, h.1, infW_lt _, rfl⟩, h.2⟩
          · cases fb : finB b
            · simp only [Bool.and_false, Bool.false_eq_true, if_false]
              exact (rmul_inf a b dir ha hb na nb za zb (Or.inr ⟨fa, fb⟩) w).mono fun x w' h => ⟨⟨_, h.1, infW_lt _, rfl⟩, h.2⟩
            · simp only [Bool.and_self, if_true]
              have h1 := splitM_lt a
              have h2 := splitM_lt b
              have hm := (roundN_facts (splitG a != splitG b) _ (prodE (splitM a) (splitE a) (splitM b) (splitE b)) dir (prodM_lt (splitM_zero za) (splitM_zero zb) (show splitM a < 18446744073709551616 by omega) (show splitM b < 18446744073709551616 by omega))).2.2
              exact (rmul_fin a b dir ha hb fa fb za zb w).mono fun x w' h => ⟨⟨_, h.1, hm, rfl⟩, h.2⟩
        · rw [zb] at ob
          simp only [Bool.or_true, if_true]
          exact (rmul_zero a b dir ha hb na nb (Or.inr ⟨oa, ob⟩) w).mono fun x w' h => ⟨⟨_, h.1, by omega, rfl⟩, h.2⟩
      · rw [za] at oa
        simp only [Bool.true_or, if_true]
        exact (rmul_zero a b dir ha hb na nb (Or.inl oa) w).mono fun x w' h => ⟨⟨_, h.1, by omega, rfl⟩, h.2⟩
    · simp only [Bool.or_true, if_true]
      exact rmul_nan a b dir ha hb (Or.inr ⟨na, nb⟩) w
  · simp only [Bool.true_or, if_true]
    exact rmul_nan a b dir ha hb (Or.inl na) w

theorem ans_same {o : Option Nat} {x y : Ending} (hx : Ans o x) (hy : Ans o y) : ∃ r s, x = .returned (.float .f64 r) ∧ y = .returned (.float .f64 s) ∧ r < 18446744073709551616 ∧ s < 18446744073709551616 ∧ sameB r s = true := by
  obtain ⟨r, hr, lr, mr⟩ := hx
  obtain ⟨s, hs, ls, ms⟩ := hy
  refine ⟨r, s, hr, hs, lr, ls, ?_⟩
  unfold sameB
  cases o with
  | none =>
    have mr : nanB r = true := mr
    have ms : nanB s = true := ms
    rw [mr, ms]; rfl
  | some v =>
    have mr : r = v := mr
    have ms : s = v := ms
    subst mr
    rw [ms]
    cases nanB r <;> simp

end Go.Proofs.YtnchhfhoaepjnaaGreat
