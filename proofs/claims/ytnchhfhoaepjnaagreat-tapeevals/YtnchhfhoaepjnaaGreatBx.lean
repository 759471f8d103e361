/- The reference's Div: the exact quotient, rounded; the walk of the statement UlpQuotients. -/
import Derived.Test.YtnchhfhoaepjnaaGreatBv
namespace Go.Proofs.YtnchhfhoaepjnaaGreat
open Go.ChangeShapes Go.WideShapes Go.ChangeAt Go.RowKit

theorem inf_nz {x : Nat} (h : finB x = false) : isZ x = false := by
  unfold finB at h; unfold isZ; simp at h ⊢; omega

theorem exD_exQ (g : Bool) (A P : Int) {D : Nat} (hD : 0 < D) : exD (A * P) (if g then -(D : Int) else D) = exQ ((if g then -A else A) * P) D := by
  unfold exD exQ
  cases g
  · have h : ¬ (D : Int) < 0 := by omega
    simp only [Bool.false_eq_true, if_false, h]
  · have h : -(D : Int) < 0 := by omega
    simp only [if_true, h]
    have e : -A * P = -(A * P) := Int.neg_mul _ _
    rw [e]
    congr 1
    · funext t
      rw [Int.mul_neg]
      exact propext ⟨fun q => by omega, fun q => by omega⟩
    · funext t
      rw [Int.mul_neg]
      exact propext ⟨fun q => by omega, fun q => by omega⟩

theorem rdiv_nan (a b : Nat) (dir : Int) (ha : a < 18446744073709551616) (hb : b < 18446744073709551616) (h : nanB a = true ∨ nanB a = false ∧ nanB b = true ∨ nanB a = false ∧ nanB b = false ∧ (FloatKind.f64.format.order b 0 == some .eq) = true) (w : World) :
    Calls Tryz.prog 197 #[.float .f64 a, .float .f64 b, .int .i64 dir] w fun x w' => Ans none x ∧ Below w.heap.size w w' := by
  rcases h with h | ⟨h1, h2⟩ | ⟨h1, h2, h3⟩
  all_goals
    go_enter Tryz.func197, Tryz.ntmps197
    go_wp2_with (first | (go_at_call 101; refine (isNum_w _ (by assumption) _).mono ?_; rintro _ _ ⟨rfl, rfl⟩) | (go_at_call 150; refine (nan_w _).mono ?_; rintro _ _ ⟨rfl, rfl⟩))
    go_ret
    exact ⟨ans_nan, Below.refl _ _⟩

set_option maxHeartbeats 400000 in
theorem rdiv_nans (a b : Nat) (dir : Int) (ha : a < 18446744073709551616) (hb : b < 18446744073709551616) (na : nanB a = false) (nb : nanB b = false) (zb : (FloatKind.f64.format.order b 0 == some .eq) = false) (fa : finB a = false) (fb : finB b = false) (w : World) :
    Calls Tryz.prog 197 #[.float .f64 a, .float .f64 b, .int .i64 dir] w fun x w' => Ans none x ∧ Below w.heap.size w w' := by
  have ca := fun w => rfinite_w a ha w
  have cb := fun w => rfinite_w b hb w
  rw [fa] at ca
  rw [fb] at cb
  have HB : Below w.heap.size w w := Below.refl _ _
  go_enter Tryz.func197, Tryz.ntmps197
  go_wp2_with (first
    | (go_at_call 101; refine (isNum_w _ (by assumption) _).mono ?_; rintro _ _ ⟨rfl, rfl⟩)
    | (go_at_call 150; refine (nan_w _).mono ?_; rintro _ _ ⟨rfl, rfl⟩)
    | (go_at_call_of 151 (Value.float .f64 a); refine (ca _).mono ?_; rintro _ w1 ⟨rfl, hb1⟩; replace HB := later HB hb1; clear hb1)
    | (go_at_call_of 151 (Value.float .f64 b); refine (cb _).mono ?_; rintro _ w2 ⟨rfl, hb1⟩; replace HB := later HB hb1; clear hb1))
  go_ret
  exact ⟨ans_nan, HB⟩

set_option maxHeartbeats 400000 in
theorem rdiv_inf (a b : Nat) (dir : Int) (ha : a < 18446744073709551616) (hb : b < 18446744073709551616) (na : nanB a = false) (nb : nanB b = false) (zb : isZ b = false) (fa : finB a = false) (fb : finB b = true) (w : World) :
    Calls Tryz.prog 197 #[.float .f64 a, .float .f64 b, .int .i64 dir] w fun x w' => x = .returned (.float .f64 (infW (signB a != signB b))) ∧ Below w.heap.size w w' := by
  have ca := fun w => rfinite_w a ha w
  have cb := fun w => rfinite_w b hb w
  rw [fa] at ca
  rw [fb] at cb
  have HB : Below w.heap.size w w := Below.refl _ _
  rcases sign_order ha na (inf_nz fa) with ⟨oa, sa⟩ | ⟨oa, sa⟩ <;> rcases sign_order hb nb zb with ⟨ob, sb⟩ | ⟨ob, sb⟩
  all_goals
    rw [sa, sb]
    clear sa sb zb
    go_enter Tryz.func197, Tryz.ntmps197
    go_wp2_with (first
      | (go_at_call 101; refine (isNum_w _ (by assumption) _).mono ?_; rintro _ _ ⟨rfl, rfl⟩)
      | (go_at_call_of 151 (Value.float .f64 a); refine (ca _).mono ?_; rintro _ w1 ⟨rfl, hb1⟩; replace HB := later HB hb1; clear hb1)
      | (go_at_call_of 151 (Value.float .f64 b); refine (cb _).mono ?_; rintro _ w2 ⟨rfl, hb1⟩; replace HB := later HB hb1; clear hb1)
      | (go_at_call 155; refine (rinf_w' _ _).mono ?_; rintro _ _ ⟨rfl, rfl⟩))
    go_ret
    exact ⟨rfl, HB⟩

set_option maxHeartbeats 400000 in
theorem rdiv_zero (a b : Nat) (dir : Int) (ha : a < 18446744073709551616) (hb : b < 18446744073709551616) (na : nanB a = false) (nb : nanB b = false) (zb : (FloatKind.f64.format.order b 0 == some .eq) = false) (fa : finB a = true) (fb : finB b = false) (w : World) :
    Calls Tryz.prog 197 #[.float .f64 a, .float .f64 b, .int .i64 dir] w fun x w' => x = .returned (.float .f64 0) ∧ Below w.heap.size w w' := by
  have ca := fun w => rfinite_w a ha w
  have cb := fun w => rfinite_w b hb w
  rw [fa] at ca
  rw [fb] at cb
  have HB : Below w.heap.size w w := Below.refl _ _
  go_enter Tryz.func197, Tryz.ntmps197
  go_wp2_with (first
    | (go_at_call 101; refine (isNum_w _ (by assumption) _).mono ?_; rintro _ _ ⟨rfl, rfl⟩)
    | (go_at_call_of 151 (Value.float .f64 a); refine (ca _).mono ?_; rintro _ w1 ⟨rfl, hb1⟩; replace HB := later HB hb1; clear hb1)
    | (go_at_call_of 151 (Value.float .f64 b); refine (cb _).mono ?_; rintro _ w2 ⟨rfl, hb1⟩; replace HB := later HB hb1; clear hb1))
  go_ret
  exact ⟨rfl, HB⟩

set_option maxHeartbeats 1000000 in
theorem rdiv_fin (a b : Nat) (dir : Int) (ha : a < 18446744073709551616) (hb : b < 18446744073709551616) (fa : finB a = true) (fb : finB b = true) (zb : isZ b = false) (hlt : divF a b dir < 18446744073709551616) (hnz : divF a b dir ≠ 9223372036854775808) (w : World) :
    Calls Tryz.prog 197 #[.float .f64 a, .float .f64 b, .int .i64 dir] w fun x w' => x = .returned (.float .f64 (divF a b dir)) ∧ Below w.heap.size w w' := by
  have ca := fun w => rfinite_w a ha w
  have cb := fun w => rfinite_w b hb w
  rw [fa] at ca
  rw [fb] at cb
  have na := fin_num fa
  have nb := fin_num fb
  have f0 := fun w => float_z a ha fa w
  have f1 := fun w => float_z b hb fb w
  have ob := ord_zero hb nb
  rw [zb] at ob
  obtain ⟨u, hu⟩ : ∃ u : Nat, u = 1075 := ⟨_, rfl⟩
  have hr := divF_is dir hu ha fa fb zb
  have hok := ofKey_key hlt hnz
  have hD : 0 < val (b % 9223372036854775808) := by
    have h0 : b % 9223372036854775808 ≠ 0 := by unfold isZ at zb; simpa using zb
    have := val_mono (show 0 < b % 9223372036854775808 by omega)
    rw [val_zero] at this
    exact this
  clear hlt hnz
  have vb := V_sign hb fb
  generalize divF a b dir = M at *
  have cr : ∀ W (g0 : Bool) (o0 : Option Addr) (l0 p0 : Nat) (e0 : Int) (g1 : Bool) (o1 : Option Addr) (l1 p1 : Nat) (e1 : Int), NumZ (-1074) 971 53 W (.agg #[.bool g0, .slice o0 l0 p0, .int .i64 e0]) (V (key a)) → NumZ (-1074) 971 53 W (.agg #[.bool g1, .slice o1 l1 p1, .int .i64 e1]) (V (key b)) →
      Calls Tryz.prog 187 #[.agg #[.bool g0, .slice o0 l0 p0, .int .i64 e0, .bool g1, .slice o1 l1 p1, .int .i64 e1, .bool false], .int .i64 dir] W fun r w' => r = .returned (.float .f64 M) ∧ Below W.heap.size W w' := by
    intro W g0 o0 l0 p0 e0 g1 o1 l1 p1 e1 h0 h1
    rw [← hok]
    refine rounded_x (exQ_ok _ hD) hr ⟨g0, o0, l0, p0, e0, g1, o1, l1, p1, e1, false, rfl, Or.inl ⟨rfl, -1074, V (key a) * ((2 ^ u : Nat) : Int), V (key b), by omega, by omega, ?_, h1.wide (by omega) (by omega), ?_⟩⟩
    · exact (h0.scale (S' := -1074 - 1075) (t := u) (by omega)).wide (by omega) (by omega)
    · rw [vb, exD_exQ _ _ _ hD]
  clear hr hok hu hD vb
  generalize V (key a) = A at *
  generalize V (key b) = B at *
  have HB : Below w.heap.size w w := Below.refl _ _
  go_enter Tryz.func197, Tryz.ntmps197
  go_wp2_with (first
    | (go_at_call 101; refine (isNum_w _ (by assumption) _).mono ?_; rintro _ _ ⟨rfl, rfl⟩)
    | (go_at_call_of 151 (Value.float .f64 a); refine (ca _).mono ?_; rintro _ w1 ⟨rfl, hb1⟩; replace HB := later HB hb1; clear hb1)
    | (go_at_call_of 151 (Value.float .f64 b); refine (cb _).mono ?_; rintro _ w2 ⟨rfl, hb1⟩; replace HB := later HB hb1; clear hb1)
    | (go_at_call_of 154 (Value.float .f64 a); refine (f0 _).mono ?_; rintro _ w3 ⟨⟨v0, rfl, hv0⟩, hb1⟩; obtain ⟨g0, o0, l0, p0, e0, rfl⟩ := hv0.shape; replace HB := later HB hb1; clear hb1)
    | (go_at_call_of 154 (Value.float .f64 b); refine (f1 _).mono ?_; rintro _ w4 ⟨⟨v1, rfl, hv1⟩, hb1⟩; obtain ⟨g1, o1, l1, p1, e1, rfl⟩ := hv1.shape; replace HB := later HB hb1; replace hv0 := hv0.keep hb1; clear hb1)
    | (go_at_call 187; refine (cr _ _ _ _ _ _ _ _ _ _ _ hv0 hv1).mono ?_; rintro _ w6 ⟨rfl, hb1⟩; replace HB := later HB hb1; clear hb1))
  go_ret
  exact ⟨rfl, HB⟩

/-- THE REFERENCE's QUOTIENT is the program's. -/
theorem rdiv_w (a b : Nat) (dir : Int) (ha : a < 18446744073709551616) (hb : b < 18446744073709551616) (w : World) :
    Calls Tryz.prog 197 #[.float .f64 a, .float .f64 b, .int .i64 dir] w fun x w' => Ans (divR a b dir) x ∧ Below w.heap.size w w' := by
  unfold divR
  cases na : nanB a
  · cases nb : nanB b
    · have ob := ord_zero hb nb
      cases zb : isZ b
      · rw [zb] at ob
        simp only [Bool.or_self, Bool.false_eq_true, if_false]
        cases fa : finB a
        · simp only [Bool.not_false, if_true]
          cases fb : finB b
          · simp only [Bool.not_false, if_true]
            exact rdiv_nans a b dir ha hb na nb ob fa fb w
          · simp only [Bool.not_true, Bool.false_eq_true, if_false]
            exact (rdiv_inf a b dir ha hb na nb zb fa fb w).mono fun x w' h => ⟨⟨_, h.1, infW_lt _, rfl⟩, h.2⟩
        · cases fb : finB b
          · simp only [Bool.not_true, Bool.false_eq_true, if_false, Bool.not_false, if_true]
            exact (rdiv_zero a b dir ha hb na nb ob fa fb w).mono fun x w' h => ⟨⟨_, h.1, by omega, rfl⟩, h.2⟩
          · simp only [Bool.not_true, Bool.false_eq_true, if_false]
            have hm := roundN_facts (splitG a != splitG b) _ (quoE (splitM a) (splitE a) (splitM b) (splitE b)) dir (divM_lt (a := a) zb)
            exact (rdiv_fin a b dir ha hb fa fb zb hm.2.2 hm.2.1 w).mono fun x w' h => ⟨⟨_, h.1, hm.2.2, rfl⟩, h.2⟩
      · rw [zb] at ob
        simp only [Bool.or_true, if_true]
        exact rdiv_nan a b dir ha hb (Or.inr (Or.inr ⟨na, nb, ob⟩)) w
    · simp only [Bool.or_true, Bool.true_or, if_true]
      exact rdiv_nan a b dir ha hb (Or.inr (Or.inl ⟨na, nb⟩)) w
  · simp only [Bool.true_or, if_true]
    exact rdiv_nan a b dir ha hb (Or.inl na) w

end Go.Proofs.YtnchhfhoaepjnaaGreat
