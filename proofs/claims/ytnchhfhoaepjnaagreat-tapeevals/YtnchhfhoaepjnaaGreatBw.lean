/- The reference's Sqrt: the exact root, rounded; the walk of the statement UlpRoots. -/
import Derived.Test.YtnchhfhoaepjnaaGreatBv
namespace Go.Proofs.YtnchhfhoaepjnaaGreat
open Go.ChangeShapes Go.WideShapes Go.ChangeAt Go.RowKit

theorem rootF_facts {a : Nat} (d : Int) : nanB (sqrtF a d) = false ∧ sqrtF a d ≠ 9223372036854775808 ∧ sqrtF a d < 18446744073709551616 :=
  roundN_facts _ _ _ d (rootM_lt (by have := splitM_lt a; omega))

theorem rsqrt_nan (a : Nat) (dir : Int) (ha : a < 18446744073709551616) (h : nanB a = true ∨ nanB a = false ∧ FloatKind.f64.format.order a 0 = some .lt) (w : World) :
    Calls Tryz.prog 149 #[.float .f64 a, .int .i64 dir] w fun x w' => Ans none x ∧ Below w.heap.size w w' := by
  rcases h with h | ⟨h1, h2⟩
  all_goals
    go_enter Tryz.func149, Tryz.ntmps149
    go_wp2_with (first | (go_at_call 101; refine (isNum_w _ (by assumption) _).mono ?_; rintro _ _ ⟨rfl, rfl⟩) | (go_at_call 150; refine (nan_w _).mono ?_; rintro _ _ ⟨rfl, rfl⟩))
    go_ret
    exact ⟨ans_nan, Below.refl _ _⟩

theorem rsqrt_inf (a : Nat) (dir : Int) (ha : a < 18446744073709551616) (na : nanB a = false) (ho : FloatKind.f64.format.order a 0 = some .gt) (fa : finB a = false) (w : World) :
    Calls Tryz.prog 149 #[.float .f64 a, .int .i64 dir] w fun x w' => x = .returned (.float .f64 a) ∧ Below w.heap.size w w' := by
  have ca := fun w => rfinite_w a ha w
  rw [fa] at ca
  have HB : Below w.heap.size w w := Below.refl _ _
  go_enter Tryz.func149, Tryz.ntmps149
  go_wp2_with (first
    | (go_at_call 101; refine (isNum_w _ (by assumption) _).mono ?_; rintro _ _ ⟨rfl, rfl⟩)
    | (go_at_call 151; refine (ca _).mono ?_; rintro _ w1 ⟨rfl, hb1⟩; replace HB := later HB hb1; clear hb1))
  go_ret
  exact ⟨rfl, HB⟩

set_option maxHeartbeats 1000000 in
theorem rsqrt_fin (a : Nat) (dir : Int) (ha : a < 18446744073709551616) (fa : finB a = true) (ga : splitG a = false) (ho : FloatKind.f64.format.order a 0 = some .gt ∨ FloatKind.f64.format.order a 0 = some .eq) (hlt : sqrtF a dir < 18446744073709551616) (hnz : sqrtF a dir ≠ 9223372036854775808) (w : World) :
    Calls Tryz.prog 149 #[.float .f64 a, .int .i64 dir] w fun x w' => x = .returned (.float .f64 (sqrtF a dir)) ∧ Below w.heap.size w w' := by
  have ca := fun w => rfinite_w a ha w
  rw [fa] at ca
  have na := fin_num fa
  have f0 := fun w => float_z a ha fa w
  obtain ⟨u, hu⟩ : ∃ u : Nat, u = 1076 := ⟨_, rfl⟩
  have hr := sqrtF_is dir hu fa
  have hok := ofKey_key hlt hnz
  clear hlt hnz
  have vb := V_sign ha fa
  rw [ga] at vb
  simp only [Bool.false_eq_true, if_false] at vb
  rw [vb] at f0
  clear vb ga
  generalize sqrtF a dir = M at *
  generalize val (a % 9223372036854775808) = A at *
  have cr : ∀ W (g0 : Bool) (o0 : Option Addr) (l0 p0 : Nat) (e0 : Int), NumZ (-1074) 971 53 W (.agg #[.bool g0, .slice o0 l0 p0, .int .i64 e0]) (A : Int) →
      Calls Tryz.prog 187 #[.agg #[.bool g0, .slice o0 l0 p0, .int .i64 e0, .bool false, .slice none 0 0, .int .i64 0, .bool true], .int .i64 dir] W fun r w' => r = .returned (.float .f64 M) ∧ Below W.heap.size W w' := by
    intro W g0 o0 l0 p0 e0 h0
    rw [← hok]
    refine rounded_x (exS_ok _) hr ⟨g0, o0, l0, p0, e0, false, none, 0, 0, 0, true, rfl, Or.inr ⟨rfl, ((A * 2 ^ u : Nat) : Int), by omega, ?_, rfl⟩⟩
    have h1 := (h0.scale (S' := -2150) (t := u) (by omega)).wide (T' := 6000) (K' := 20000) (by omega) (by omega)
    rw [Int.natCast_mul]
    exact h1
  clear hr hok hu
  have HB : Below w.heap.size w w := Below.refl _ _
  rcases ho with ho | ho
  all_goals
    go_enter Tryz.func149, Tryz.ntmps149
    go_wp2_with (first
      | (go_at_call 101; refine (isNum_w _ (by assumption) _).mono ?_; rintro _ _ ⟨rfl, rfl⟩)
      | (go_at_call 151; refine (ca _).mono ?_; rintro _ w1 ⟨rfl, hb1⟩; replace HB := later HB hb1; clear hb1)
      | (go_at_call 154; refine (f0 _).mono ?_; rintro _ w3 ⟨⟨v0, rfl, hv0⟩, hb1⟩; obtain ⟨g0, o0, l0, p0, e0, rfl⟩ := hv0.shape; replace HB := later HB hb1; clear hb1)
      | (go_at_call 187; refine (cr _ _ _ _ _ _ hv0).mono ?_; rintro _ w6 ⟨rfl, hb1⟩; replace HB := later HB hb1; clear hb1))
    go_ret
    exact ⟨rfl, HB⟩

/-- THE REFERENCE's ROOT is the program's. -/
theorem rsqrt_w (a : Nat) (dir : Int) (ha : a < 18446744073709551616) (w : World) :
    Calls Tryz.prog 149 #[.float .f64 a, .int .i64 dir] w fun x w' => Ans (sqrtR a dir) x ∧ Below w.heap.size w w' := by
  unfold sqrtR
  rcases cases0 a ha with ⟨hn, ho, hc⟩ | ⟨hn, ho, hc⟩ | ⟨hn, ho, hc⟩ | ⟨hn, ho, hc⟩
  · rw [hn]
    simp only [Bool.true_or, if_true]
    exact rsqrt_nan a dir ha (Or.inl hn) w
  · have hg : splitG a = false := by unfold splitG; simp; omega
    have fa : finB a = true := by unfold finB; simp; omega
    have hm := rootF_facts (a := a) dir
    rw [hn, hg, fa]
    simp only [Bool.or_self, Bool.false_eq_true, if_false, if_true]
    exact (rsqrt_fin a dir ha fa hg (Or.inr ho) hm.2.2 hm.2.1 w).mono fun x w' h => ⟨⟨_, h.1, hm.2.2, rfl⟩, h.2⟩
  · have hg : splitG a = false := by unfold splitG; simp; omega
    rw [hn, hg]
    cases fa : finB a
    · simp only [Bool.or_self, Bool.false_eq_true, if_false]
      exact (rsqrt_inf a dir ha hn ho fa w).mono fun x w' h => ⟨⟨_, h.1, ha, rfl⟩, h.2⟩
    · have hm := rootF_facts (a := a) dir
      simp only [Bool.or_self, Bool.false_eq_true, if_false, if_true]
      exact (rsqrt_fin a dir ha fa hg (Or.inl ho) hm.2.2 hm.2.1 w).mono fun x w' h => ⟨⟨_, h.1, hm.2.2, rfl⟩, h.2⟩
  · have hg : splitG a = true := by unfold splitG; simp; omega
    rw [hn, hg]
    simp only [Bool.or_true, if_true]
    exact rsqrt_nan a dir ha (Or.inr ⟨hn, ho⟩) w

end Go.Proofs.YtnchhfhoaepjnaaGreat
