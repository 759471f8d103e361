/- The walks of the reference's grid and Rounded: the document's rounding of an exact number. -/
import Derived.Test.YtgigndboadmacaaBq
import Derived.Test.YtgigndboadmacaaRv
namespace Go.Proofs.Ytgigndboadmacaa
open Go.ChangeShapes Go.WideShapes Go.ChangeAt Go.RowKit

theorem NumZ.put {S T : Int} {K : Nat} {w : World} {x : Value} {z : Int} (h : NumZ S T K w x z) {b : Nat} (hb : Boxed w b) (o : Nat) (y : Value) : NumZ S T K (w.setCell ⟨b, o, none⟩ y) x z := by
  obtain ⟨g, v, m, e, h1, h2, h3⟩ := h
  exact ⟨g, v, m, e, h1, h2.put hb o y, h3⟩

theorem val_top {u : Nat} (hu : u = 2046) : val 9218868437227405312 = 2 ^ (52 + u) := by
  unfold val
  rw [if_neg (by omega), show 9218868437227405312 / 4503599627370496 - 1 = 2046 from rfl, ← hu, show 4503599627370496 + 9218868437227405312 % 4503599627370496 = 2 ^ 52 from rfl, ← Nat.pow_add]

theorem V_top {t : Nat} (ht : t = 2098) : V 9218868437227405312 = ((2 ^ t : Nat) : Int) := by
  obtain ⟨u, hu⟩ : ∃ u : Nat, u = 2046 := ⟨_, rfl⟩
  have h := V_nat 9218868437227405312
  rw [show ((9218868437227405312 : Nat) : Int) = 9218868437227405312 from rfl, val_top hu] at h
  rw [h, show t = 52 + u by omega]

theorem V_bot {t : Nat} (ht : t = 2098) : V (-9218868437227405312) = -((2 ^ t : Nat) : Int) := by
  rw [V_neg, V_top ht]

set_option maxHeartbeats 1000000 in
theorem grid_z (i : Int) (h : -9218868437227405312 ≤ i ∧ i ≤ 9218868437227405312) (w : World) :
    Calls Try.prog 64 #[.int .i64 i] w fun r w' => (∃ v, r = .returned v ∧ NumZ (-1074) 1024 53 w' v (V i)) ∧ Below w.heap.size w w' := by
  have co := fun w => of_w 1 (by omega) w
  by_cases h1 : 9218868437227405311 < i
  · have : i = 9218868437227405312 := by omega
    subst this
    obtain ⟨t, ht⟩ : ∃ t : Nat, t = 2098 := ⟨_, rfl⟩
    have hV := V_top ht
    generalize V 9218868437227405312 = Z at *
    have HV : Hid _ := hV
    have HT : Hid (t = 2098) := ht
    clear hV h1 ht
    go_enter Try.func64, Try.ntmps64
    go_wp2_with
     (go_at_call 32; refine (co _).mono ?_; rintro _ w6 ⟨⟨v3, rfl, hv3⟩, hb6⟩
      obtain ⟨o3, l3, p3, rfl, -⟩ := hv3.shape
      have R : Has3 w6 w.heap.size (.bool false) (.slice none 0 0) (.int .i64 0) := Has3.keep ⟨by go_simp, by go_simp, by go_simp, by go_simp, by go_simp, by go_simp, by go_size⟩ hb6
      have B := (Boxed.new w #[.bool false, .slice none 0 0, .int .i64 0]).keep hb6
      have HB : Below w.heap.size w w6 := later (by go_grown) hb6
      obtain ⟨z0, z1, z2, z3, z4, z5, z6⟩ := R)
    refine bodyPost_ret (v := .agg #[.bool false, .slice o3 l3 p3, .int .i64 1024]) (by simp [results, Try.results64, go_sem, *]) rfl ⟨⟨_, rfl, false, _, 1, 1024, rfl, ?_, by omega, by omega, by omega, ?_⟩, ?_⟩
    rotate_left
    · rw [HV.out, Nat.one_mul, show (1024 - -1074 : Int).toNat = t by rw [HT.out]; rfl]; rfl
    all_goals repeat' (first | (with_reducible exact hv3) | (with_reducible exact HB) | (with_reducible exact B) | (with_reducible refine BigIs.put ?_ ?_ _ _) | (with_reducible refine Boxed.set ?_ _ _ _) | (with_reducible refine Below.setCell ?_ ?_ _) | go_size)
  · by_cases h2 : i < -9218868437227405311
    · have : i = -9218868437227405312 := by omega
      subst this
      obtain ⟨t, ht⟩ : ∃ t : Nat, t = 2098 := ⟨_, rfl⟩
      have hV := V_bot ht
      generalize V (-9218868437227405312) = Z at *
      have HV : Hid _ := hV
      have HT : Hid (t = 2098) := ht
      clear hV h1 h2 ht
      go_enter Try.func64, Try.ntmps64
      go_wp2_with
       (go_at_call 32; refine (co _).mono ?_; rintro _ w6 ⟨⟨v3, rfl, hv3⟩, hb6⟩
        obtain ⟨o3, l3, p3, rfl, -⟩ := hv3.shape
        have R : Has3 w6 w.heap.size (.bool false) (.slice none 0 0) (.int .i64 0) := Has3.keep ⟨by go_simp, by go_simp, by go_simp, by go_simp, by go_simp, by go_simp, by go_size⟩ hb6
        have B := (Boxed.new w #[.bool false, .slice none 0 0, .int .i64 0]).keep hb6
        have HB : Below w.heap.size w w6 := later (by go_grown) hb6
        obtain ⟨z0, z1, z2, z3, z4, z5, z6⟩ := R)
      refine bodyPost_ret (v := .agg #[.bool true, .slice o3 l3 p3, .int .i64 1024]) (by simp [results, Try.results64, go_sem, *]) rfl ⟨⟨_, rfl, true, _, 1, 1024, rfl, ?_, by omega, by omega, by omega, ?_⟩, ?_⟩
      rotate_left
      · rw [HV.out, Nat.one_mul, show (1024 - -1074 : Int).toNat = t by rw [HT.out]; rfl]; rfl
      all_goals repeat' (first | (with_reducible exact hv3) | (with_reducible exact HB) | (with_reducible exact B) | (with_reducible refine BigIs.put ?_ ?_ _ _) | (with_reducible refine Boxed.set ?_ _ _ _) | (with_reducible refine Below.setCell ?_ ?_ _) | go_size)
    · obtain ⟨k1, k2, k3⟩ := ofKey_facts (M := i) (by omega)
      have ca := fun w => at_w i (by omega) (by omega) w
      have cf := fun w => float_z (ofKey i) k1 k2 w
      rw [k3] at cf
      generalize ofKey i = F at *
      go_enter Try.func64, Try.ntmps64
      go_wp2_with (first
        | (go_at_call 59; refine (ca _).mono ?_; rintro _ _ ⟨rfl, rfl⟩)
        | (go_at_call 37; refine (cf _).mono ?_; rintro _ w6 ⟨⟨v3, rfl, hv3⟩, hb6⟩
           obtain ⟨g3, o3, l3, p3, e3, rfl⟩ := hv3.shape
           have R : Has3 w6 w.heap.size (.bool false) (.slice none 0 0) (.int .i64 0) := Has3.keep ⟨by go_simp, by go_simp, by go_simp, by go_simp, by go_simp, by go_simp, by go_size⟩ hb6
           have B := (Boxed.new w #[.bool false, .slice none 0 0, .int .i64 0]).keep hb6
           have HB : Below w.heap.size w w6 := later (by go_grown) hb6
           obtain ⟨z0, z1, z2, z3, z4, z5, z6⟩ := R))
      refine bodyPost_ret (v := .agg #[.bool g3, .slice o3 l3 p3, .int .i64 e3]) (by simp [results, Try.results64, go_sem, *]) rfl ⟨⟨_, rfl, ?_⟩, ?_⟩
      · refine NumZ.wide ?_ (by omega) (Nat.le_refl 53) (T := 971)
        repeat' (first | (with_reducible exact hv3) | (with_reducible exact B) | (with_reducible refine NumZ.put ?_ ?_ _ _) | (with_reducible refine Boxed.set ?_ _ _ _))
      · repeat' (first | (with_reducible exact HB) | (with_reducible refine Below.setCell ?_ ?_ _) | go_size)

end Go.Proofs.Ytgigndboadmacaa
