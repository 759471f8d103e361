/- The walk of the statement UlpSides. -/
import Derived.Test.YtmkkaljmhagdfabSf
import Derived.Deep.CutRange
namespace Go.Proofs.Ytmkkaljmhagdfab
open Go.ChangeShapes Go.WideShapes Go.ChangeAt Go.RowKit

theorem add_t (a b : Nat) (dir : Int) (ha : a < 18446744073709551616) (hb : b < 18446744073709551616) (w : World) :
    Calls Try.prog 7 #[.float .f64 a, .float .f64 b, .int .i64 dir] w fun x w' => (∃ r, x = .returned (.float .f64 r) ∧ Told (addR a b dir) r) ∧ Below w.heap.size w w' := add_w a b dir ha hb w
theorem mul_t (a b : Nat) (dir : Int) (ha : a < 18446744073709551616) (hb : b < 18446744073709551616) (w : World) :
    Calls Try.prog 8 #[.float .f64 a, .float .f64 b, .int .i64 dir] w fun x w' => (∃ r, x = .returned (.float .f64 r) ∧ Told (mulR a b dir) r) ∧ Below w.heap.size w w' := mul_w a b dir ha hb w
theorem div_t (a b : Nat) (dir : Int) (ha : a < 18446744073709551616) (hb : b < 18446744073709551616) (w : World) :
    Calls Try.prog 9 #[.float .f64 a, .float .f64 b, .int .i64 dir] w fun x w' => (∃ r, x = .returned (.float .f64 r) ∧ Told (divR a b dir) r) ∧ Below w.heap.size w w' := div_w a b dir ha hb w
theorem sqrt_t (a : Nat) (dir : Int) (ha : a < 18446744073709551616) (w : World) :
    Calls Try.prog 10 #[.float .f64 a, .int .i64 dir] w fun x w' => (∃ r, x = .returned (.float .f64 r) ∧ Told (sqrtR a dir) r) ∧ Below w.heap.size w w' := sqrt_w a dir ha w

theorem mirror_cases {o p : Option Nat} {x y : Nat} (h : Mirror o p) (hx : Told o x) (hy : Told p y) :
    (FloatKind.f64.format.order x (negB y) == some .eq) = true ∨ (FloatKind.f64.format.order x (negB y) == some .eq) = false ∧ nanB x = true ∧ nanB y = true := by
  rcases h with ⟨rfl, rfl⟩ | ⟨x', y', rfl, rfl, n1, n2, k⟩
  · refine Or.inr ⟨?_, hx.2, hy.2⟩
    have n : nanB x = true := hx.2
    rw [order_eq x (negB y) hx.1 (negB_lt hy.1), n]; rfl
  · obtain rfl : x = x' := hx.2
    obtain rfl : y = y' := hy.2
    refine Or.inl ?_
    rw [order_is hx.1 (negB_lt hy.1) n1 (by rw [nanB_negB hy.1, n2]), key_negB hy.1]
    simp; omega

theorem same_told {o : Option Nat} {x y : Nat} (hx : Told o x) (hy : Told o y) : sameB x y = true := by
  cases o with
  | none =>
    have n1 : nanB x = true := hx.2
    have n2 : nanB y = true := hy.2
    unfold sameB; rw [n1, n2]; rfl
  | some v =>
    obtain rfl : x = v := hx.2
    obtain rfl : y = x := hy.2
    exact sameB_refl _

theorem same_t {o : Option Nat} {x y : Nat} (hx : Told o x) (hy : Told o y) (w : World) :
    Calls Try.prog 12 #[.float .f64 x, .float .f64 y] w fun e w' => e = .returned (.bool true) ∧ w = w' := by
  have h := same_w x y hx.1 hy.1 w
  rw [same_told hx hy] at h
  exact h

set_option maxHeartbeats 2000000 in
theorem ulpSides_core (a b na nb : Nat) (oA oM oD : Nat → Nat → Int → Option Nat) (oS : Nat → Int → Option Nat) (ha : a < 18446744073709551616) (hb : b < 18446744073709551616) (la : na < 18446744073709551616) (lb : nb < 18446744073709551616)
    (ea : Op.negFloat .f64 a = na) (eb : Op.negFloat .f64 b = nb)
    (cA : ∀ (a b : Nat) (dir : Int), a < 18446744073709551616 → b < 18446744073709551616 → ∀ w, Calls Try.prog 7 #[.float .f64 a, .float .f64 b, .int .i64 dir] w fun x w' => (∃ r, x = .returned (.float .f64 r) ∧ Told (oA a b dir) r) ∧ Below w.heap.size w w')
    (cM : ∀ (a b : Nat) (dir : Int), a < 18446744073709551616 → b < 18446744073709551616 → ∀ w, Calls Try.prog 8 #[.float .f64 a, .float .f64 b, .int .i64 dir] w fun x w' => (∃ r, x = .returned (.float .f64 r) ∧ Told (oM a b dir) r) ∧ Below w.heap.size w w')
    (cD : ∀ (a b : Nat) (dir : Int), a < 18446744073709551616 → b < 18446744073709551616 → ∀ w, Calls Try.prog 9 #[.float .f64 a, .float .f64 b, .int .i64 dir] w fun x w' => (∃ r, x = .returned (.float .f64 r) ∧ Told (oD a b dir) r) ∧ Below w.heap.size w w')
    (cS : ∀ (a : Nat) (dir : Int), a < 18446744073709551616 → ∀ w, Calls Try.prog 10 #[.float .f64 a, .int .i64 dir] w fun x w' => (∃ r, x = .returned (.float .f64 r) ∧ Told (oS a dir) r) ∧ Below w.heap.size w w')
    (sA : SidesO (oA a b (-1)) (oA a b 0) (oA a b 1)) (sM : SidesO (oM a b (-1)) (oM a b 0) (oM a b 1)) (sD : SidesO (oD a b (-1)) (oD a b 0) (oD a b 1)) (sS : SidesO (oS a (-1)) (oS a 0) (oS a 1))
    (mA : Mirror (oA a b (-1)) (oA na nb 1)) (mM : Mirror (oM a b (-1)) (oM na b 1)) (mD : Mirror (oD a b (-1)) (oD a nb 1)) (qA : oA b a 0 = oA a b 0) (qM : oM b a 1 = oM a b 1) (w : World) :
    Calls Try.prog 3 #[.float .f64 a, .float .f64 b] w fun x w' => x = .returned (.bool true) ∧ Below w.heap.size w w' := by
  have HB : Below w.heap.size w w := Below.refl _ _
  go_enter Try.func3, Try.ntmps3
  go_upto_if 59 with (first
    | (go_at_call 5; refine (alive_w _).mono ?_; rintro _ _ ⟨rfl, rfl⟩)
    | (go_at_call 7; refine (cA _ _ _ (by assumption) (by assumption) _).mono ?_; rintro _ w1 ⟨⟨r, rfl, t⟩, hb1⟩; replace HB := later HB hb1; clear hb1)
    | (go_at_call 8; refine (cM _ _ _ (by assumption) (by assumption) _).mono ?_; rintro _ w1 ⟨⟨r, rfl, t⟩, hb1⟩; replace HB := later HB hb1; clear hb1)
    | (go_at_call 9; refine (cD _ _ _ (by assumption) (by assumption) _).mono ?_; rintro _ w1 ⟨⟨r, rfl, t⟩, hb1⟩; replace HB := later HB hb1; clear hb1)
    | (go_at_call 10; refine (cS _ _ (by assumption) _).mono ?_; rintro _ w1 ⟨⟨r, rfl, t⟩, hb1⟩; replace HB := later HB hb1; clear hb1)
    | (go_at_call 6; refine (sides_told sA (by assumption) (by assumption) (by assumption) _).mono ?_; rintro _ w1 ⟨rfl, hb1⟩; replace HB := later HB hb1; clear hb1)
    | (go_at_call 6; refine (sides_told sM (by assumption) (by assumption) (by assumption) _).mono ?_; rintro _ w1 ⟨rfl, hb1⟩; replace HB := later HB hb1; clear hb1)
    | (go_at_call 6; refine (sides_told sD (by assumption) (by assumption) (by assumption) _).mono ?_; rintro _ w1 ⟨rfl, hb1⟩; replace HB := later HB hb1; clear hb1)
    | (go_at_call 6; refine (sides_told sS (by assumption) (by assumption) (by assumption) _).mono ?_; rintro _ w1 ⟨rfl, hb1⟩; replace HB := later HB hb1; clear hb1))
  clear sA sM sD sS
  go_upto_region 8 with (first
    | (go_at_call_of 7 (Value.float .f64 na); refine (cA _ _ _ (by assumption) (by assumption) _).mono ?_; rintro _ w1 ⟨⟨y, rfl, ty⟩, hb1⟩; replace HB := later HB hb1; clear hb1)
    | (go_at_call 7; refine (cA _ _ _ (by assumption) (by assumption) _).mono ?_; rintro _ w1 ⟨⟨x, rfl, tx⟩, hb1⟩; replace HB := later HB hb1; clear hb1)
    | (go_at_call_of 8 (Value.float .f64 na); refine (cM _ _ _ (by assumption) (by assumption) _).mono ?_; rintro _ w1 ⟨⟨v, rfl, tv⟩, hb1⟩; replace HB := later HB hb1; clear hb1)
    | (go_at_call 8; refine (cM _ _ _ (by assumption) (by assumption) _).mono ?_; rintro _ w1 ⟨⟨u, rfl, tu⟩, hb1⟩; replace HB := later HB hb1; clear hb1)
    | (go_at_call_of 9 (Value.float .f64 nb); refine (cD _ _ _ (by assumption) (by assumption) _).mono ?_; rintro _ w1 ⟨⟨z, rfl, tz⟩, hb1⟩; replace HB := later HB hb1; clear hb1)
    | (go_at_call 9; refine (cD _ _ _ (by assumption) (by assumption) _).mono ?_; rintro _ w1 ⟨⟨s, rfl, ts⟩, hb1⟩; replace HB := later HB hb1; clear hb1))
  have ey : Op.negFloat .f64 y = negB y := negFloat_eq y ty.1
  have ev : Op.negFloat .f64 v = negB v := negFloat_eq v tv.1
  have ez : Op.negFloat .f64 z = negB z := negFloat_eq z tz.1
  have lx := tx.1
  have ly := ty.1
  have lu := tu.1
  have lv := tv.1
  have ls := ts.1
  have lz := tz.1
  rcases mirror_cases mA tx ty with k1 | ⟨k1, k2, k3⟩ <;> rcases mirror_cases mM tu tv with k4 | ⟨k4, k5, k6⟩ <;> rcases mirror_cases mD ts tz with k7 | ⟨k7, k8, k9⟩
  all_goals
    clear mA mM mD tx ty tu tv ts tz
    simp only [List.append]
    go_wp2_with (first
      | (go_at_call 11; refine (isNum_w _ (by assumption) _).mono ?_; rintro _ _ ⟨rfl, rfl⟩)
      | (go_at_call 7; refine (cA _ _ _ (by assumption) (by assumption) _).mono ?_; rintro _ w1 ⟨⟨p, rfl, tp⟩, hb1⟩; replace HB := later HB hb1; clear hb1)
      | (go_at_call 8; refine (cM _ _ _ (by assumption) (by assumption) _).mono ?_; rintro _ w1 ⟨⟨p, rfl, tp⟩, hb1⟩; replace HB := later HB hb1; clear hb1)
      | (go_at_call 12; refine (same_t (o := oA a b 0) (by assumption) (by rw [← qA]; assumption) _).mono ?_; rintro _ _ ⟨rfl, rfl⟩)
      | (go_at_call 12; refine (same_t (o := oM a b 1) (by assumption) (by rw [← qM]; assumption) _).mono ?_; rintro _ _ ⟨rfl, rfl⟩))
    go_ret
    exact ⟨rfl, HB⟩

theorem ulpSides_w (a b : Nat) (ha : a < 18446744073709551616) (hb : b < 18446744073709551616) (w : World) :
    Calls Try.prog 3 #[.float .f64 a, .float .f64 b] w fun x w' => x = .returned (.bool true) ∧ Below w.heap.size w w' :=
  ulpSides_core a b (negB a) (negB b) addR mulR divR sqrtR ha hb (negB_lt ha) (negB_lt hb) (negFloat_eq a ha) (negFloat_eq b hb) add_t mul_t div_t sqrt_t
    (addR_sides ha hb) (mulR_sides a b) (divR_sides a b) (sqrtR_sides ha) (addR_mirror ha hb) (mulR_mirror ha) (divR_mirror hb) (addR_comm b a hb ha) (mulR_comm b a) w

end Go.Proofs.Ytmkkaljmhagdfab
