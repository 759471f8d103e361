/- The walks of Div, Sqrt and Sub, way by way. -/
import Derived.Test.YteapiigegbdopaaWo
namespace Go.Proofs.Yteapiigegbdopaa
open Go.ChangeShapes Go.WideShapes Go.ChangeAt Go.RowKit

set_option maxHeartbeats 400000 in
theorem div_core (a b : Nat) (dir : Int) (hx : a < 18446744073709551616) (hy : b < 18446744073709551616) (na : nanB a = false) (nb : nanB b = false) (zb : (FloatKind.f64.format.order b 0 == some .eq) = false)
    (ga gb gs : Bool) (ma mb ms : Nat) (ea eb es : Int) (r : Nat)
    (ha : ∀ w, Calls Try.prog 47 #[.float .f64 a] w fun x w' => x = .returned (.tuple #[.agg #[.bool ga, .int .u64 ma, .int .i64 ea], .bool true]) ∧ Below w.heap.size w w')
    (hb : ∀ w, Calls Try.prog 47 #[.float .f64 b] w fun x w' => x = .returned (.tuple #[.agg #[.bool gb, .int .u64 mb, .int .i64 eb], .bool true]) ∧ Below w.heap.size w w')
    (hs : ∀ w, Calls Try.prog 56 #[.agg #[.bool ga, .int .u64 ma, .int .i64 ea], .agg #[.bool gb, .int .u64 mb, .int .i64 eb]] w fun x w' => x = .returned (.agg #[.bool gs, .int .u64 ms, .int .i64 es]) ∧ Below w.heap.size w w')
    (hr : ∀ w, Calls Try.prog 48 #[.agg #[.bool gs, .int .u64 ms, .int .i64 es], .int .i64 dir] w fun x w' => x = .returned (.float .f64 r) ∧ Below w.heap.size w w') (w : World) :
    Calls Try.prog 14 #[.float .f64 a, .float .f64 b, .int .i64 dir] w fun x w' => x = .returned (.float .f64 r) ∧ Below w.heap.size w w' := by
  go_enter Try.func14, Try.ntmps14
  go_upto_region 4 with (first | (go_at_call 50; refine (isNaN_w _ (by assumption) _).mono ?_; rintro _ _ ⟨rfl, rfl⟩) | (go_at_call_of 47 (Value.float .f64 a); refine (ha _).mono ?_; rintro _ w1 ⟨rfl, hb1⟩))
  go_wp2_with (first
    | (go_at_call_of 47 (Value.float .f64 b); refine (hb _).mono ?_; rintro _ w2 ⟨rfl, hb2⟩
       have c0 := keepsC hb2 (b := w1.heap.size) (o := 0) (v := .bool ga) (by go_simp) (by simp)
       have c1 := keepsC hb2 (b := w1.heap.size) (o := 1) (v := .int .u64 ma) (by go_simp) (by simp)
       have c2 := keepsC hb2 (b := w1.heap.size) (o := 2) (v := .int .i64 ea) (by go_simp) (by simp)
       have hsz : w1.heap.size < w2.heap.size := by have := hb2.size; simp only [World.size_alloc] at this; omega)
    | (go_at_call 56; refine (hs _).mono ?_; rintro _ w3 ⟨rfl, hb3⟩)
    | (go_at_call 48; refine (hr _).mono ?_; rintro _ w4 ⟨rfl, hb4⟩))
  all_goals
    go_ret
    refine ⟨rfl, ?_⟩
    have t2 : Below w.heap.size w (w1.alloc (Obj.cells #[Value.bool ga, Value.int IntKind.u64 ma, Value.int IntKind.i64 ea] 48)) := hb1.alloc hb1.size _
    have t3 := later t2 hb2
    have t4 : Below w.heap.size w (w2.alloc (Obj.cells #[Value.bool gb, Value.int IntKind.u64 mb, Value.int IntKind.i64 eb] 48)) := t3.alloc t3.size _
    exact later (later t4 hb3) hb4

theorem div_nan (a b : Nat) (dir : Int) (hx : a < 18446744073709551616) (hy : b < 18446744073709551616)
    (h : nanB a = true ∨ nanB a = false ∧ nanB b = true ∨ nanB a = false ∧ nanB b = false ∧ (FloatKind.f64.format.order b 0 == some .eq) = true) (w : World) :
    Calls Try.prog 14 #[.float .f64 a, .float .f64 b, .int .i64 dir] w fun x w' => Ans none x ∧ Below w.heap.size w w' := by
  rcases h with h | ⟨h, h2⟩ | ⟨h, h2, h3⟩
  all_goals
    go_enter Try.func14, Try.ntmps14
    go_wp2_with (first | (go_at_call 50; refine (isNaN_w _ (by assumption) _).mono ?_; rintro _ _ ⟨rfl, rfl⟩) | (go_at_call 51; refine (nan_w _).mono ?_; rintro _ _ ⟨rfl, rfl⟩))
    go_ret
    exact ⟨ans_nan, Below.refl _ _⟩

set_option maxHeartbeats 400000 in
theorem div_inf (a b : Nat) (dir : Int) (hx : a < 18446744073709551616) (hy : b < 18446744073709551616) (na : nanB a = false) (nb : nanB b = false) (zb : (FloatKind.f64.format.order b 0 == some .eq) = false)
    (ga gb fb : Bool) (ma mb : Nat) (ea eb : Int) (o : Option Nat) (hlt : ∀ r, o = some r → r < 18446744073709551616)
    (ha : ∀ w, Calls Try.prog 47 #[.float .f64 a] w fun x w' => x = .returned (.tuple #[.agg #[.bool ga, .int .u64 ma, .int .i64 ea], .bool false]) ∧ Below w.heap.size w w')
    (hb : ∀ w, Calls Try.prog 47 #[.float .f64 b] w fun x w' => x = .returned (.tuple #[.agg #[.bool gb, .int .u64 mb, .int .i64 eb], .bool fb]) ∧ Below w.heap.size w w')
    (ho : floatBits .quo .f64 a b = o) (w : World) :
    Calls Try.prog 14 #[.float .f64 a, .float .f64 b, .int .i64 dir] w fun x w' => Ans o x ∧ Below w.heap.size w w' := by
  cases o with
  | some r =>
    have hop := fun (t : TypeId) (w : World) => run_float_arith (P := Try.prog) w .quo t .f64 a b r ho
    have hl := hlt r rfl
    clear ho hlt
    go_enter Try.func14, Try.ntmps14
    go_upto_region 4 with (first | (go_at_call 50; refine (isNaN_w _ (by assumption) _).mono ?_; rintro _ _ ⟨rfl, rfl⟩) | (go_at_call_of 47 (Value.float .f64 a); refine (ha _).mono ?_; rintro _ w1 ⟨rfl, hb1⟩))
    go_wp2_with (first | (go_at_call_of 47 (Value.float .f64 b); refine (hb _).mono ?_; rintro _ w2 ⟨rfl, hb2⟩))
    go_ret
    have t2 : Below w.heap.size w (w1.alloc (Obj.cells #[Value.bool ga, Value.int IntKind.u64 ma, Value.int IntKind.i64 ea] 48)) := hb1.alloc hb1.size _
    have t3 := later t2 hb2
    exact ⟨⟨r, rfl, hl, rfl⟩, t3.alloc t3.size _⟩
  | none =>
    have hop := fun (t : TypeId) (w : World) => run_float_none .quo t a b (Or.inr (Or.inr rfl)) ho w
    clear ho hlt
    go_enter Try.func14, Try.ntmps14
    go_upto_region 4 with (first | (go_at_call 50; refine (isNaN_w _ (by assumption) _).mono ?_; rintro _ _ ⟨rfl, rfl⟩) | (go_at_call_of 47 (Value.float .f64 a); refine (ha _).mono ?_; rintro _ w1 ⟨rfl, hb1⟩))
    go_wp2_with (first | (go_at_call_of 47 (Value.float .f64 b); refine (hb _).mono ?_; rintro _ w2 ⟨rfl, hb2⟩))
    go_ret
    have t2 : Below w.heap.size w (w1.alloc (Obj.cells #[Value.bool ga, Value.int IntKind.u64 ma, Value.int IntKind.i64 ea] 48)) := hb1.alloc hb1.size _
    have t3 := later t2 hb2
    exact ⟨⟨_, rfl, (nanOf_nan _ _ _).2, (nanOf_nan _ _ _).1⟩, (t3.alloc t3.size _).drew⟩

set_option maxHeartbeats 400000 in
theorem div_by_inf (a b : Nat) (dir : Int) (hx : a < 18446744073709551616) (hy : b < 18446744073709551616) (na : nanB a = false) (nb : nanB b = false) (zb : (FloatKind.f64.format.order b 0 == some .eq) = false)
    (ga gb : Bool) (ma mb : Nat) (ea eb : Int)
    (ha : ∀ w, Calls Try.prog 47 #[.float .f64 a] w fun x w' => x = .returned (.tuple #[.agg #[.bool ga, .int .u64 ma, .int .i64 ea], .bool true]) ∧ Below w.heap.size w w')
    (hb : ∀ w, Calls Try.prog 47 #[.float .f64 b] w fun x w' => x = .returned (.tuple #[.agg #[.bool gb, .int .u64 mb, .int .i64 eb], .bool false]) ∧ Below w.heap.size w w') (w : World) :
    Calls Try.prog 14 #[.float .f64 a, .float .f64 b, .int .i64 dir] w fun x w' => Ans (some 0) x ∧ Below w.heap.size w w' := by
  go_enter Try.func14, Try.ntmps14
  go_upto_region 4 with (first | (go_at_call 50; refine (isNaN_w _ (by assumption) _).mono ?_; rintro _ _ ⟨rfl, rfl⟩) | (go_at_call_of 47 (Value.float .f64 a); refine (ha _).mono ?_; rintro _ w1 ⟨rfl, hb1⟩))
  go_wp2_with (first | (go_at_call_of 47 (Value.float .f64 b); refine (hb _).mono ?_; rintro _ w2 ⟨rfl, hb2⟩))
  go_ret
  have t2 : Below w.heap.size w (w1.alloc (Obj.cells #[Value.bool ga, Value.int IntKind.u64 ma, Value.int IntKind.i64 ea] 48)) := hb1.alloc hb1.size _
  have t3 := later t2 hb2
  exact ⟨⟨0, rfl, by omega, rfl⟩, t3.alloc t3.size _⟩

set_option maxHeartbeats 400000 in
theorem sqrt_core (a : Nat) (dir : Int) (hx : a < 18446744073709551616) (na : nanB a = false) (za : (FloatKind.f64.format.order a 0 == some .lt) = false)
    (ga gs : Bool) (ma ms : Nat) (ea es : Int) (r : Nat)
    (ha : ∀ w, Calls Try.prog 47 #[.float .f64 a] w fun x w' => x = .returned (.tuple #[.agg #[.bool ga, .int .u64 ma, .int .i64 ea], .bool true]) ∧ Below w.heap.size w w')
    (hs : ∀ w, Calls Try.prog 53 #[.agg #[.bool ga, .int .u64 ma, .int .i64 ea]] w fun x w' => x = .returned (.agg #[.bool gs, .int .u64 ms, .int .i64 es]) ∧ Below w.heap.size w w')
    (hr : ∀ w, Calls Try.prog 48 #[.agg #[.bool gs, .int .u64 ms, .int .i64 es], .int .i64 dir] w fun x w' => x = .returned (.float .f64 r) ∧ Below w.heap.size w w') (w : World) :
    Calls Try.prog 12 #[.float .f64 a, .int .i64 dir] w fun x w' => x = .returned (.float .f64 r) ∧ Below w.heap.size w w' := by
  go_enter Try.func12, Try.ntmps12
  go_wp2_with (first
    | (go_at_call 50; refine (isNaN_w _ (by assumption) _).mono ?_; rintro _ _ ⟨rfl, rfl⟩)
    | (go_at_call 47; refine (ha _).mono ?_; rintro _ w1 ⟨rfl, hb1⟩)
    | (go_at_call 53; refine (hs _).mono ?_; rintro _ w3 ⟨rfl, hb3⟩)
    | (go_at_call 48; refine (hr _).mono ?_; rintro _ w4 ⟨rfl, hb4⟩))
  all_goals
    go_ret
    refine ⟨rfl, ?_⟩
    have t2 : Below w.heap.size w (w1.alloc (Obj.cells #[Value.bool ga, Value.int IntKind.u64 ma, Value.int IntKind.i64 ea] 48)) := hb1.alloc hb1.size _
    exact later (later t2 hb3) hb4

theorem sqrt_nan (a : Nat) (dir : Int) (hx : a < 18446744073709551616) (h : nanB a = true ∨ nanB a = false ∧ (FloatKind.f64.format.order a 0 == some .lt) = true) (w : World) :
    Calls Try.prog 12 #[.float .f64 a, .int .i64 dir] w fun x w' => Ans none x ∧ Below w.heap.size w w' := by
  rcases h with h | ⟨h, h2⟩
  all_goals
    go_enter Try.func12, Try.ntmps12
    go_wp2_with (first | (go_at_call 50; refine (isNaN_w _ (by assumption) _).mono ?_; rintro _ _ ⟨rfl, rfl⟩) | (go_at_call 51; refine (nan_w _).mono ?_; rintro _ _ ⟨rfl, rfl⟩))
    go_ret
    exact ⟨ans_nan, Below.refl _ _⟩

theorem sqrt_inf (a : Nat) (dir : Int) (hx : a < 18446744073709551616) (na : nanB a = false) (za : (FloatKind.f64.format.order a 0 == some .lt) = false) (hf : finB a = false) (w : World) :
    Calls Try.prog 12 #[.float .f64 a, .int .i64 dir] w fun x w' => Ans (some a) x ∧ Below w.heap.size w w' := by
  go_enter Try.func12, Try.ntmps12
  go_wp2_with (first
    | (go_at_call 50; refine (isNaN_w _ (by assumption) _).mono ?_; rintro _ _ ⟨rfl, rfl⟩)
    | (go_at_call 47; refine (split_not a hx hf _).mono ?_; rintro _ w1 ⟨rfl, hb1⟩))
  go_ret
  exact ⟨⟨a, rfl, hx, rfl⟩, hb1.alloc hb1.size _⟩

end Go.Proofs.Yteapiigegbdopaa
