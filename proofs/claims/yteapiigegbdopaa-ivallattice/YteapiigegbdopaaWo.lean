/- The walks of Add, Mul, Div and Sqrt, way by way: what is no number, what is infinite, nought, and the finite ones. -/
import Derived.Test.YteapiigegbdopaaWn
namespace Go.Proofs.Yteapiigegbdopaa
open Go.ChangeShapes Go.WideShapes Go.ChangeAt Go.RowKit

/-- What a float operation without an answer hands back: some word that is no number. -/
def nanOf (a b : Nat) (w : World) : Nat := Question.cut (.nanBits .f64 a b) (w.tape w.drawn (.nanBits .f64 a b))
theorem nanOf_nan (a b : Nat) (w : World) : nanB (nanOf a b w) = true ∧ nanOf a b w < 18446744073709551616 := by
  unfold nanOf Question.cut nanB
  generalize w.tape w.drawn (.nanBits .f64 a b) = t
  have hm : t / 2 % (2 ^ 52 - 1) < 4503599627370495 := Nat.mod_lt _ (by decide)
  simp only [decide_eq_true_eq]
  generalize t / 2 % (2 ^ 52 - 1) = u at *
  rcases Nat.mod_two_eq_zero_or_one t with h | h
  · rw [h]; omega
  · rw [h]; omega

theorem run_float_none (op : BinOp) (t : TypeId) (a b : Nat) (hop : op = .add ∨ op = .mul ∨ op = .quo) (h : floatBits op .f64 a b = none) (w : World) :
    (binOp op t (.float .f64 a) (.float .f64 b)).run Try.prog w = .ok (.float .f64 (nanOf a b w)) w.drew := by
  rcases hop with rfl | rfl | rfl
  all_goals
    unfold floatBits at h
    simp only at h
    simp [binOp, Op.floatArith, h, nanOf, Question.forced]

/-- What is handed back: the word, or, where there is none, any word that is no number. -/
def Ans (o : Option Nat) (x : Ending) : Prop := ∃ r, x = .returned (.float .f64 r) ∧ r < 18446744073709551616 ∧ match o with | some v => r = v | none => nanB r = true

theorem ans_nan : Ans none (.returned (.float .f64 9221120237041090561)) := ⟨_, rfl, by omega, by decide⟩

set_option maxHeartbeats 400000 in
theorem add_out (a b : Nat) (dir : Int) (ga gb fa fb : Bool) (ma mb : Nat) (ea eb : Int) (o : Option Nat) (hf : (fa && fb) = false) (hlt : ∀ r, o = some r → r < 18446744073709551616)
    (ha : ∀ w, Calls Try.prog 47 #[.float .f64 a] w fun x w' => x = .returned (.tuple #[.agg #[.bool ga, .int .u64 ma, .int .i64 ea], .bool fa]) ∧ Below w.heap.size w w')
    (hb : ∀ w, Calls Try.prog 47 #[.float .f64 b] w fun x w' => x = .returned (.tuple #[.agg #[.bool gb, .int .u64 mb, .int .i64 eb], .bool fb]) ∧ Below w.heap.size w w')
    (ho : floatBits .add .f64 a b = o) (w : World) :
    Calls Try.prog 9 #[.float .f64 a, .float .f64 b, .int .i64 dir] w fun x w' => Ans o x ∧ Below w.heap.size w w' := by
  have fin : ∀ (w1 w2 : World) (hb1 : Below w.heap.size w w1) (hb2 : Below (w1.alloc (Obj.cells #[Value.bool ga, Value.int IntKind.u64 ma, Value.int IntKind.i64 ea] 48)).heap.size (w1.alloc (Obj.cells #[Value.bool ga, Value.int IntKind.u64 ma, Value.int IntKind.i64 ea] 48)) w2),
      Below w.heap.size w (w2.alloc (Obj.cells #[Value.bool gb, Value.int IntKind.u64 mb, Value.int IntKind.i64 eb] 48)) := fun w1 w2 hb1 hb2 => by
    have t2 : Below w.heap.size w (w1.alloc (Obj.cells #[Value.bool ga, Value.int IntKind.u64 ma, Value.int IntKind.i64 ea] 48)) := hb1.alloc hb1.size _
    have t3 := later t2 hb2
    exact t3.alloc t3.size _
  cases o with
  | some r =>
    have hop := fun (t : TypeId) (w : World) => run_float_arith (P := Try.prog) w .add t .f64 a b r ho
    have hl := hlt r rfl
    clear ho hlt
    cases fa <;> cases fb <;> (try (cases hf; done))
    all_goals
      go_enter Try.func9, Try.ntmps9
      go_upto_region 2 with (first | (go_at_call_of 47 (Value.float .f64 a); refine (ha _).mono ?_; rintro _ w1 ⟨rfl, hb1⟩))
      go_wp2_with (first | (go_at_call_of 47 (Value.float .f64 b); refine (hb _).mono ?_; rintro _ w2 ⟨rfl, hb2⟩))
      go_ret
      exact ⟨⟨r, rfl, hl, rfl⟩, fin w1 w2 hb1 hb2⟩
  | none =>
    have hop := fun (t : TypeId) (w : World) => run_float_none .add t a b (Or.inl rfl) ho w
    clear ho hlt
    cases fa <;> cases fb <;> (try (cases hf; done))
    all_goals
      go_enter Try.func9, Try.ntmps9
      go_upto_region 2 with (first | (go_at_call_of 47 (Value.float .f64 a); refine (ha _).mono ?_; rintro _ w1 ⟨rfl, hb1⟩))
      go_wp2_with (first | (go_at_call_of 47 (Value.float .f64 b); refine (hb _).mono ?_; rintro _ w2 ⟨rfl, hb2⟩))
      go_ret
      exact ⟨⟨_, rfl, (nanOf_nan _ _ _).2, (nanOf_nan _ _ _).1⟩, (fin w1 w2 hb1 hb2).drew⟩

set_option maxHeartbeats 400000 in
theorem mul_core (a b : Nat) (dir : Int) (hx : a < 18446744073709551616) (hy : b < 18446744073709551616) (na : nanB a = false) (nb : nanB b = false) (za : (FloatKind.f64.format.order a 0 == some .eq) = false) (zb : (FloatKind.f64.format.order b 0 == some .eq) = false)
    (ga gb gs : Bool) (ma mb ms : Nat) (ea eb es : Int) (r : Nat)
    (ha : ∀ w, Calls Try.prog 47 #[.float .f64 a] w fun x w' => x = .returned (.tuple #[.agg #[.bool ga, .int .u64 ma, .int .i64 ea], .bool true]) ∧ Below w.heap.size w w')
    (hb : ∀ w, Calls Try.prog 47 #[.float .f64 b] w fun x w' => x = .returned (.tuple #[.agg #[.bool gb, .int .u64 mb, .int .i64 eb], .bool true]) ∧ Below w.heap.size w w')
    (hs : ∀ w, Calls Try.prog 52 #[.agg #[.bool ga, .int .u64 ma, .int .i64 ea], .agg #[.bool gb, .int .u64 mb, .int .i64 eb]] w fun x w' => x = .returned (.agg #[.bool gs, .int .u64 ms, .int .i64 es]) ∧ Below w.heap.size w w')
    (hr : ∀ w, Calls Try.prog 48 #[.agg #[.bool gs, .int .u64 ms, .int .i64 es], .int .i64 dir] w fun x w' => x = .returned (.float .f64 r) ∧ Below w.heap.size w w') (w : World) :
    Calls Try.prog 11 #[.float .f64 a, .float .f64 b, .int .i64 dir] w fun x w' => x = .returned (.float .f64 r) ∧ Below w.heap.size w w' := by
  go_enter Try.func11, Try.ntmps11
  go_upto_region 6 with (first | (go_at_call 50; refine (isNaN_w _ (by assumption) _).mono ?_; rintro _ _ ⟨rfl, rfl⟩) | (go_at_call_of 47 (Value.float .f64 a); refine (ha _).mono ?_; rintro _ w1 ⟨rfl, hb1⟩))
  go_wp2_with (first
    | (go_at_call_of 47 (Value.float .f64 b); refine (hb _).mono ?_; rintro _ w2 ⟨rfl, hb2⟩
       have c0 := keepsC hb2 (b := w1.heap.size) (o := 0) (v := .bool ga) (by go_simp) (by simp)
       have c1 := keepsC hb2 (b := w1.heap.size) (o := 1) (v := .int .u64 ma) (by go_simp) (by simp)
       have c2 := keepsC hb2 (b := w1.heap.size) (o := 2) (v := .int .i64 ea) (by go_simp) (by simp)
       have hsz : w1.heap.size < w2.heap.size := by have := hb2.size; simp only [World.size_alloc] at this; omega)
    | (go_at_call 52; refine (hs _).mono ?_; rintro _ w3 ⟨rfl, hb3⟩)
    | (go_at_call 48; refine (hr _).mono ?_; rintro _ w4 ⟨rfl, hb4⟩))
  all_goals
    go_ret
    refine ⟨rfl, ?_⟩
    have t2 : Below w.heap.size w (w1.alloc (Obj.cells #[Value.bool ga, Value.int IntKind.u64 ma, Value.int IntKind.i64 ea] 48)) := hb1.alloc hb1.size _
    have t3 := later t2 hb2
    have t4 : Below w.heap.size w (w2.alloc (Obj.cells #[Value.bool gb, Value.int IntKind.u64 mb, Value.int IntKind.i64 eb] 48)) := t3.alloc t3.size _
    exact later (later t4 hb3) hb4

theorem mul_nan (a b : Nat) (dir : Int) (hx : a < 18446744073709551616) (hy : b < 18446744073709551616) (h : nanB a = true ∨ nanB a = false ∧ nanB b = true) (w : World) :
    Calls Try.prog 11 #[.float .f64 a, .float .f64 b, .int .i64 dir] w fun x w' => Ans none x ∧ Below w.heap.size w w' := by
  rcases h with h | ⟨h, h2⟩
  all_goals
    go_enter Try.func11, Try.ntmps11
    go_wp2_with (first | (go_at_call 50; refine (isNaN_w _ (by assumption) _).mono ?_; rintro _ _ ⟨rfl, rfl⟩) | (go_at_call 51; refine (nan_w _).mono ?_; rintro _ _ ⟨rfl, rfl⟩))
    go_ret
    exact ⟨ans_nan, Below.refl _ _⟩

theorem mul_zero (a b : Nat) (dir : Int) (hx : a < 18446744073709551616) (hy : b < 18446744073709551616) (na : nanB a = false) (nb : nanB b = false)
    (h : (FloatKind.f64.format.order a 0 == some .eq) = true ∨ (FloatKind.f64.format.order a 0 == some .eq) = false ∧ (FloatKind.f64.format.order b 0 == some .eq) = true) (w : World) :
    Calls Try.prog 11 #[.float .f64 a, .float .f64 b, .int .i64 dir] w fun x w' => Ans (some 0) x ∧ Below w.heap.size w w' := by
  rcases h with h | ⟨h, h2⟩
  all_goals
    go_enter Try.func11, Try.ntmps11
    go_wp2_with (first | (go_at_call 50; refine (isNaN_w _ (by assumption) _).mono ?_; rintro _ _ ⟨rfl, rfl⟩))
    go_ret
    exact ⟨⟨0, rfl, by omega, rfl⟩, Below.refl _ _⟩

set_option maxHeartbeats 400000 in
theorem mul_inf (a b : Nat) (dir : Int) (hx : a < 18446744073709551616) (hy : b < 18446744073709551616) (na : nanB a = false) (nb : nanB b = false) (za : (FloatKind.f64.format.order a 0 == some .eq) = false) (zb : (FloatKind.f64.format.order b 0 == some .eq) = false)
    (ga gb fa fb : Bool) (ma mb : Nat) (ea eb : Int) (r : Nat) (hl : r < 18446744073709551616) (hf : (fa && fb) = false)
    (ha : ∀ w, Calls Try.prog 47 #[.float .f64 a] w fun x w' => x = .returned (.tuple #[.agg #[.bool ga, .int .u64 ma, .int .i64 ea], .bool fa]) ∧ Below w.heap.size w w')
    (hb : ∀ w, Calls Try.prog 47 #[.float .f64 b] w fun x w' => x = .returned (.tuple #[.agg #[.bool gb, .int .u64 mb, .int .i64 eb], .bool fb]) ∧ Below w.heap.size w w')
    (ho : floatBits .mul .f64 a b = some r) (w : World) :
    Calls Try.prog 11 #[.float .f64 a, .float .f64 b, .int .i64 dir] w fun x w' => Ans (some r) x ∧ Below w.heap.size w w' := by
  have hop := fun (t : TypeId) (w : World) => run_float_arith (P := Try.prog) w .mul t .f64 a b r ho
  clear ho
  cases fa <;> cases fb <;> (try (cases hf; done))
  all_goals
    go_enter Try.func11, Try.ntmps11
    go_upto_region 6 with (first | (go_at_call 50; refine (isNaN_w _ (by assumption) _).mono ?_; rintro _ _ ⟨rfl, rfl⟩) | (go_at_call_of 47 (Value.float .f64 a); refine (ha _).mono ?_; rintro _ w1 ⟨rfl, hb1⟩))
    go_wp2_with (first | (go_at_call_of 47 (Value.float .f64 b); refine (hb _).mono ?_; rintro _ w2 ⟨rfl, hb2⟩))
    go_ret
    have t2 : Below w.heap.size w (w1.alloc (Obj.cells #[Value.bool ga, Value.int IntKind.u64 ma, Value.int IntKind.i64 ea] 48)) := hb1.alloc hb1.size _
    have t3 := later t2 hb2
    exact ⟨⟨r, rfl, hl, rfl⟩, t3.alloc t3.size _⟩

end Go.Proofs.Yteapiigegbdopaa
