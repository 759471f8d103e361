/- The walks of Sub, leastProduct, stretch. -/
import Derived.Test.YteapiigegbdopaaIm
namespace Go.Proofs.Yteapiigegbdopaa
open Go.ChangeShapes Go.WideShapes Go.ChangeAt Go.RowKit

set_option maxHeartbeats 1000000 in
theorem sub_i (xl xh yl yh nl nh : Nat) (o1 o2 : Option Nat)
    (cn : ∀ w, Calls Try.prog 36 #[.agg #[.float .f64 yl, .float .f64 yh]] w fun e w' => e = .returned (.agg #[.float .f64 nl, .float .f64 nh]) ∧ Below w.heap.size w w')
    (ca : ∀ w, Calls Try.prog 33 #[.agg #[.float .f64 xl, .float .f64 xh], .agg #[.float .f64 nl, .float .f64 nh]] w fun e w' => (∃ r1 r2, e = .returned (.agg #[.float .f64 r1, .float .f64 r2]) ∧ Told o1 r1 ∧ Told o2 r2) ∧ Below w.heap.size w w') (w : World) :
    Calls Try.prog 34 #[.agg #[.float .f64 xl, .float .f64 xh], .agg #[.float .f64 yl, .float .f64 yh]] w fun e w' => (∃ r1 r2, e = .returned (.agg #[.float .f64 r1, .float .f64 r2]) ∧ Told o1 r1 ∧ Told o2 r2) ∧ Below w.heap.size w w' := by
  go_enter Try.func34, Try.ntmps34
  go_upto_region 1 with fail
  have X : Has2 (((w.alloc (Obj.cells #[Value.float FloatKind.f64 xl, Value.float FloatKind.f64 xh] 28)).alloc (Obj.cells #[Value.float FloatKind.f64 yl, Value.float FloatKind.f64 yh] 28)).alloc (Obj.cells #[Value.float FloatKind.f64 0, Value.float FloatKind.f64 0] 28)).drew w.heap.size (.float .f64 xl) (.float .f64 xh) := ⟨by go_simp, by go_simp, by go_simp, by go_simp, by go_size⟩
  have Y : Has2 (((w.alloc (Obj.cells #[Value.float FloatKind.f64 xl, Value.float FloatKind.f64 xh] 28)).alloc (Obj.cells #[Value.float FloatKind.f64 yl, Value.float FloatKind.f64 yh] 28)).alloc (Obj.cells #[Value.float FloatKind.f64 0, Value.float FloatKind.f64 0] 28)).drew (w.heap.size + 1) (.float .f64 yl) (.float .f64 yh) := ⟨by go_simp, by go_simp, by go_simp, by go_simp, by go_size⟩
  have R : Has2 (((w.alloc (Obj.cells #[Value.float FloatKind.f64 xl, Value.float FloatKind.f64 xh] 28)).alloc (Obj.cells #[Value.float FloatKind.f64 yl, Value.float FloatKind.f64 yh] 28)).alloc (Obj.cells #[Value.float FloatKind.f64 0, Value.float FloatKind.f64 0] 28)).drew (w.heap.size + 1 + 1) (.float .f64 0) (.float .f64 0) := ⟨by go_simp, by go_simp, by go_simp, by go_simp, by go_size⟩
  have HB : Below w.heap.size w (((w.alloc (Obj.cells #[Value.float FloatKind.f64 xl, Value.float FloatKind.f64 xh] 28)).alloc (Obj.cells #[Value.float FloatKind.f64 yl, Value.float FloatKind.f64 yh] 28)).alloc (Obj.cells #[Value.float FloatKind.f64 0, Value.float FloatKind.f64 0] 28)).drew := by go_grown
  have ne1 : w.heap.size + 1 + 1 ≠ w.heap.size := by omega
  have ne2 : w.heap.size ≠ w.heap.size + 1 + 1 := by omega
  go_region_held3 (fun w' => w'.cell? ⟨w.heap.size, 0, none⟩ = some (.float .f64 xl) ∧ w'.cell? ⟨w.heap.size, 1, none⟩ = some (.float .f64 xh) ∧ w'.cell? ⟨w.heap.size + 1, 0, none⟩ = some (.float .f64 yl) ∧ w'.cell? ⟨w.heap.size + 1, 1, none⟩ = some (.float .f64 yh)) (first | exact ⟨X.1, X.2.1, Y.1, Y.2.1⟩ | go_keep)
    (first
      | (go_at_call 36; refine (cn _).mono ?_; rintro _ w2 ⟨rfl, hb1⟩; replace X := X.keep hb1; replace Y := Y.keep hb1; replace R := R.keep hb1; replace HB := later HB hb1; clear hb1)
      | (go_at_call 33; refine (ca _).mono ?_; rintro _ w3 ⟨⟨r1, r2, rfl, t1, t2⟩, hb1⟩; replace X := X.keep hb1; replace Y := Y.keep hb1; replace R := R.keep hb1; replace HB := later HB hb1; clear hb1; obtain ⟨d0, d1, d2, d3, d4⟩ := R))
  all_goals
    go_wp2_with fail
    refine bodyPost_ret (v := .agg #[.float .f64 r1, .float .f64 r2]) (by simp [results, Try.results34, go_sem, *]) rfl ⟨⟨r1, r2, rfl, t1, t2⟩, ?_⟩
    repeat' (first | (with_reducible exact HB) | (with_reducible refine Below.setCell ?_ ?_ _) | go_size)

/-- The product, rounded down, of words that are numbers. -/
def mulD (a b : Nat) : Nat := (mulR a b (-1)).getD 0
def lpP (a fl fh : Nat) : Nat := if ltB a 0 then mulD a fh else mulD a fl

theorem mulR_num {a b : Nat} (dir : Int) (na : nanB a = false) (nb : nanB b = false) : ∃ r, mulR a b dir = some r := by
  unfold mulR
  rw [na, nb]
  simp only [Bool.or_self, Bool.false_eq_true, if_false]
  split
  · exact ⟨_, rfl⟩
  · split <;> exact ⟨_, rfl⟩

theorem mulD_is {a b : Nat} (na : nanB a = false) (nb : nanB b = false) : mulR a b (-1) = some (mulD a b) := by
  obtain ⟨r, h⟩ := mulR_num (-1) na nb
  unfold mulD
  rw [h]; rfl

theorem mulD_w (a b : Nat) (ha : a < 18446744073709551616) (hb : b < 18446744073709551616) (na : nanB a = false) (nb : nanB b = false) (w : World) :
    Calls Try.prog 11 #[.float .f64 a, .float .f64 b, .int .i64 (-1)] w fun e w' => e = .returned (.float .f64 (mulD a b)) ∧ Below w.heap.size w w' := by
  have h := mul_w a b (-1) ha hb w
  rw [mulD_is na nb] at h
  refine h.mono ?_
  rintro _ _ ⟨⟨r, rfl, -, e⟩, hb⟩
  have e : r = mulD a b := e
  rw [e]
  exact ⟨rfl, hb⟩

theorem lp_w (a fl fh : Nat) (ha : a < 18446744073709551616) (h1 : fl < 18446744073709551616) (h2 : fh < 18446744073709551616) (na : nanB a = false) (n1 : nanB fl = false) (n2 : nanB fh = false) (w : World) :
    Calls Try.prog 86 #[.float .f64 a, .agg #[.float .f64 fl, .float .f64 fh]] w fun e w' => e = .returned (.float .f64 (lpP a fl fh)) ∧ Below w.heap.size w w' := by
  have o := o_lt ha (show 0 < 18446744073709551616 by omega)
  have c1 := fun w => mulD_w a fh ha h2 na n2 w
  have c2 := fun w => mulD_w a fl ha h1 na n1 w
  unfold lpP
  generalize mulD a fh = r1 at *
  generalize mulD a fl = r2 at *
  generalize ltB a 0 = b at *
  clear ha h1 h2 na n1 n2
  cases b
  · go_enter Try.func86, Try.ntmps86
    go_wp2_with (go_at_call 11; refine (c2 _).mono ?_; rintro _ w1 ⟨rfl, hb1⟩)
    go_ret
    exact ⟨rfl, later (by go_grown) hb1⟩
  · go_enter Try.func86, Try.ntmps86
    go_wp2_with (go_at_call 11; refine (c1 _).mono ?_; rintro _ w1 ⟨rfl, hb1⟩)
    go_ret
    exact ⟨rfl, later (by go_grown) hb1⟩

set_option maxHeartbeats 1000000 in
theorem stretch_core (xl xh fl fh nx p1 p2 np m1 m2 : Nat) (e1 : Op.negFloat .f64 xh = nx) (e2 : Op.negFloat .f64 p2 = np)
    (c1 : ∀ w, Calls Try.prog 86 #[.float .f64 xl, .agg #[.float .f64 fl, .float .f64 fh]] w fun e w' => e = .returned (.float .f64 p1) ∧ Below w.heap.size w w')
    (c2 : ∀ w, Calls Try.prog 86 #[.float .f64 nx, .agg #[.float .f64 fl, .float .f64 fh]] w fun e w' => e = .returned (.float .f64 p2) ∧ Below w.heap.size w w')
    (c3 : ∀ w, Calls Try.prog 18 #[.float .f64 p1, .float .f64 np] w fun e w' => e = .returned (.agg #[.float .f64 m1, .float .f64 m2]) ∧ Below w.heap.size w w') (w : World) :
    Calls Try.prog 68 #[.agg #[.float .f64 xl, .float .f64 xh], .agg #[.float .f64 fl, .float .f64 fh]] w fun e w' => e = .returned (.agg #[.float .f64 m1, .float .f64 m2]) ∧ Below w.heap.size w w' := by
  go_enter Try.func68, Try.ntmps68
  go_upto_region 1 with fail
  have X : Has2 (((w.alloc (Obj.cells #[Value.float FloatKind.f64 xl, Value.float FloatKind.f64 xh] 28)).alloc (Obj.cells #[Value.float FloatKind.f64 fl, Value.float FloatKind.f64 fh] 28)).alloc (Obj.cells #[Value.float FloatKind.f64 0, Value.float FloatKind.f64 0] 28)).drew w.heap.size (.float .f64 xl) (.float .f64 xh) := ⟨by go_simp, by go_simp, by go_simp, by go_simp, by go_size⟩
  have Y : Has2 (((w.alloc (Obj.cells #[Value.float FloatKind.f64 xl, Value.float FloatKind.f64 xh] 28)).alloc (Obj.cells #[Value.float FloatKind.f64 fl, Value.float FloatKind.f64 fh] 28)).alloc (Obj.cells #[Value.float FloatKind.f64 0, Value.float FloatKind.f64 0] 28)).drew (w.heap.size + 1) (.float .f64 fl) (.float .f64 fh) := ⟨by go_simp, by go_simp, by go_simp, by go_simp, by go_size⟩
  have R : Has2 (((w.alloc (Obj.cells #[Value.float FloatKind.f64 xl, Value.float FloatKind.f64 xh] 28)).alloc (Obj.cells #[Value.float FloatKind.f64 fl, Value.float FloatKind.f64 fh] 28)).alloc (Obj.cells #[Value.float FloatKind.f64 0, Value.float FloatKind.f64 0] 28)).drew (w.heap.size + 1 + 1) (.float .f64 0) (.float .f64 0) := ⟨by go_simp, by go_simp, by go_simp, by go_simp, by go_size⟩
  have HB : Below w.heap.size w (((w.alloc (Obj.cells #[Value.float FloatKind.f64 xl, Value.float FloatKind.f64 xh] 28)).alloc (Obj.cells #[Value.float FloatKind.f64 fl, Value.float FloatKind.f64 fh] 28)).alloc (Obj.cells #[Value.float FloatKind.f64 0, Value.float FloatKind.f64 0] 28)).drew := by go_grown
  have ne1 : w.heap.size + 1 + 1 ≠ w.heap.size := by omega
  have ne2 : w.heap.size ≠ w.heap.size + 1 + 1 := by omega
  go_region_held3 (fun w' => w'.cell? ⟨w.heap.size, 0, none⟩ = some (.float .f64 xl) ∧ w'.cell? ⟨w.heap.size, 1, none⟩ = some (.float .f64 xh) ∧ w'.cell? ⟨w.heap.size + 1, 0, none⟩ = some (.float .f64 fl) ∧ w'.cell? ⟨w.heap.size + 1, 1, none⟩ = some (.float .f64 fh)) (first | exact ⟨X.1, X.2.1, Y.1, Y.2.1⟩ | go_keep)
    (first
      | (go_at_call_of 86 (Value.float .f64 xl); refine (c1 _).mono ?_; rintro _ w2 ⟨rfl, hb1⟩; replace X := X.keep hb1; replace Y := Y.keep hb1; replace R := R.keep hb1; replace HB := later HB hb1; clear hb1)
      | (go_at_call_of 86 (Value.float .f64 nx); refine (c2 _).mono ?_; rintro _ w2 ⟨rfl, hb1⟩; replace X := X.keep hb1; replace Y := Y.keep hb1; replace R := R.keep hb1; replace HB := later HB hb1; clear hb1)
      | (go_at_call 18; refine (c3 _).mono ?_; rintro _ w3 ⟨rfl, hb1⟩; replace X := X.keep hb1; replace Y := Y.keep hb1; replace R := R.keep hb1; replace HB := later HB hb1; clear hb1; obtain ⟨d0, d1, d2, d3, d4⟩ := R))
  all_goals
    go_wp2_with fail
    refine bodyPost_ret (v := .agg #[.float .f64 m1, .float .f64 m2]) (by simp [results, Try.results68, go_sem, *]) rfl ⟨rfl, ?_⟩
    repeat' (first | (with_reducible exact HB) | (with_reducible refine Below.setCell ?_ ?_ _) | go_size)

end Go.Proofs.Yteapiigegbdopaa
