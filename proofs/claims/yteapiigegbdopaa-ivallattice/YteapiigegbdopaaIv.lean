/- The walk of the statement IvalHolds, over what its callees tell. -/
import Derived.Test.YteapiigegbdopaaIf
import Derived.Test.YteapiigegbdopaaWv
namespace Go.Proofs.Yteapiigegbdopaa
open Go.ChangeShapes Go.WideShapes Go.ChangeAt Go.RowKit

/-- A word lies between two others. -/
def Btw (l u v : Nat) : Prop := (FloatKind.f64.format.order l v == some .lt || FloatKind.f64.format.order l v == some .eq) = true ∧ (FloatKind.f64.format.order v u == some .lt || FloatKind.f64.format.order v u == some .eq) = true

theorem near_w (l u v : Nat) (h : Btw l u v) (w : World) :
    Calls Try.prog 32 #[.agg #[.float .f64 l, .float .f64 u], .float .f64 v] w fun e w' => e = .returned (.bool true) ∧ Below w.heap.size w w' := by
  obtain ⟨h1, h2⟩ := h
  go_enter Try.func32, Try.ntmps32
  go_wp2
  go_ret
  exact ⟨rfl, by go_grown⟩

theorem alive2_w (w : World) : Calls Try.prog 31 #[] w fun x w' => x = .returned (.bool true) ∧ w = w' := by
  have hn : nextB 4607182418800017408 = 4607182418800017409 := by decide
  have ho : FloatKind.f64.format.order 4607182418800017409 4607182418800017408 = some Ordering.gt := by rw [order_eq _ _ (by omega) (by omega)]; rfl
  go_enter Try.func31, Try.ntmps31
  go_wp2_with (go_at_call 67; refine (next_w 4607182418800017408 (by omega) _).mono ?_; rintro _ _ ⟨rfl, rfl⟩)
  go_ret
  exact ⟨rfl, rfl⟩

theorem holds_not (xl xh yl yh a b : Nat) (t1 t2 : Bool) (h : (t1 && t2) = false)
    (c1 : ∀ w, Calls Try.prog 25 #[.agg #[.float .f64 xl, .float .f64 xh], .float .f64 a] w fun e w' => e = .returned (.bool t1) ∧ Below w.heap.size w w')
    (c2 : ∀ w, Calls Try.prog 25 #[.agg #[.float .f64 yl, .float .f64 yh], .float .f64 b] w fun e w' => e = .returned (.bool t2) ∧ Below w.heap.size w w') (w : World) :
    Calls Try.prog 6 #[.agg #[.float .f64 xl, .float .f64 xh], .agg #[.float .f64 yl, .float .f64 yh], .float .f64 a, .float .f64 b] w fun e w' => e = .returned (.bool true) ∧ Below w.heap.size w w' := by
  cases t1
  · go_enter Try.func6, Try.ntmps6
    go_wp2_with (first
      | (go_at_call 31; refine (alive2_w _).mono ?_; rintro _ _ ⟨rfl, rfl⟩)
      | (go_at_call 25; refine (c1 _).mono ?_; rintro _ w1 ⟨rfl, hb1⟩))
    go_ret
    exact ⟨rfl, later (by go_grown) hb1⟩
  · obtain rfl : t2 = false := by simpa using h
    go_enter Try.func6, Try.ntmps6
    go_wp2_with (first
      | (go_at_call 31; refine (alive2_w _).mono ?_; rintro _ _ ⟨rfl, rfl⟩)
      | (go_at_call_of 25 (Value.agg #[.float .f64 xl, .float .f64 xh]); refine (c1 _).mono ?_; rintro _ w1 ⟨rfl, hb1⟩
         have Y : Has2 w1 (w.heap.size + 1) (.float .f64 yl) (.float .f64 yh) := Has2.keep ⟨by go_simp, by go_simp, by go_simp, by go_simp, by go_size⟩ hb1
         have y0 := Y.1
         have y1 := Y.2.1
         have HB : Below w.heap.size w w1 := later (by go_grown) hb1)
      | (go_at_call_of 25 (Value.agg #[.float .f64 yl, .float .f64 yh]); refine (c2 _).mono ?_; rintro _ w2 ⟨rfl, hb2⟩; replace HB := later HB hb2))
    go_ret
    exact ⟨rfl, HB⟩

set_option maxHeartbeats 4000000 in
theorem holds_core (xl xh yl yh a b na A1 A2 av S1 S2 sv M1 M2 mv N1 N2 Q1 Q2 qv D1 D2 dv T1 T2 tv : Nat) (z g : Bool)
    (cx : ∀ w, Calls Try.prog 25 #[.agg #[.float .f64 xl, .float .f64 xh], .float .f64 a] w fun e w' => e = .returned (.bool true) ∧ Below w.heap.size w w')
    (cy : ∀ w, Calls Try.prog 25 #[.agg #[.float .f64 yl, .float .f64 yh], .float .f64 b] w fun e w' => e = .returned (.bool true) ∧ Below w.heap.size w w')
    (ca : ∀ w, Calls Try.prog 33 #[.agg #[.float .f64 xl, .float .f64 xh], .agg #[.float .f64 yl, .float .f64 yh]] w fun e w' => e = .returned (.agg #[.float .f64 A1, .float .f64 A2]) ∧ Below w.heap.size w w')
    (ca' : ∀ w, Calls Try.prog 9 #[.float .f64 a, .float .f64 b, .int .i64 0] w fun e w' => e = .returned (.float .f64 av) ∧ Below w.heap.size w w') (ba : Btw A1 A2 av)
    (cs : ∀ w, Calls Try.prog 34 #[.agg #[.float .f64 xl, .float .f64 xh], .agg #[.float .f64 yl, .float .f64 yh]] w fun e w' => e = .returned (.agg #[.float .f64 S1, .float .f64 S2]) ∧ Below w.heap.size w w')
    (cs' : ∀ w, Calls Try.prog 10 #[.float .f64 a, .float .f64 b, .int .i64 0] w fun e w' => e = .returned (.float .f64 sv) ∧ Below w.heap.size w w') (bs : Btw S1 S2 sv)
    (cm : ∀ w, Calls Try.prog 35 #[.agg #[.float .f64 xl, .float .f64 xh], .agg #[.float .f64 yl, .float .f64 yh]] w fun e w' => e = .returned (.agg #[.float .f64 M1, .float .f64 M2]) ∧ Below w.heap.size w w')
    (cm' : ∀ w, Calls Try.prog 11 #[.float .f64 a, .float .f64 b, .int .i64 0] w fun e w' => e = .returned (.float .f64 mv) ∧ Below w.heap.size w w') (bm : Btw M1 M2 mv)
    (cn : ∀ w, Calls Try.prog 36 #[.agg #[.float .f64 xl, .float .f64 xh]] w fun e w' => e = .returned (.agg #[.float .f64 N1, .float .f64 N2]) ∧ Below w.heap.size w w')
    (en : Op.negFloat .f64 a = na) (bn : Btw N1 N2 na)
    (cq : ∀ w, Calls Try.prog 37 #[.agg #[.float .f64 xl, .float .f64 xh]] w fun e w' => e = .returned (.agg #[.float .f64 Q1, .float .f64 Q2]) ∧ Below w.heap.size w w')
    (cq' : ∀ w, Calls Try.prog 11 #[.float .f64 a, .float .f64 a, .int .i64 0] w fun e w' => e = .returned (.float .f64 qv) ∧ Below w.heap.size w w') (bq : Btw Q1 Q2 qv)
    (oz : (FloatKind.f64.format.order b 0 != some .eq) = z)
    (cd : z = true → ∀ w, Calls Try.prog 38 #[.agg #[.float .f64 xl, .float .f64 xh], .agg #[.float .f64 yl, .float .f64 yh]] w fun e w' => e = .returned (.agg #[.float .f64 D1, .float .f64 D2]) ∧ Below w.heap.size w w')
    (cd' : z = true → ∀ w, Calls Try.prog 14 #[.float .f64 a, .float .f64 b, .int .i64 0] w fun e w' => e = .returned (.float .f64 dv) ∧ Below w.heap.size w w') (bd : z = true → Btw D1 D2 dv)
    (og : (FloatKind.f64.format.order a 0 == some .lt) = g)
    (ct : g = false → ∀ w, Calls Try.prog 39 #[.agg #[.float .f64 xl, .float .f64 xh]] w fun e w' => e = .returned (.agg #[.float .f64 T1, .float .f64 T2]) ∧ Below w.heap.size w w')
    (ct' : g = false → ∀ w, Calls Try.prog 12 #[.float .f64 a, .int .i64 0] w fun e w' => e = .returned (.float .f64 tv) ∧ Below w.heap.size w w') (bt : g = false → Btw T1 T2 tv) (w : World) :
    Calls Try.prog 6 #[.agg #[.float .f64 xl, .float .f64 xh], .agg #[.float .f64 yl, .float .f64 yh], .float .f64 a, .float .f64 b] w fun e w' => e = .returned (.bool true) ∧ Below w.heap.size w w' := by
  have X : Has2 ((w.alloc (Obj.cells #[Value.float FloatKind.f64 xl, Value.float FloatKind.f64 xh] 28)).alloc (Obj.cells #[Value.float FloatKind.f64 yl, Value.float FloatKind.f64 yh] 28)) w.heap.size (.float .f64 xl) (.float .f64 xh) := ⟨by go_simp, by go_simp, by go_simp, by go_simp, by go_size⟩
  have Y : Has2 ((w.alloc (Obj.cells #[Value.float FloatKind.f64 xl, Value.float FloatKind.f64 xh] 28)).alloc (Obj.cells #[Value.float FloatKind.f64 yl, Value.float FloatKind.f64 yh] 28)) (w.heap.size + 1) (.float .f64 yl) (.float .f64 yh) := ⟨by go_simp, by go_simp, by go_simp, by go_simp, by go_size⟩
  have HB : Below w.heap.size w ((w.alloc (Obj.cells #[Value.float FloatKind.f64 xl, Value.float FloatKind.f64 xh] 28)).alloc (Obj.cells #[Value.float FloatKind.f64 yl, Value.float FloatKind.f64 yh] 28)) := by go_grown
  have x0 := X.1
  have x1 := X.2.1
  have y0 := Y.1
  have y1 := Y.2.1
  go_enter Try.func6, Try.ntmps6
  go_upto_region 8 with (first
      | (go_at_call 31; refine (alive2_w _).mono ?_; rintro _ _ ⟨rfl, rfl⟩)
      | (go_at_call_of 25 (Value.float .f64 a); refine (cx _).mono ?_; rintro _ w1 ⟨rfl, hb1⟩; replace X := X.keep hb1; replace Y := Y.keep hb1; replace HB := later HB hb1; clear hb1; replace x0 := X.1; replace x1 := X.2.1; replace y0 := Y.1; replace y1 := Y.2.1)
      | (go_at_call 25; refine (cy _).mono ?_; rintro _ w1 ⟨rfl, hb1⟩; replace X := X.keep hb1; replace Y := Y.keep hb1; replace HB := later HB hb1; clear hb1; replace x0 := X.1; replace x1 := X.2.1; replace y0 := Y.1; replace y1 := Y.2.1)
      | (go_at_call 33; refine (ca _).mono ?_; rintro _ w1 ⟨rfl, hb1⟩; replace X := X.keep hb1; replace Y := Y.keep hb1; replace HB := later HB hb1; clear hb1; replace x0 := X.1; replace x1 := X.2.1; replace y0 := Y.1; replace y1 := Y.2.1)
      | (go_at_call 9; refine (ca' _).mono ?_; rintro _ w1 ⟨rfl, hb1⟩; replace X := X.keep hb1; replace Y := Y.keep hb1; replace HB := later HB hb1; clear hb1; replace x0 := X.1; replace x1 := X.2.1; replace y0 := Y.1; replace y1 := Y.2.1)
      | (go_at_call 34; refine (cs _).mono ?_; rintro _ w1 ⟨rfl, hb1⟩; replace X := X.keep hb1; replace Y := Y.keep hb1; replace HB := later HB hb1; clear hb1; replace x0 := X.1; replace x1 := X.2.1; replace y0 := Y.1; replace y1 := Y.2.1)
      | (go_at_call 10; refine (cs' _).mono ?_; rintro _ w1 ⟨rfl, hb1⟩; replace X := X.keep hb1; replace Y := Y.keep hb1; replace HB := later HB hb1; clear hb1; replace x0 := X.1; replace x1 := X.2.1; replace y0 := Y.1; replace y1 := Y.2.1)
      | (go_at_call 35; refine (cm _).mono ?_; rintro _ w1 ⟨rfl, hb1⟩; replace X := X.keep hb1; replace Y := Y.keep hb1; replace HB := later HB hb1; clear hb1; replace x0 := X.1; replace x1 := X.2.1; replace y0 := Y.1; replace y1 := Y.2.1)
      | (go_at_call_of 11 (Value.float .f64 b); refine (cm' _).mono ?_; rintro _ w1 ⟨rfl, hb1⟩; replace X := X.keep hb1; replace Y := Y.keep hb1; replace HB := later HB hb1; clear hb1; replace x0 := X.1; replace x1 := X.2.1; replace y0 := Y.1; replace y1 := Y.2.1)
      | (go_at_call 36; refine (cn _).mono ?_; rintro _ w1 ⟨rfl, hb1⟩; replace X := X.keep hb1; replace Y := Y.keep hb1; replace HB := later HB hb1; clear hb1; replace x0 := X.1; replace x1 := X.2.1; replace y0 := Y.1; replace y1 := Y.2.1)
      | (go_at_call 37; refine (cq _).mono ?_; rintro _ w1 ⟨rfl, hb1⟩; replace X := X.keep hb1; replace Y := Y.keep hb1; replace HB := later HB hb1; clear hb1; replace x0 := X.1; replace x1 := X.2.1; replace y0 := Y.1; replace y1 := Y.2.1)
      | (go_at_call 11; refine (cq' _).mono ?_; rintro _ w1 ⟨rfl, hb1⟩; replace X := X.keep hb1; replace Y := Y.keep hb1; replace HB := later HB hb1; clear hb1; replace x0 := X.1; replace x1 := X.2.1; replace y0 := Y.1; replace y1 := Y.2.1)
      | (go_at_call 32; refine (near_w _ _ _ (by assumption) _).mono ?_; rintro _ w1 ⟨rfl, hb1⟩; replace X := X.keep hb1; replace Y := Y.keep hb1; replace HB := later HB hb1; clear hb1; replace x0 := X.1; replace x1 := X.2.1; replace y0 := Y.1; replace y1 := Y.2.1))
  clear cx cy ca ca' ba cs cs' bs cm cm' bm cn en bn cq cq' bq
  have hz : z = true ∨ z = false := by cases z <;> simp
  have hg : g = true ∨ g = false := by cases g <;> simp
  rcases hz with rfl | rfl <;> rcases hg with rfl | rfl
  all_goals
    try replace cd := cd rfl
    try replace cd' := cd' rfl
    try replace bd := bd rfl
    try replace ct := ct rfl
    try replace ct' := ct' rfl
    try replace bt := bt rfl
    go_wp2_with (first
      | (go_at_call 38; refine (cd _).mono ?_; rintro _ w1 ⟨rfl, hb1⟩; replace X := X.keep hb1; replace Y := Y.keep hb1; replace HB := later HB hb1; clear hb1; replace x0 := X.1; replace x1 := X.2.1; replace y0 := Y.1; replace y1 := Y.2.1)
      | (go_at_call 14; refine (cd' _).mono ?_; rintro _ w1 ⟨rfl, hb1⟩; replace X := X.keep hb1; replace Y := Y.keep hb1; replace HB := later HB hb1; clear hb1; replace x0 := X.1; replace x1 := X.2.1; replace y0 := Y.1; replace y1 := Y.2.1)
      | (go_at_call 39; refine (ct _).mono ?_; rintro _ w1 ⟨rfl, hb1⟩; replace X := X.keep hb1; replace Y := Y.keep hb1; replace HB := later HB hb1; clear hb1; replace x0 := X.1; replace x1 := X.2.1; replace y0 := Y.1; replace y1 := Y.2.1)
      | (go_at_call 12; refine (ct' _).mono ?_; rintro _ w1 ⟨rfl, hb1⟩; replace X := X.keep hb1; replace Y := Y.keep hb1; replace HB := later HB hb1; clear hb1; replace x0 := X.1; replace x1 := X.2.1; replace y0 := Y.1; replace y1 := Y.2.1)
      | (go_at_call 32; refine (near_w _ _ _ (by assumption) _).mono ?_; rintro _ w1 ⟨rfl, hb1⟩; replace X := X.keep hb1; replace Y := Y.keep hb1; replace HB := later HB hb1; clear hb1; replace x0 := X.1; replace x1 := X.2.1; replace y0 := Y.1; replace y1 := Y.2.1))
    go_ret
    exact ⟨rfl, HB⟩

end Go.Proofs.Yteapiigegbdopaa
