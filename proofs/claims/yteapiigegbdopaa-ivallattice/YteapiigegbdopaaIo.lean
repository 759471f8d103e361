/- The walk of Mul, of intervals that hold some number. -/
import Derived.Test.YteapiigegbdopaaIn
namespace Go.Proofs.Yteapiigegbdopaa
open Go.ChangeShapes Go.WideShapes Go.ChangeAt Go.RowKit

/-- The lesser, the greater of two words that are numbers. -/
def minW (a b : Nat) : Nat := if key a < key b then a else if key a = key b then (if (FloatKind.f64.decode a).neg then a else b) else b
def maxW (a b : Nat) : Nat := if key a < key b then b else if key a = key b then (if (FloatKind.f64.decode a).neg then b else a) else a

theorem min_f {a b : Nat} (ha : a < 18446744073709551616) (hb : b < 18446744073709551616) (na : nanB a = false) (nb : nanB b = false) (P : Program) (ts : Array TypeId) (t : TypeId) (w : World) :
    (Builtin.min_ ts t #[.float .f64 a, .float .f64 b]).run P w = .ok (.float .f64 (minW a b)) w := by
  have o := order_eq a b ha hb
  rw [na, nb] at o
  simp only [Bool.or_self, Bool.false_eq_true, if_false, compare_int] at o
  unfold minW
  by_cases c : key a < key b
  · rw [if_pos c] at o
    simp [Builtin.min_, Builtin.min2, o, c]
  · rw [if_neg c] at o
    by_cases d : key a = key b
    · rw [if_pos d] at o
      simp [Builtin.min_, Builtin.min2, o, d]
    · rw [if_neg d] at o
      simp [Builtin.min_, Builtin.min2, o, c, d]
theorem max_f {a b : Nat} (ha : a < 18446744073709551616) (hb : b < 18446744073709551616) (na : nanB a = false) (nb : nanB b = false) (P : Program) (ts : Array TypeId) (t : TypeId) (w : World) :
    (Builtin.max_ ts t #[.float .f64 a, .float .f64 b]).run P w = .ok (.float .f64 (maxW a b)) w := by
  have o := order_eq a b ha hb
  rw [na, nb] at o
  simp only [Bool.or_self, Bool.false_eq_true, if_false, compare_int] at o
  unfold maxW
  by_cases c : key a < key b
  · rw [if_pos c] at o
    simp [Builtin.max_, Builtin.max2, o, c]
  · rw [if_neg c] at o
    by_cases d : key a = key b
    · rw [if_pos d] at o
      simp [Builtin.max_, Builtin.max2, o, d]
    · rw [if_neg d] at o
      simp [Builtin.max_, Builtin.max2, o, c, d]
theorem minW_key (a b : Nat) : key (minW a b) = min (key a) (key b) ∧ (minW a b = a ∨ minW a b = b) := by
  unfold minW
  split
  · exact ⟨by omega, Or.inl rfl⟩
  · split
    · split
      · exact ⟨by omega, Or.inl rfl⟩
      · exact ⟨by omega, Or.inr rfl⟩
    · exact ⟨by omega, Or.inr rfl⟩
theorem maxW_key (a b : Nat) : key (maxW a b) = max (key a) (key b) ∧ (maxW a b = a ∨ maxW a b = b) := by
  unfold maxW
  split
  · exact ⟨by omega, Or.inr rfl⟩
  · split
    · split
      · exact ⟨by omega, Or.inr rfl⟩
      · exact ⟨by omega, Or.inl rfl⟩
    · exact ⟨by omega, Or.inl rfl⟩

set_option maxHeartbeats 1000000 in
theorem mul_a (xl xh yl yh  m1 m2 : Nat) (c0 : ∀ b W, b < W.heap.size → W.cell? ⟨b, 0, none⟩ = some (.float .f64 xl) → W.cell? ⟨b, 1, none⟩ = some (.float .f64 xh) → W.cell? ⟨b, 2, none⟩ = some (.float .f64 yl) → W.cell? ⟨b, 3, none⟩ = some (.float .f64 yh) → Calls Try.prog 64 #[.slice (some ⟨b, 0, none⟩) 2 2] W fun e w' => e = .returned (.bool false) ∧ Below W.heap.size W w')
    (g_xl : (FloatKind.f64.format.order xl 0 == some .gt || FloatKind.f64.format.order xl 0 == some .eq) = true)
    (c1 : (∀ w, Calls Try.prog 68 #[.agg #[.float .f64 yl, .float .f64 yh], .agg #[.float .f64 xl, .float .f64 xh]] w fun e w' => e = .returned (.agg #[.float .f64 m1, .float .f64 m2]) ∧ Below w.heap.size w w')) (w : World) :
    Calls Try.prog 35 #[.agg #[.float .f64 xl, .float .f64 xh], .agg #[.float .f64 yl, .float .f64 yh]] w fun e w' => e = .returned (.agg #[.float .f64 m1, .float .f64 m2]) ∧ Below w.heap.size w w' := by
  go_enter Try.func35, Try.ntmps35
  go_upto_region 4 with
   (go_at_call 64; refine (c0 (w.heap.size + 1 + 1 + 1) _ (by go_size) (by go_simp) (by go_simp) (by go_simp) (by go_simp)).mono ?_; rintro _ w1 ⟨rfl, hb1⟩
    have R : Has2 w1 (w.heap.size + 1 + 1) (.float .f64 0) (.float .f64 0) := Has2.keep ⟨by go_simp, by go_simp, by go_simp, by go_simp, by go_size⟩ hb1
    have X : Has2 w1 w.heap.size (.float .f64 xl) (.float .f64 xh) := Has2.keep ⟨by go_simp, by go_simp, by go_simp, by go_simp, by go_size⟩ hb1
    have Y : Has2 w1 (w.heap.size + 1) (.float .f64 yl) (.float .f64 yh) := Has2.keep ⟨by go_simp, by go_simp, by go_simp, by go_simp, by go_size⟩ hb1
    have HB : Below w.heap.size w w1 := later (by go_grown) hb1
    have x0 := X.1; have x1 := X.2.1; have y0 := Y.1; have y1 := Y.2.1)
  clear hb1 c0
  have ne1 : w.heap.size + 1 + 1 ≠ w.heap.size := by omega
  have ne2 : w.heap.size ≠ w.heap.size + 1 + 1 := by omega
  go_wp2_with (go_at_call 68; refine (c1 _).mono ?_; rintro _ w3 ⟨rfl, hb1⟩; replace X := X.keep hb1; replace Y := Y.keep hb1; replace R := R.keep hb1; replace HB := later HB hb1; clear hb1; obtain ⟨d0, d1, d2, d3, d4⟩ := R)
  all_goals
    refine bodyPost_ret (v := .agg #[.float .f64 m1, .float .f64 m2]) (by simp [results, Try.results35, go_sem, *]) rfl ⟨rfl, ?_⟩
    repeat' (first | (with_reducible exact HB) | (with_reducible refine Below.setCell ?_ ?_ _) | go_size)

set_option maxHeartbeats 1000000 in
theorem mul_b (xl xh yl yh n1 n2 s1 s2 m1 m2 : Nat) (c0 : ∀ b W, b < W.heap.size → W.cell? ⟨b, 0, none⟩ = some (.float .f64 xl) → W.cell? ⟨b, 1, none⟩ = some (.float .f64 xh) → W.cell? ⟨b, 2, none⟩ = some (.float .f64 yl) → W.cell? ⟨b, 3, none⟩ = some (.float .f64 yh) → Calls Try.prog 64 #[.slice (some ⟨b, 0, none⟩) 2 2] W fun e w' => e = .returned (.bool false) ∧ Below W.heap.size W w')
    (g_xl : (FloatKind.f64.format.order xl 0 == some .gt || FloatKind.f64.format.order xl 0 == some .eq) = false) (l_xh : (FloatKind.f64.format.order xh 0 == some .lt || FloatKind.f64.format.order xh 0 == some .eq) = true)
    (c1 : (∀ w, Calls Try.prog 69 #[.agg #[.float .f64 xl, .float .f64 xh]] w fun e w' => e = .returned (.agg #[.float .f64 n1, .float .f64 n2]) ∧ Below w.heap.size w w')) (c2 : (∀ w, Calls Try.prog 68 #[.agg #[.float .f64 yl, .float .f64 yh], .agg #[.float .f64 n1, .float .f64 n2]] w fun e w' => e = .returned (.agg #[.float .f64 s1, .float .f64 s2]) ∧ Below w.heap.size w w')) (c3 : (∀ w, Calls Try.prog 69 #[.agg #[.float .f64 s1, .float .f64 s2]] w fun e w' => e = .returned (.agg #[.float .f64 m1, .float .f64 m2]) ∧ Below w.heap.size w w')) (w : World) :
    Calls Try.prog 35 #[.agg #[.float .f64 xl, .float .f64 xh], .agg #[.float .f64 yl, .float .f64 yh]] w fun e w' => e = .returned (.agg #[.float .f64 m1, .float .f64 m2]) ∧ Below w.heap.size w w' := by
  go_enter Try.func35, Try.ntmps35
  go_upto_region 6 with
   (go_at_call 64; refine (c0 (w.heap.size + 1 + 1 + 1) _ (by go_size) (by go_simp) (by go_simp) (by go_simp) (by go_simp)).mono ?_; rintro _ w1 ⟨rfl, hb1⟩
    have R : Has2 w1 (w.heap.size + 1 + 1) (.float .f64 0) (.float .f64 0) := Has2.keep ⟨by go_simp, by go_simp, by go_simp, by go_simp, by go_size⟩ hb1
    have X : Has2 w1 w.heap.size (.float .f64 xl) (.float .f64 xh) := Has2.keep ⟨by go_simp, by go_simp, by go_simp, by go_simp, by go_size⟩ hb1
    have Y : Has2 w1 (w.heap.size + 1) (.float .f64 yl) (.float .f64 yh) := Has2.keep ⟨by go_simp, by go_simp, by go_simp, by go_simp, by go_size⟩ hb1
    have HB : Below w.heap.size w w1 := later (by go_grown) hb1
    have x0 := X.1; have x1 := X.2.1; have y0 := Y.1; have y1 := Y.2.1)
  clear hb1 c0
  have ne1 : w.heap.size + 1 + 1 ≠ w.heap.size := by omega
  have ne2 : w.heap.size ≠ w.heap.size + 1 + 1 := by omega
  have X : Has2 w1.drew w.heap.size (.float .f64 xl) (.float .f64 xh) := X
  have Y : Has2 w1.drew (w.heap.size + 1) (.float .f64 yl) (.float .f64 yh) := Y
  have R : Has2 w1.drew (w.heap.size + 1 + 1) (.float .f64 0) (.float .f64 0) := R
  have HB : Below w.heap.size w w1.drew := HB.drew
  go_region_held3 (fun w' => w'.cell? ⟨w.heap.size, 0, none⟩ = some (.float .f64 xl) ∧ w'.cell? ⟨w.heap.size, 1, none⟩ = some (.float .f64 xh) ∧ w'.cell? ⟨w.heap.size + 1, 0, none⟩ = some (.float .f64 yl) ∧ w'.cell? ⟨w.heap.size + 1, 1, none⟩ = some (.float .f64 yh)) (first | exact ⟨X.1, X.2.1, Y.1, Y.2.1⟩ | go_keep)
    (first
      | (go_at_call_of 69 (Value.agg #[.float .f64 xl, .float .f64 xh]); refine (c1 _).mono ?_; rintro _ w2 ⟨rfl, hb1⟩; replace X := X.keep hb1; replace Y := Y.keep hb1; replace R := R.keep hb1; replace HB := later HB hb1; clear hb1)
      | (go_at_call 68; refine (c2 _).mono ?_; rintro _ w2 ⟨rfl, hb1⟩; replace X := X.keep hb1; replace Y := Y.keep hb1; replace R := R.keep hb1; replace HB := later HB hb1; clear hb1)
      | (go_at_call_of 69 (Value.agg #[.float .f64 s1, .float .f64 s2]); refine (c3 _).mono ?_; rintro _ w2 ⟨rfl, hb1⟩; replace X := X.keep hb1; replace Y := Y.keep hb1; replace R := R.keep hb1; replace HB := later HB hb1; clear hb1; obtain ⟨d0, d1, d2, d3, d4⟩ := R))
  all_goals
    go_wp2_with fail
    refine bodyPost_ret (v := .agg #[.float .f64 m1, .float .f64 m2]) (by simp [results, Try.results35, go_sem, *]) rfl ⟨rfl, ?_⟩
    repeat' (first | (with_reducible exact HB) | (with_reducible refine Below.setCell ?_ ?_ _) | go_size)

set_option maxHeartbeats 1000000 in
theorem mul_c (xl xh yl yh  m1 m2 : Nat) (c0 : ∀ b W, b < W.heap.size → W.cell? ⟨b, 0, none⟩ = some (.float .f64 xl) → W.cell? ⟨b, 1, none⟩ = some (.float .f64 xh) → W.cell? ⟨b, 2, none⟩ = some (.float .f64 yl) → W.cell? ⟨b, 3, none⟩ = some (.float .f64 yh) → Calls Try.prog 64 #[.slice (some ⟨b, 0, none⟩) 2 2] W fun e w' => e = .returned (.bool false) ∧ Below W.heap.size W w')
    (g_xl : (FloatKind.f64.format.order xl 0 == some .gt || FloatKind.f64.format.order xl 0 == some .eq) = false) (l_xh : (FloatKind.f64.format.order xh 0 == some .lt || FloatKind.f64.format.order xh 0 == some .eq) = false) (g_yl : (FloatKind.f64.format.order yl 0 == some .gt || FloatKind.f64.format.order yl 0 == some .eq) = true)
    (c1 : (∀ w, Calls Try.prog 68 #[.agg #[.float .f64 xl, .float .f64 xh], .agg #[.float .f64 yl, .float .f64 yh]] w fun e w' => e = .returned (.agg #[.float .f64 m1, .float .f64 m2]) ∧ Below w.heap.size w w')) (w : World) :
    Calls Try.prog 35 #[.agg #[.float .f64 xl, .float .f64 xh], .agg #[.float .f64 yl, .float .f64 yh]] w fun e w' => e = .returned (.agg #[.float .f64 m1, .float .f64 m2]) ∧ Below w.heap.size w w' := by
  go_enter Try.func35, Try.ntmps35
  go_upto_region 8 with
   (go_at_call 64; refine (c0 (w.heap.size + 1 + 1 + 1) _ (by go_size) (by go_simp) (by go_simp) (by go_simp) (by go_simp)).mono ?_; rintro _ w1 ⟨rfl, hb1⟩
    have R : Has2 w1 (w.heap.size + 1 + 1) (.float .f64 0) (.float .f64 0) := Has2.keep ⟨by go_simp, by go_simp, by go_simp, by go_simp, by go_size⟩ hb1
    have X : Has2 w1 w.heap.size (.float .f64 xl) (.float .f64 xh) := Has2.keep ⟨by go_simp, by go_simp, by go_simp, by go_simp, by go_size⟩ hb1
    have Y : Has2 w1 (w.heap.size + 1) (.float .f64 yl) (.float .f64 yh) := Has2.keep ⟨by go_simp, by go_simp, by go_simp, by go_simp, by go_size⟩ hb1
    have HB : Below w.heap.size w w1 := later (by go_grown) hb1
    have x0 := X.1; have x1 := X.2.1; have y0 := Y.1; have y1 := Y.2.1)
  clear hb1 c0
  have ne1 : w.heap.size + 1 + 1 ≠ w.heap.size := by omega
  have ne2 : w.heap.size ≠ w.heap.size + 1 + 1 := by omega
  go_wp2_with (go_at_call 68; refine (c1 _).mono ?_; rintro _ w3 ⟨rfl, hb1⟩; replace X := X.keep hb1; replace Y := Y.keep hb1; replace R := R.keep hb1; replace HB := later HB hb1; clear hb1; obtain ⟨d0, d1, d2, d3, d4⟩ := R)
  all_goals
    refine bodyPost_ret (v := .agg #[.float .f64 m1, .float .f64 m2]) (by simp [results, Try.results35, go_sem, *]) rfl ⟨rfl, ?_⟩
    repeat' (first | (with_reducible exact HB) | (with_reducible refine Below.setCell ?_ ?_ _) | go_size)

set_option maxHeartbeats 1000000 in
theorem mul_d (xl xh yl yh n1 n2 s1 s2 m1 m2 : Nat) (c0 : ∀ b W, b < W.heap.size → W.cell? ⟨b, 0, none⟩ = some (.float .f64 xl) → W.cell? ⟨b, 1, none⟩ = some (.float .f64 xh) → W.cell? ⟨b, 2, none⟩ = some (.float .f64 yl) → W.cell? ⟨b, 3, none⟩ = some (.float .f64 yh) → Calls Try.prog 64 #[.slice (some ⟨b, 0, none⟩) 2 2] W fun e w' => e = .returned (.bool false) ∧ Below W.heap.size W w')
    (g_xl : (FloatKind.f64.format.order xl 0 == some .gt || FloatKind.f64.format.order xl 0 == some .eq) = false) (l_xh : (FloatKind.f64.format.order xh 0 == some .lt || FloatKind.f64.format.order xh 0 == some .eq) = false) (g_yl : (FloatKind.f64.format.order yl 0 == some .gt || FloatKind.f64.format.order yl 0 == some .eq) = false) (l_yh : (FloatKind.f64.format.order yh 0 == some .lt || FloatKind.f64.format.order yh 0 == some .eq) = true)
    (c1 : (∀ w, Calls Try.prog 69 #[.agg #[.float .f64 yl, .float .f64 yh]] w fun e w' => e = .returned (.agg #[.float .f64 n1, .float .f64 n2]) ∧ Below w.heap.size w w')) (c2 : (∀ w, Calls Try.prog 68 #[.agg #[.float .f64 xl, .float .f64 xh], .agg #[.float .f64 n1, .float .f64 n2]] w fun e w' => e = .returned (.agg #[.float .f64 s1, .float .f64 s2]) ∧ Below w.heap.size w w')) (c3 : (∀ w, Calls Try.prog 69 #[.agg #[.float .f64 s1, .float .f64 s2]] w fun e w' => e = .returned (.agg #[.float .f64 m1, .float .f64 m2]) ∧ Below w.heap.size w w')) (w : World) :
    Calls Try.prog 35 #[.agg #[.float .f64 xl, .float .f64 xh], .agg #[.float .f64 yl, .float .f64 yh]] w fun e w' => e = .returned (.agg #[.float .f64 m1, .float .f64 m2]) ∧ Below w.heap.size w w' := by
  go_enter Try.func35, Try.ntmps35
  go_upto_region 10 with
   (go_at_call 64; refine (c0 (w.heap.size + 1 + 1 + 1) _ (by go_size) (by go_simp) (by go_simp) (by go_simp) (by go_simp)).mono ?_; rintro _ w1 ⟨rfl, hb1⟩
    have R : Has2 w1 (w.heap.size + 1 + 1) (.float .f64 0) (.float .f64 0) := Has2.keep ⟨by go_simp, by go_simp, by go_simp, by go_simp, by go_size⟩ hb1
    have X : Has2 w1 w.heap.size (.float .f64 xl) (.float .f64 xh) := Has2.keep ⟨by go_simp, by go_simp, by go_simp, by go_simp, by go_size⟩ hb1
    have Y : Has2 w1 (w.heap.size + 1) (.float .f64 yl) (.float .f64 yh) := Has2.keep ⟨by go_simp, by go_simp, by go_simp, by go_simp, by go_size⟩ hb1
    have HB : Below w.heap.size w w1 := later (by go_grown) hb1
    have x0 := X.1; have x1 := X.2.1; have y0 := Y.1; have y1 := Y.2.1)
  clear hb1 c0
  have ne1 : w.heap.size + 1 + 1 ≠ w.heap.size := by omega
  have ne2 : w.heap.size ≠ w.heap.size + 1 + 1 := by omega
  have X : Has2 w1.drew w.heap.size (.float .f64 xl) (.float .f64 xh) := X
  have Y : Has2 w1.drew (w.heap.size + 1) (.float .f64 yl) (.float .f64 yh) := Y
  have R : Has2 w1.drew (w.heap.size + 1 + 1) (.float .f64 0) (.float .f64 0) := R
  have HB : Below w.heap.size w w1.drew := HB.drew
  go_region_held3 (fun w' => w'.cell? ⟨w.heap.size, 0, none⟩ = some (.float .f64 xl) ∧ w'.cell? ⟨w.heap.size, 1, none⟩ = some (.float .f64 xh) ∧ w'.cell? ⟨w.heap.size + 1, 0, none⟩ = some (.float .f64 yl) ∧ w'.cell? ⟨w.heap.size + 1, 1, none⟩ = some (.float .f64 yh)) (first | exact ⟨X.1, X.2.1, Y.1, Y.2.1⟩ | go_keep)
    (first
      | (go_at_call_of 69 (Value.agg #[.float .f64 yl, .float .f64 yh]); refine (c1 _).mono ?_; rintro _ w2 ⟨rfl, hb1⟩; replace X := X.keep hb1; replace Y := Y.keep hb1; replace R := R.keep hb1; replace HB := later HB hb1; clear hb1)
      | (go_at_call 68; refine (c2 _).mono ?_; rintro _ w2 ⟨rfl, hb1⟩; replace X := X.keep hb1; replace Y := Y.keep hb1; replace R := R.keep hb1; replace HB := later HB hb1; clear hb1)
      | (go_at_call_of 69 (Value.agg #[.float .f64 s1, .float .f64 s2]); refine (c3 _).mono ?_; rintro _ w2 ⟨rfl, hb1⟩; replace X := X.keep hb1; replace Y := Y.keep hb1; replace R := R.keep hb1; replace HB := later HB hb1; clear hb1; obtain ⟨d0, d1, d2, d3, d4⟩ := R))
  all_goals
    go_wp2_with fail
    refine bodyPost_ret (v := .agg #[.float .f64 m1, .float .f64 m2]) (by simp [results, Try.results35, go_sem, *]) rfl ⟨rfl, ?_⟩
    repeat' (first | (with_reducible exact HB) | (with_reducible refine Below.setCell ?_ ?_ _) | go_size)

end Go.Proofs.Yteapiigegbdopaa
