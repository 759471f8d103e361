/- The walks of mirror, Neg, Add and Sub of intervals. The walks of Sub, leastProduct, stretch. The walk of Mul, of intervals that hold some number. -/
import Derived.Test.YtdnpoacjamkhkaaIf
namespace Go.Proofs.Ytdnpoacjamkhkaa
open Go.ChangeShapes Go.WideShapes Go.ChangeAt Go.RowKit

def emptyP : Nat × Nat := (infI 1, infI (-1))
def mirrorP (x : Nat × Nat) : Nat × Nat := makeP (negB x.2) (negB x.1)
def negP (x : Nat × Nat) : Nat × Nat := if hsB x.1 x.2 then mirrorP x else emptyP

theorem mirror_w (lo hi : Nat) (hl : lo < 18446744073709551616) (hh : hi < 18446744073709551616) (w : World) :
    Calls Try.prog 65 #[.agg #[.float .f64 lo, .float .f64 hi]] w fun e w' => e = .returned (.agg #[.float .f64 (mirrorP (lo, hi)).1, .float .f64 (mirrorP (lo, hi)).2]) ∧ Below w.heap.size w w' := by
  have c := fun w => make_w (negB hi) (negB lo) (negB_lt hh) (negB_lt hl) w
  have n1 : Op.negFloat .f64 hi = negB hi := negFloat_eq hi hh
  have n2 : Op.negFloat .f64 lo = negB lo := negFloat_eq lo hl
  unfold mirrorP
  simp only
  generalize makeP (negB hi) (negB lo) = p at *
  generalize negB hi = mh at *
  generalize negB lo = ml at *
  go_enter Try.func65, Try.ntmps65
  go_wp2_with
   (go_at_call 61; refine (c _).mono ?_; rintro _ w1 ⟨rfl, hb1⟩
    have k1 : Has2 w1 (w.heap.size + 1) (.float .f64 0) (.float .f64 0) := Has2.keep ⟨by go_simp, by go_simp, by go_simp, by go_simp, by go_size⟩ hb1
    obtain ⟨a0, a1, a2, a3, a4⟩ := k1)
  refine bodyPost_ret (v := .agg #[.float .f64 p.1, .float .f64 p.2]) (by simp [results, Try.results65, go_sem, *]) rfl ⟨rfl, ?_⟩
  have t : Below w.heap.size w w1 := later (by go_grown) hb1
  repeat' (first | (with_reducible exact t) | (with_reducible refine Below.setCell ?_ ?_ _) | go_size)

set_option maxHeartbeats 1000000 in
theorem add_i (xl xh yl yh : Nat) (h1 : xl < 18446744073709551616) (h2 : xh < 18446744073709551616) (h3 : yl < 18446744073709551616) (h4 : yh < 18446744073709551616) (o1 o2 : Option Nat)
    (ca : ∀ w, Calls Try.prog 63 #[.float .f64 xl, .float .f64 yl, .int .i64 (-1)] w fun x w' => Ans o1 x ∧ Below w.heap.size w w') (cb : ∀ w, Calls Try.prog 63 #[.float .f64 xh, .float .f64 yh, .int .i64 1] w fun x w' => Ans o2 x ∧ Below w.heap.size w w')
    (hs : (hsB xl xh && hsB yl yh) = true) (w : World) :
    Calls Try.prog 28 #[.agg #[.float .f64 xl, .float .f64 xh], .agg #[.float .f64 yl, .float .f64 yh]] w fun e w' => (∃ r1 r2, e = .returned (.agg #[.float .f64 r1, .float .f64 r2]) ∧ Told o1 r1 ∧ Told o2 r2) ∧ Below w.heap.size w w' := by
  have c1 := fun b W hlt c0 c1 c2 c3 => someEmpty2_w b xl xh yl yh h1 h2 h3 h4 W hlt c0 c1 c2 c3
  rw [hs] at c1
  clear hs h1 h2 h3 h4
  go_enter Try.func28, Try.ntmps28
  go_upto_region 3 with
   (go_at_call 58; refine (c1 (w.heap.size + 1 + 1 + 1) _ (by go_size) (by go_simp) (by go_simp) (by go_simp) (by go_simp)).mono ?_; rintro _ w1 ⟨rfl, hb1⟩
    have R : Has2 w1 (w.heap.size + 1 + 1) (.float .f64 0) (.float .f64 0) := Has2.keep ⟨by go_simp, by go_simp, by go_simp, by go_simp, by go_size⟩ hb1
    have X : Has2 w1 w.heap.size (.float .f64 xl) (.float .f64 xh) := Has2.keep ⟨by go_simp, by go_simp, by go_simp, by go_simp, by go_size⟩ hb1
    have Y : Has2 w1 (w.heap.size + 1) (.float .f64 yl) (.float .f64 yh) := Has2.keep ⟨by go_simp, by go_simp, by go_simp, by go_simp, by go_size⟩ hb1
    have HB : Below w.heap.size w w1 := later (by go_grown) hb1)
  clear hb1
  have X' : Has2 w1.drew w.heap.size (.float .f64 xl) (.float .f64 xh) := X
  have Y' : Has2 w1.drew (w.heap.size + 1) (.float .f64 yl) (.float .f64 yh) := Y
  have R' : Has2 w1.drew (w.heap.size + 1 + 1) (.float .f64 0) (.float .f64 0) := R
  have HB' : Below w.heap.size w w1.drew := HB.drew
  clear X Y R HB
  have ne1 : w.heap.size + 1 + 1 ≠ w.heap.size := by omega
  have ne2 : w.heap.size ≠ w.heap.size + 1 + 1 := by omega
  go_region_held3 (fun w' => w'.cell? ⟨w.heap.size, 0, none⟩ = some (.float .f64 xl) ∧ w'.cell? ⟨w.heap.size, 1, none⟩ = some (.float .f64 xh) ∧ w'.cell? ⟨w.heap.size + 1, 0, none⟩ = some (.float .f64 yl) ∧ w'.cell? ⟨w.heap.size + 1, 1, none⟩ = some (.float .f64 yh)) (first | exact ⟨X'.1, X'.2.1, Y'.1, Y'.2.1⟩ | go_keep)
    (first
      | (go_at_call_of 63 (Value.float .f64 xl); refine (ca _).mono ?_; rintro _ w2 ⟨⟨r1, rfl, t1⟩, hb1⟩; replace X' := X'.keep hb1; replace Y' := Y'.keep hb1; replace R' := R'.keep hb1; replace HB' := later HB' hb1; clear hb1)
      | (go_at_call_of 63 (Value.float .f64 xh); refine (cb _).mono ?_; rintro _ w3 ⟨⟨r2, rfl, t2⟩, hb1⟩; replace X' := X'.keep hb1; replace Y' := Y'.keep hb1; replace R' := R'.keep hb1; replace HB' := later HB' hb1; clear hb1; obtain ⟨d0, d1, d2, d3, d4⟩ := R'))
  all_goals
    go_wp2_with fail
    refine bodyPost_ret (v := .agg #[.float .f64 r1, .float .f64 r2]) (by simp [results, Try.results28, go_sem, *]) rfl ⟨⟨r1, r2, rfl, t1, t2⟩, ?_⟩
    repeat' (first | (with_reducible exact HB') | (with_reducible refine Below.setCell ?_ ?_ _) | go_size)

end Go.Proofs.Ytdnpoacjamkhkaa

namespace Go.Proofs.Ytdnpoacjamkhkaa
open Go.ChangeShapes Go.WideShapes Go.ChangeAt Go.RowKit

/-- The product, rounded down, of words that are numbers. -/
def mulD (a b : Nat) : Nat := (mulR a b (-1)).getD 0
def lpP (a fl fh : Nat) : Nat := if ltB a 0 then mulD a fh else mulD a fl

theorem mulR_num {a b : Nat} (dir : Int) (na : nanB a = false) (nb : nanB b = false) : ∃ r, mulR a b dir = some r := by
  unfold mulR
  rw [na, nb]
  simp only [Bool.or_self, Bool.false_eq_true, if_false]
  split
  · exact ⟨_, rfl⟩
  · split <;> exact ⟨_, rfl⟩

theorem mulD_is {a b : Nat} (na : nanB a = false) (nb : nanB b = false) : mulR a b (-1) = some (mulD a b) := by
  obtain ⟨r, h⟩ := mulR_num (-1) na nb
  unfold mulD
  rw [h]; rfl

theorem mulD_w (a b : Nat) (ha : a < 18446744073709551616) (hb : b < 18446744073709551616) (na : nanB a = false) (nb : nanB b = false) (w : World) :
    Calls Try.prog 66 #[.float .f64 a, .float .f64 b, .int .i64 (-1)] w fun e w' => e = .returned (.float .f64 (mulD a b)) ∧ Below w.heap.size w w' := by
  have h := mul_w a b (-1) ha hb w
  rw [mulD_is na nb] at h
  refine h.mono ?_
  rintro _ _ ⟨⟨r, rfl, -, e⟩, hb⟩
  have e : r = mulD a b := e
  rw [e]
  exact ⟨rfl, hb⟩

theorem lp_w (a fl fh : Nat) (ha : a < 18446744073709551616) (h1 : fl < 18446744073709551616) (h2 : fh < 18446744073709551616) (na : nanB a = false) (n1 : nanB fl = false) (n2 : nanB fh = false) (w : World) :
    Calls Try.prog 95 #[.float .f64 a, .agg #[.float .f64 fl, .float .f64 fh]] w fun e w' => e = .returned (.float .f64 (lpP a fl fh)) ∧ Below w.heap.size w w' := by
  have o := o_lt ha (show 0 < 18446744073709551616 by omega)
  have c1 := fun w => mulD_w a fh ha h2 na n2 w
  have c2 := fun w => mulD_w a fl ha h1 na n1 w
  unfold lpP
  generalize mulD a fh = r1 at *
  generalize mulD a fl = r2 at *
  generalize ltB a 0 = b at *
  clear ha h1 h2 na n1 n2
  cases b
  · go_enter Try.func95, Try.ntmps95
    go_wp2_with (go_at_call 66; refine (c2 _).mono ?_; rintro _ w1 ⟨rfl, hb1⟩)
    go_ret
    exact ⟨rfl, later (by go_grown) hb1⟩
  · go_enter Try.func95, Try.ntmps95
    go_wp2_with (go_at_call 66; refine (c1 _).mono ?_; rintro _ w1 ⟨rfl, hb1⟩)
    go_ret
    exact ⟨rfl, later (by go_grown) hb1⟩

set_option maxHeartbeats 1000000 in
theorem stretch_core (xl xh fl fh nx p1 p2 np m1 m2 : Nat) (e1 : Op.negFloat .f64 xh = nx) (e2 : Op.negFloat .f64 p2 = np)
    (c1 : ∀ w, Calls Try.prog 95 #[.float .f64 xl, .agg #[.float .f64 fl, .float .f64 fh]] w fun e w' => e = .returned (.float .f64 p1) ∧ Below w.heap.size w w')
    (c2 : ∀ w, Calls Try.prog 95 #[.float .f64 nx, .agg #[.float .f64 fl, .float .f64 fh]] w fun e w' => e = .returned (.float .f64 p2) ∧ Below w.heap.size w w')
    (c3 : ∀ w, Calls Try.prog 61 #[.float .f64 p1, .float .f64 np] w fun e w' => e = .returned (.agg #[.float .f64 m1, .float .f64 m2]) ∧ Below w.heap.size w w') (w : World) :
    Calls Try.prog 64 #[.agg #[.float .f64 xl, .float .f64 xh], .agg #[.float .f64 fl, .float .f64 fh]] w fun e w' => e = .returned (.agg #[.float .f64 m1, .float .f64 m2]) ∧ Below w.heap.size w w' := by
  go_enter Try.func64, Try.ntmps64
  go_upto_region 1 with fail
  have X : Has2 (((w.alloc (Obj.cells #[Value.float FloatKind.f64 xl, Value.float FloatKind.f64 xh] 37)).alloc (Obj.cells #[Value.float FloatKind.f64 fl, Value.float FloatKind.f64 fh] 37)).alloc (Obj.cells #[Value.float FloatKind.f64 0, Value.float FloatKind.f64 0] 37)).drew w.heap.size (.float .f64 xl) (.float .f64 xh) := ⟨by go_simp, by go_simp, by go_simp, by go_simp, by go_size⟩
  have Y : Has2 (((w.alloc (Obj.cells #[Value.float FloatKind.f64 xl, Value.float FloatKind.f64 xh] 37)).alloc (Obj.cells #[Value.float FloatKind.f64 fl, Value.float FloatKind.f64 fh] 37)).alloc (Obj.cells #[Value.float FloatKind.f64 0, Value.float FloatKind.f64 0] 37)).drew (w.heap.size + 1) (.float .f64 fl) (.float .f64 fh) := ⟨by go_simp, by go_simp, by go_simp, by go_simp, by go_size⟩
  have R : Has2 (((w.alloc (Obj.cells #[Value.float FloatKind.f64 xl, Value.float FloatKind.f64 xh] 37)).alloc (Obj.cells #[Value.float FloatKind.f64 fl, Value.float FloatKind.f64 fh] 37)).alloc (Obj.cells #[Value.float FloatKind.f64 0, Value.float FloatKind.f64 0] 37)).drew (w.heap.size + 1 + 1) (.float .f64 0) (.float .f64 0) := ⟨by go_simp, by go_simp, by go_simp, by go_simp, by go_size⟩
  have HB : Below w.heap.size w (((w.alloc (Obj.cells #[Value.float FloatKind.f64 xl, Value.float FloatKind.f64 xh] 37)).alloc (Obj.cells #[Value.float FloatKind.f64 fl, Value.float FloatKind.f64 fh] 37)).alloc (Obj.cells #[Value.float FloatKind.f64 0, Value.float FloatKind.f64 0] 37)).drew := by go_grown
  have ne1 : w.heap.size + 1 + 1 ≠ w.heap.size := by omega
  have ne2 : w.heap.size ≠ w.heap.size + 1 + 1 := by omega
  go_region_held3 (fun w' => w'.cell? ⟨w.heap.size, 0, none⟩ = some (.float .f64 xl) ∧ w'.cell? ⟨w.heap.size, 1, none⟩ = some (.float .f64 xh) ∧ w'.cell? ⟨w.heap.size + 1, 0, none⟩ = some (.float .f64 fl) ∧ w'.cell? ⟨w.heap.size + 1, 1, none⟩ = some (.float .f64 fh)) (first | exact ⟨X.1, X.2.1, Y.1, Y.2.1⟩ | go_keep)
    (first
      | (go_at_call_of 95 (Value.float .f64 xl); refine (c1 _).mono ?_; rintro _ w2 ⟨rfl, hb1⟩; replace X := X.keep hb1; replace Y := Y.keep hb1; replace R := R.keep hb1; replace HB := later HB hb1; clear hb1)
      | (go_at_call_of 95 (Value.float .f64 nx); refine (c2 _).mono ?_; rintro _ w2 ⟨rfl, hb1⟩; replace X := X.keep hb1; replace Y := Y.keep hb1; replace R := R.keep hb1; replace HB := later HB hb1; clear hb1)
      | (go_at_call 61; refine (c3 _).mono ?_; rintro _ w3 ⟨rfl, hb1⟩; replace X := X.keep hb1; replace Y := Y.keep hb1; replace R := R.keep hb1; replace HB := later HB hb1; clear hb1; obtain ⟨d0, d1, d2, d3, d4⟩ := R))
  all_goals
    go_wp2_with fail
    refine bodyPost_ret (v := .agg #[.float .f64 m1, .float .f64 m2]) (by simp [results, Try.results64, go_sem, *]) rfl ⟨rfl, ?_⟩
    repeat' (first | (with_reducible exact HB) | (with_reducible refine Below.setCell ?_ ?_ _) | go_size)

end Go.Proofs.Ytdnpoacjamkhkaa

namespace Go.Proofs.Ytdnpoacjamkhkaa
open Go.ChangeShapes Go.WideShapes Go.ChangeAt Go.RowKit

/-- The lesser, the greater of two words that are numbers. -/
def minW (a b : Nat) : Nat := if key a < key b then a else if key a = key b then (if (FloatKind.f64.decode a).neg then a else b) else b
def maxW (a b : Nat) : Nat := if key a < key b then b else if key a = key b then (if (FloatKind.f64.decode a).neg then b else a) else a

theorem min_f {a b : Nat} (ha : a < 18446744073709551616) (hb : b < 18446744073709551616) (na : nanB a = false) (nb : nanB b = false) (P : Program) (ts : Array TypeId) (t : TypeId) (w : World) :
    (Builtin.min_ ts t #[.float .f64 a, .float .f64 b]).run P w = .ok (.float .f64 (minW a b)) w := by
  have o := order_eq a b ha hb
  rw [na, nb] at o
  simp only [Bool.or_self, Bool.false_eq_true, if_false, compare_int] at o
  unfold minW
  by_cases c : key a < key b
  · rw [if_pos c] at o
    simp [Builtin.min_, Builtin.min2, o, c]
  · rw [if_neg c] at o
    by_cases d : key a = key b
    · rw [if_pos d] at o
      simp [Builtin.min_, Builtin.min2, o, d]
    · rw [if_neg d] at o
      simp [Builtin.min_, Builtin.min2, o, c, d]
theorem max_f {a b : Nat} (ha : a < 18446744073709551616) (hb : b < 18446744073709551616) (na : nanB a = false) (nb : nanB b = false) (P : Program) (ts : Array TypeId) (t : TypeId) (w : World) :
    (Builtin.max_ ts t #[.float .f64 a, .float .f64 b]).run P w = .ok (.float .f64 (maxW a b)) w := by
  have o := order_eq a b ha hb
  rw [na, nb] at o
  simp only [Bool.or_self, Bool.false_eq_true, if_false, compare_int] at o
  unfold maxW
  by_cases c : key a < key b
  · rw [if_pos c] at o
    simp [Builtin.max_, Builtin.max2, o, c]
  · rw [if_neg c] at o
    by_cases d : key a = key b
    · rw [if_pos d] at o
      simp [Builtin.max_, Builtin.max2, o, d]
    · rw [if_neg d] at o
      simp [Builtin.max_, Builtin.max2, o, c, d]
theorem minW_key (a b : Nat) : key (minW a b) = min (key a) (key b) ∧ (minW a b = a ∨ minW a b = b) := by
  unfold minW
  split
  · exact ⟨by omega, Or.inl rfl⟩
  · split
    · split
      · exact ⟨by omega, Or.inl rfl⟩
      · exact ⟨by omega, Or.inr rfl⟩
    · exact ⟨by omega, Or.inr rfl⟩
theorem maxW_key (a b : Nat) : key (maxW a b) = max (key a) (key b) ∧ (maxW a b = a ∨ maxW a b = b) := by
  unfold maxW
  split
  · exact ⟨by omega, Or.inr rfl⟩
  · split
    · split
      · exact ⟨by omega, Or.inr rfl⟩
      · exact ⟨by omega, Or.inl rfl⟩
    · exact ⟨by omega, Or.inl rfl⟩

set_option maxHeartbeats 1000000 in
theorem mul_a (xl xh yl yh  m1 m2 : Nat) (c0 : ∀ b W, b < W.heap.size → W.cell? ⟨b, 0, none⟩ = some (.float .f64 xl) → W.cell? ⟨b, 1, none⟩ = some (.float .f64 xh) → W.cell? ⟨b, 2, none⟩ = some (.float .f64 yl) → W.cell? ⟨b, 3, none⟩ = some (.float .f64 yh) → Calls Try.prog 58 #[.slice (some ⟨b, 0, none⟩) 2 2] W fun e w' => e = .returned (.bool false) ∧ Below W.heap.size W w')
    (g_xl : (FloatKind.f64.format.order xl 0 == some .gt || FloatKind.f64.format.order xl 0 == some .eq) = true)
    (c1 : (∀ w, Calls Try.prog 64 #[.agg #[.float .f64 yl, .float .f64 yh], .agg #[.float .f64 xl, .float .f64 xh]] w fun e w' => e = .returned (.agg #[.float .f64 m1, .float .f64 m2]) ∧ Below w.heap.size w w')) (w : World) :
    Calls Try.prog 29 #[.agg #[.float .f64 xl, .float .f64 xh], .agg #[.float .f64 yl, .float .f64 yh]] w fun e w' => e = .returned (.agg #[.float .f64 m1, .float .f64 m2]) ∧ Below w.heap.size w w' := by
  go_enter Try.func29, Try.ntmps29
  go_upto_region 4 with
   (go_at_call 58; refine (c0 (w.heap.size + 1 + 1 + 1) _ (by go_size) (by go_simp) (by go_simp) (by go_simp) (by go_simp)).mono ?_; rintro _ w1 ⟨rfl, hb1⟩
    have R : Has2 w1 (w.heap.size + 1 + 1) (.float .f64 0) (.float .f64 0) := Has2.keep ⟨by go_simp, by go_simp, by go_simp, by go_simp, by go_size⟩ hb1
    have X : Has2 w1 w.heap.size (.float .f64 xl) (.float .f64 xh) := Has2.keep ⟨by go_simp, by go_simp, by go_simp, by go_simp, by go_size⟩ hb1
    have Y : Has2 w1 (w.heap.size + 1) (.float .f64 yl) (.float .f64 yh) := Has2.keep ⟨by go_simp, by go_simp, by go_simp, by go_simp, by go_size⟩ hb1
    have HB : Below w.heap.size w w1 := later (by go_grown) hb1
    have x0 := X.1; have x1 := X.2.1; have y0 := Y.1; have y1 := Y.2.1)
  clear hb1 c0
  have ne1 : w.heap.size + 1 + 1 ≠ w.heap.size := by omega
  have ne2 : w.heap.size ≠ w.heap.size + 1 + 1 := by omega
  go_wp2_with (go_at_call 64; refine (c1 _).mono ?_; rintro _ w3 ⟨rfl, hb1⟩; replace X := X.keep hb1; replace Y := Y.keep hb1; replace R := R.keep hb1; replace HB := later HB hb1; clear hb1; obtain ⟨d0, d1, d2, d3, d4⟩ := R)
  all_goals
    refine bodyPost_ret (v := .agg #[.float .f64 m1, .float .f64 m2]) (by simp [results, Try.results29, go_sem, *]) rfl ⟨rfl, ?_⟩
    repeat' (first | (with_reducible exact HB) | (with_reducible refine Below.setCell ?_ ?_ _) | go_size)

set_option maxHeartbeats 1000000 in
theorem mul_b (xl xh yl yh n1 n2 s1 s2 m1 m2 : Nat) (c0 : ∀ b W, b < W.heap.size → W.cell? ⟨b, 0, none⟩ = some (.float .f64 xl) → W.cell? ⟨b, 1, none⟩ = some (.float .f64 xh) → W.cell? ⟨b, 2, none⟩ = some (.float .f64 yl) → W.cell? ⟨b, 3, none⟩ = some (.float .f64 yh) → Calls Try.prog 58 #[.slice (some ⟨b, 0, none⟩) 2 2] W fun e w' => e = .returned (.bool false) ∧ Below W.heap.size W w')
    (g_xl : (FloatKind.f64.format.order xl 0 == some .gt || FloatKind.f64.format.order xl 0 == some .eq) = false) (l_xh : (FloatKind.f64.format.order xh 0 == some .lt || FloatKind.f64.format.order xh 0 == some .eq) = true)
    (c1 : (∀ w, Calls Try.prog 65 #[.agg #[.float .f64 xl, .float .f64 xh]] w fun e w' => e = .returned (.agg #[.float .f64 n1, .float .f64 n2]) ∧ Below w.heap.size w w')) (c2 : (∀ w, Calls Try.prog 64 #[.agg #[.float .f64 yl, .float .f64 yh], .agg #[.float .f64 n1, .float .f64 n2]] w fun e w' => e = .returned (.agg #[.float .f64 s1, .float .f64 s2]) ∧ Below w.heap.size w w')) (c3 : (∀ w, Calls Try.prog 65 #[.agg #[.float .f64 s1, .float .f64 s2]] w fun e w' => e = .returned (.agg #[.float .f64 m1, .float .f64 m2]) ∧ Below w.heap.size w w')) (w : World) :
    Calls Try.prog 29 #[.agg #[.float .f64 xl, .float .f64 xh], .agg #[.float .f64 yl, .float .f64 yh]] w fun e w' => e = .returned (.agg #[.float .f64 m1, .float .f64 m2]) ∧ Below w.heap.size w w' := by
  go_enter Try.func29, Try.ntmps29
  go_upto_region 6 with
   (go_at_call 58; refine (c0 (w.heap.size + 1 + 1 + 1) _ (by go_size) (by go_simp) (by go_simp) (by go_simp) (by go_simp)).mono ?_; rintro _ w1 ⟨rfl, hb1⟩
    have R : Has2 w1 (w.heap.size + 1 + 1) (.float .f64 0) (.float .f64 0) := Has2.keep ⟨by go_simp, by go_simp, by go_simp, by go_simp, by go_size⟩ hb1
    have X : Has2 w1 w.heap.size (.float .f64 xl) (.float .f64 xh) := Has2.keep ⟨by go_simp, by go_simp, by go_simp, by go_simp, by go_size⟩ hb1
    have Y : Has2 w1 (w.heap.size + 1) (.float .f64 yl) (.float .f64 yh) := Has2.keep ⟨by go_simp, by go_simp, by go_simp, by go_simp, by go_size⟩ hb1
    have HB : Below w.heap.size w w1 := later (by go_grown) hb1
    have x0 := X.1; have x1 := X.2.1; have y0 := Y.1; have y1 := Y.2.1)
  clear hb1 c0
  have ne1 : w.heap.size + 1 + 1 ≠ w.heap.size := by omega
  have ne2 : w.heap.size ≠ w.heap.size + 1 + 1 := by omega
  have X : Has2 w1.drew w.heap.size (.float .f64 xl) (.float .f64 xh) := X
  have Y : Has2 w1.drew (w.heap.size + 1) (.float .f64 yl) (.float .f64 yh) := Y
  have R : Has2 w1.drew (w.heap.size + 1 + 1) (.float .f64 0) (.float .f64 0) := R
  have HB : Below w.heap.size w w1.drew := HB.drew
  go_region_held3 (fun w' => w'.cell? ⟨w.heap.size, 0, none⟩ = some (.float .f64 xl) ∧ w'.cell? ⟨w.heap.size, 1, none⟩ = some (.float .f64 xh) ∧ w'.cell? ⟨w.heap.size + 1, 0, none⟩ = some (.float .f64 yl) ∧ w'.cell? ⟨w.heap.size + 1, 1, none⟩ = some (.float .f64 yh)) (first | exact ⟨X.1, X.2.1, Y.1, Y.2.1⟩ | go_keep)
    (first
      | (go_at_call_of 65 (Value.agg #[.float .f64 xl, .float .f64 xh]); refine (c1 _).mono ?_; rintro _ w2 ⟨rfl, hb1⟩; replace X := X.keep hb1; replace Y := Y.keep hb1; replace R := R.keep hb1; replace HB := later HB hb1; clear hb1)
      | (go_at_call 64; refine (c2 _).mono ?_; rintro _ w2 ⟨rfl, hb1⟩; replace X := X.keep hb1; replace Y := Y.keep hb1; replace R := R.keep hb1; replace HB := later HB hb1; clear hb1)
      | (go_at_call_of 65 (Value.agg #[.float .f64 s1, .float .f64 s2]); refine (c3 _).mono ?_; rintro _ w2 ⟨rfl, hb1⟩; replace X := X.keep hb1; replace Y := Y.keep hb1; replace R := R.keep hb1; replace HB := later HB hb1; clear hb1; obtain ⟨d0, d1, d2, d3, d4⟩ := R))
  all_goals
    go_wp2_with fail
    refine bodyPost_ret (v := .agg #[.float .f64 m1, .float .f64 m2]) (by simp [results, Try.results29, go_sem, *]) rfl ⟨rfl, ?_⟩
    repeat' (first | (with_reducible exact HB) | (with_reducible refine Below.setCell ?_ ?_ _) | go_size)

set_option maxHeartbeats 1000000 in
theorem mul_c (xl xh yl yh  m1 m2 : Nat) (c0 : ∀ b W, b < W.heap.size → W.cell? ⟨b, 0, none⟩ = some (.float .f64 xl) → W.cell? ⟨b, 1, none⟩ = some (.float .f64 xh) → W.cell? ⟨b, 2, none⟩ = some (.float .f64 yl) → W.cell? ⟨b, 3, none⟩ = some (.float .f64 yh) → Calls Try.prog 58 #[.slice (some ⟨b, 0, none⟩) 2 2] W fun e w' => e = .returned (.bool false) ∧ Below W.heap.size W w')
    (g_xl : (FloatKind.f64.format.order xl 0 == some .gt || FloatKind.f64.format.order xl 0 == some .eq) = false) (l_xh : (FloatKind.f64.format.order xh 0 == some .lt || FloatKind.f64.format.order xh 0 == some .eq) = false) (g_yl : (FloatKind.f64.format.order yl 0 == some .gt || FloatKind.f64.format.order yl 0 == some .eq) = true)
    (c1 : (∀ w, Calls Try.prog 64 #[.agg #[.float .f64 xl, .float .f64 xh], .agg #[.float .f64 yl, .float .f64 yh]] w fun e w' => e = .returned (.agg #[.float .f64 m1, .float .f64 m2]) ∧ Below w.heap.size w w')) (w : World) :
    Calls Try.prog 29 #[.agg #[.float .f64 xl, .float .f64 xh], .agg #[.float .f64 yl, .float .f64 yh]] w fun e w' => e = .returned (.agg #[.float .f64 m1, .float .f64 m2]) ∧ Below w.heap.size w w' := by
  go_enter Try.func29, Try.ntmps29
  go_upto_region 8 with
   (go_at_call 58; refine (c0 (w.heap.size + 1 + 1 + 1) _ (by go_size) (by go_simp) (by go_simp) (by go_simp) (by go_simp)).mono ?_; rintro _ w1 ⟨rfl, hb1⟩
    have R : Has2 w1 (w.heap.size + 1 + 1) (.float .f64 0) (.float .f64 0) := Has2.keep ⟨by go_simp, by go_simp, by go_simp, by go_simp, by go_size⟩ hb1
    have X : Has2 w1 w.heap.size (.float .f64 xl) (.float .f64 xh) := Has2.keep ⟨by go_simp, by go_simp, by go_simp, by go_simp, by go_size⟩ hb1
    have Y : Has2 w1 (w.heap.size + 1) (.float .f64 yl) (.float .f64 yh) := Has2.keep ⟨by go_simp, by go_simp, by go_simp, by go_simp, by go_size⟩ hb1
    have HB : Below w.heap.size w w1 := later (by go_grown) hb1
    have x0 := X.1; have x1 := X.2.1; have y0 := Y.1; have y1 := Y.2.1)
  clear hb1 c0
  have ne1 : w.heap.size + 1 + 1 ≠ w.heap.size := by omega
  have ne2 : w.heap.size ≠ w.heap.size + 1 + 1 := by omega
  go_wp2_with (go_at_call 64; refine (c1 _).mono ?_; rintro _ w3 ⟨rfl, hb1⟩; replace X := X.keep hb1; replace Y := Y.keep hb1; replace R := R.keep hb1; replace HB := later HB hb1; clear hb1; obtain ⟨d0, d1, d2, d3, d4⟩ := R)
  all_goals
    refine bodyPost_ret (v := .agg #[.float .f64 m1, .float .f64 m2]) (by simp [results, Try.results29, go_sem, *]) rfl ⟨rfl, ?_⟩
    repeat' (first | (with_reducible exact HB) | (with_reducible refine Below.setCell ?_ ?_ _) | go_size)

set_option maxHeartbeats 1000000 in
theorem mul_d (xl xh yl yh n1 n2 s1 s2 m1 m2 : Nat) (c0 : ∀ b W, b < W.heap.size → W.cell? ⟨b, 0, none⟩ = some (.float .f64 xl) → W.cell? ⟨b, 1, none⟩ = some (.float .f64 xh) → W.cell? ⟨b, 2, none⟩ = some (.float .f64 yl) → W.cell? ⟨b, 3, none⟩ = some (.float .f64 yh) → Calls Try.prog 58 #[.slice (some ⟨b, 0, none⟩) 2 2] W fun e w' => e = .returned (.bool false) ∧ Below W.heap.size W w')
    (g_xl : (FloatKind.f64.format.order xl 0 == some .gt || FloatKind.f64.format.order xl 0 == some .eq) = false) (l_xh : (FloatKind.f64.format.order xh 0 == some .lt || FloatKind.f64.format.order xh 0 == some .eq) = false) (g_yl : (FloatKind.f64.format.order yl 0 == some .gt || FloatKind.f64.format.order yl 0 == some .eq) = false) (l_yh : (FloatKind.f64.format.order yh 0 == some .lt || FloatKind.f64.format.order yh 0 == some .eq) = true)
    (c1 : (∀ w, Calls Try.prog 65 #[.agg #[.float .f64 yl, .float .f64 yh]] w fun e w' => e = .returned (.agg #[.float .f64 n1, .float .f64 n2]) ∧ Below w.heap.size w w')) (c2 : (∀ w, Calls Try.prog 64 #[.agg #[.float .f64 xl, .float .f64 xh], .agg #[.float .f64 n1, .float .f64 n2]] w fun e w' => e = .returned (.agg #[.float .f64 s1, .float .f64 s2]) ∧ Below w.heap.size w w')) (c3 : (∀ w, Calls Try.prog 65 #[.agg #[.float .f64 s1, .float .f64 s2]] w fun e w' => e = .returned (.agg #[.float .f64 m1, .float .f64 m2]) ∧ Below w.heap.size w w')) (w : World) :
    Calls Try.prog 29 #[.agg #[.float .f64 xl, .float .f64 xh], .agg #[.float .f64 yl, .float .f64 yh]] w fun e w' => e = .returned (.agg #[.float .f64 m1, .float .f64 m2]) ∧ Below w.heap.size w w' := by
  go_enter Try.func29, Try.ntmps29
  go_upto_region 10 with
   (go_at_call 58; refine (c0 (w.heap.size + 1 + 1 + 1) _ (by go_size) (by go_simp) (by go_simp) (by go_simp) (by go_simp)).mono ?_; rintro _ w1 ⟨rfl, hb1⟩
    have R : Has2 w1 (w.heap.size + 1 + 1) (.float .f64 0) (.float .f64 0) := Has2.keep ⟨by go_simp, by go_simp, by go_simp, by go_simp, by go_size⟩ hb1
    have X : Has2 w1 w.heap.size (.float .f64 xl) (.float .f64 xh) := Has2.keep ⟨by go_simp, by go_simp, by go_simp, by go_simp, by go_size⟩ hb1
    have Y : Has2 w1 (w.heap.size + 1) (.float .f64 yl) (.float .f64 yh) := Has2.keep ⟨by go_simp, by go_simp, by go_simp, by go_simp, by go_size⟩ hb1
    have HB : Below w.heap.size w w1 := later (by go_grown) hb1
    have x0 := X.1; have x1 := X.2.1; have y0 := Y.1; have y1 := Y.2.1)
  clear hb1 c0
  have ne1 : w.heap.size + 1 + 1 ≠ w.heap.size := by omega
  have ne2 : w.heap.size ≠ w.heap.size + 1 + 1 := by omega
  have X : Has2 w1.drew w.heap.size (.float .f64 xl) (.float .f64 xh) := X
  have Y : Has2 w1.drew (w.heap.size + 1) (.float .f64 yl) (.float .f64 yh) := Y
  have R : Has2 w1.drew (w.heap.size + 1 + 1) (.float .f64 0) (.float .f64 0) := R
  have HB : Below w.heap.size w w1.drew := HB.drew
  go_region_held3 (fun w' => w'.cell? ⟨w.heap.size, 0, none⟩ = some (.float .f64 xl) ∧ w'.cell? ⟨w.heap.size, 1, none⟩ = some (.float .f64 xh) ∧ w'.cell? ⟨w.heap.size + 1, 0, none⟩ = some (.float .f64 yl) ∧ w'.cell? ⟨w.heap.size + 1, 1, none⟩ = some (.float .f64 yh)) (first | exact ⟨X.1, X.2.1, Y.1, Y.2.1⟩ | go_keep)
    (first
      | (go_at_call_of 65 (Value.agg #[.float .f64 yl, .float .f64 yh]); refine (c1 _).mono ?_; rintro _ w2 ⟨rfl, hb1⟩; replace X := X.keep hb1; replace Y := Y.keep hb1; replace R := R.keep hb1; replace HB := later HB hb1; clear hb1)
      | (go_at_call 64; refine (c2 _).mono ?_; rintro _ w2 ⟨rfl, hb1⟩; replace X := X.keep hb1; replace Y := Y.keep hb1; replace R := R.keep hb1; replace HB := later HB hb1; clear hb1)
      | (go_at_call_of 65 (Value.agg #[.float .f64 s1, .float .f64 s2]); refine (c3 _).mono ?_; rintro _ w2 ⟨rfl, hb1⟩; replace X := X.keep hb1; replace Y := Y.keep hb1; replace R := R.keep hb1; replace HB := later HB hb1; clear hb1; obtain ⟨d0, d1, d2, d3, d4⟩ := R))
  all_goals
    go_wp2_with fail
    refine bodyPost_ret (v := .agg #[.float .f64 m1, .float .f64 m2]) (by simp [results, Try.results29, go_sem, *]) rfl ⟨rfl, ?_⟩
    repeat' (first | (with_reducible exact HB) | (with_reducible refine Below.setCell ?_ ?_ _) | go_size)

end Go.Proofs.Ytdnpoacjamkhkaa
