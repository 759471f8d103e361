/- The walks of Mag, Mig, Sqr and Sqrt, of intervals that hold some number. The walks of Sqr and Sqrt, of intervals that hold some number. -/
import Derived.Test.YtnchhfhoaepjnaaGreatIo
namespace Go.Proofs.YtnchhfhoaepjnaaGreat
open Go.ChangeShapes Go.WideShapes Go.ChangeAt Go.RowKit

theorem absw {x : Nat} : x % 9223372036854775808 < 18446744073709551616 := by omega
theorem nan_abs (x : Nat) : nanB (x % 9223372036854775808) = nanB x := by unfold nanB; rw [Nat.mod_mod]
def magP (lo hi : Nat) : Nat := if hsB lo hi then maxW (lo % 9223372036854775808) (hi % 9223372036854775808) else 0
def migP (lo hi : Nat) : Nat := if hsB lo hi then (if hasB lo hi 0 then 0 else minW (lo % 9223372036854775808) (hi % 9223372036854775808)) else 0

theorem hs_nan {lo hi : Nat} (h : hsB lo hi = true) : nanB lo = false ∧ nanB hi = false := by
  unfold hsB at h
  simp only [Bool.and_eq_true, Bool.not_eq_true'] at h
  exact ⟨h.1.1.1.1.1.1, h.1.1.1.1.1.2⟩

set_option maxHeartbeats 400000 in
theorem mag_w (lo hi : Nat) (hl : lo < 18446744073709551616) (hh : hi < 18446744073709551616) (w : World) :
    Calls Tryz.prog 127 #[.agg #[.float .f64 lo, .float .f64 hi]] w fun e w' => e = .returned (.float .f64 (magP lo hi)) ∧ Below w.heap.size w w' := by
  have c1 := fun b W c0 c1 => someEmpty1_w b lo hi hl hh W c0 c1
  have c2 := fun w => abs_w lo hl w
  have c3 := fun w => abs_w hi hh w
  have hm : hsB lo hi = true → ∀ ts t w, (Builtin.max_ ts t #[.float .f64 (lo % 9223372036854775808), .float .f64 (hi % 9223372036854775808)]).run Tryz.prog w = .ok (.float .f64 (maxW (lo % 9223372036854775808) (hi % 9223372036854775808))) w := fun h ts t w =>
    max_f absw absw (by rw [nan_abs]; exact (hs_nan h).1) (by rw [nan_abs]; exact (hs_nan h).2) _ ts t w
  unfold magP
  generalize hsB lo hi = b at *
  generalize maxW (lo % 9223372036854775808) (hi % 9223372036854775808) = m at *
  generalize lo % 9223372036854775808 = al at *
  generalize hi % 9223372036854775808 = ah at *
  cases b
  · clear hm
    go_enter Tryz.func127, Tryz.ntmps127
    go_wp2_with (go_at_call 102; refine (c1 (w.heap.size + 1) _ (by go_simp) (by go_simp)).mono ?_; rintro _ w1 ⟨rfl, hb1⟩)
    go_ret
    exact ⟨rfl, later (by go_grown) hb1⟩
  · have hm := hm rfl
    go_enter Tryz.func127, Tryz.ntmps127
    go_upto_region 3 with
     (go_at_call 102; refine (c1 (w.heap.size + 1) _ (by go_simp) (by go_simp)).mono ?_; rintro _ w1 ⟨rfl, hb1⟩
      have X : Has2 w1 w.heap.size (.float .f64 lo) (.float .f64 hi) := Has2.keep ⟨by go_simp, by go_simp, by go_simp, by go_simp, by go_size⟩ hb1
      have HB : Below w.heap.size w w1 := later (by go_grown) hb1)
    clear hb1 c1
    go_region_held3 (fun w' => w'.cell? ⟨w.heap.size, 0, none⟩ = some (.float .f64 lo) ∧ w'.cell? ⟨w.heap.size, 1, none⟩ = some (.float .f64 hi)) (first | exact ⟨X.1, X.2.1⟩ | go_keep)
      (first
        | (go_at_call_of 130 (Value.float .f64 lo); refine (c2 _).mono ?_; rintro _ _ ⟨rfl, rfl⟩)
        | (go_at_call 130; refine (c3 _).mono ?_; rintro _ _ ⟨rfl, rfl⟩))
    all_goals
      go_wp2_with fail
      go_ret
      exact ⟨rfl, HB.drew⟩

set_option maxHeartbeats 400000 in
theorem mig_w (lo hi : Nat) (hl : lo < 18446744073709551616) (hh : hi < 18446744073709551616) (w : World) :
    Calls Tryz.prog 126 #[.agg #[.float .f64 lo, .float .f64 hi]] w fun e w' => e = .returned (.float .f64 (migP lo hi)) ∧ Below w.heap.size w w' := by
  have c1 := fun b W c0 c1 => someEmpty1_w b lo hi hl hh W c0 c1
  have c2 := fun w => abs_w lo hl w
  have c3 := fun w => abs_w hi hh w
  have c4 := fun w => has_w lo hi 0 hl hh (by omega) w
  have hm : hsB lo hi = true → ∀ ts t w, (Builtin.min_ ts t #[.float .f64 (lo % 9223372036854775808), .float .f64 (hi % 9223372036854775808)]).run Tryz.prog w = .ok (.float .f64 (minW (lo % 9223372036854775808) (hi % 9223372036854775808))) w := fun h ts t w =>
    min_f absw absw (by rw [nan_abs]; exact (hs_nan h).1) (by rw [nan_abs]; exact (hs_nan h).2) _ ts t w
  unfold migP
  generalize hsB lo hi = b at *
  generalize hasB lo hi 0 = b2 at *
  generalize minW (lo % 9223372036854775808) (hi % 9223372036854775808) = m at *
  generalize lo % 9223372036854775808 = al at *
  generalize hi % 9223372036854775808 = ah at *
  cases b
  · clear hm
    go_enter Tryz.func126, Tryz.ntmps126
    go_wp2_with (go_at_call 102; refine (c1 (w.heap.size + 1) _ (by go_simp) (by go_simp)).mono ?_; rintro _ w1 ⟨rfl, hb1⟩)
    go_ret
    exact ⟨rfl, later (by go_grown) hb1⟩
  · have hm := hm rfl
    cases b2
    · go_enter Tryz.func126, Tryz.ntmps126
      go_upto_region 3 with (first
       | (go_at_call 102; refine (c1 (w.heap.size + 1) _ (by go_simp) (by go_simp)).mono ?_; rintro _ w1 ⟨rfl, hb1⟩
          have X : Has2 w1 w.heap.size (.float .f64 lo) (.float .f64 hi) := Has2.keep ⟨by go_simp, by go_simp, by go_simp, by go_simp, by go_size⟩ hb1
          have HB : Below w.heap.size w w1 := later (by go_grown) hb1
          have x0 := X.1; have x1 := X.2.1)
       | (go_at_call 64; refine (c4 _).mono ?_; rintro _ w2 ⟨rfl, hb2⟩; replace X := X.keep hb2; replace HB := later HB hb2))
      clear hb1 c1 x0 x1 c4
      go_region_held3 (fun w' => w'.cell? ⟨w.heap.size, 0, none⟩ = some (.float .f64 lo) ∧ w'.cell? ⟨w.heap.size, 1, none⟩ = some (.float .f64 hi)) (first | exact ⟨X.1, X.2.1⟩ | go_keep)
        (first
          | (go_at_call_of 130 (Value.float .f64 lo); refine (c2 _).mono ?_; rintro _ _ ⟨rfl, rfl⟩)
          | (go_at_call 130; refine (c3 _).mono ?_; rintro _ _ ⟨rfl, rfl⟩))
      all_goals
        go_wp2_with fail
        go_ret
        exact ⟨rfl, HB.drew⟩
    · go_enter Tryz.func126, Tryz.ntmps126
      go_wp2_with (first
       | (go_at_call 102; refine (c1 (w.heap.size + 1) _ (by go_simp) (by go_simp)).mono ?_; rintro _ w1 ⟨rfl, hb1⟩
          have X : Has2 w1 w.heap.size (.float .f64 lo) (.float .f64 hi) := Has2.keep ⟨by go_simp, by go_simp, by go_simp, by go_simp, by go_size⟩ hb1
          have HB : Below w.heap.size w w1 := later (by go_grown) hb1
          have x0 := X.1; have x1 := X.2.1)
       | (go_at_call 64; refine (c4 _).mono ?_; rintro _ w2 ⟨rfl, hb2⟩; replace HB := later HB hb2))
      go_ret
      exact ⟨rfl, HB⟩

end Go.Proofs.YtnchhfhoaepjnaaGreat

namespace Go.Proofs.YtnchhfhoaepjnaaGreat
open Go.ChangeShapes Go.WideShapes Go.ChangeAt Go.RowKit

/-- The product, the root, to a side, where there is one. -/
def mulV (a b : Nat) (d : Int) : Nat := (mulR a b d).getD 0
def sqrtV (a : Nat) (d : Int) : Nat := (sqrtR a d).getD 0

theorem mulV_is {a b : Nat} (d : Int) (na : nanB a = false) (nb : nanB b = false) : mulR a b d = some (mulV a b d) := by
  obtain ⟨r, h⟩ := mulR_num d na nb
  unfold mulV
  rw [h]; rfl
theorem mulV_w (a b : Nat) (d : Int) (ha : a < 18446744073709551616) (hb : b < 18446744073709551616) (na : nanB a = false) (nb : nanB b = false) (w : World) :
    Calls Tryz.prog 122 #[.float .f64 a, .float .f64 b, .int .i64 d] w fun e w' => e = .returned (.float .f64 (mulV a b d)) ∧ Below w.heap.size w w' := by
  have h := mul_w a b d ha hb w
  rw [mulV_is d na nb] at h
  refine h.mono ?_
  rintro _ _ ⟨⟨r, rfl, -, e⟩, hb⟩
  have e : r = mulV a b d := e
  rw [e]
  exact ⟨rfl, hb⟩
theorem sqrtR_num {a : Nat} (d : Int) (na : nanB a = false) (ga : splitG a = false) : ∃ r, sqrtR a d = some r := by
  unfold sqrtR
  rw [na, ga]
  simp only [Bool.or_self, Bool.false_eq_true, if_false]
  split
  · exact ⟨_, rfl⟩
  · exact ⟨_, rfl⟩
theorem sqrtV_is {a : Nat} (d : Int) (na : nanB a = false) (ga : splitG a = false) : sqrtR a d = some (sqrtV a d) := by
  obtain ⟨r, h⟩ := sqrtR_num d na ga
  unfold sqrtV
  rw [h, Option.getD_some]
theorem sqrtV_w (a : Nat) (d : Int) (ha : a < 18446744073709551616) (na : nanB a = false) (ga : splitG a = false) (w : World) :
    Calls Tryz.prog 129 #[.float .f64 a, .int .i64 d] w fun e w' => e = .returned (.float .f64 (sqrtV a d)) ∧ Below w.heap.size w w' := by
  have h := sqrt_w a d ha w
  rw [sqrtV_is d na ga] at h
  refine h.mono ?_
  rintro _ _ ⟨⟨r, rfl, -, e⟩, hb⟩
  have e : r = sqrtV a d := e
  rw [e]
  exact ⟨rfl, hb⟩

set_option maxHeartbeats 1000000 in
theorem sqr_core (lo hi a b m1 m2 : Nat) (c0 : ∀ b W, W.cell? ⟨b, 0, none⟩ = some (.float .f64 lo) → W.cell? ⟨b, 1, none⟩ = some (.float .f64 hi) → Calls Tryz.prog 102 #[.slice (some ⟨b, 0, none⟩) 1 1] W fun e w' => e = .returned (.bool false) ∧ Below W.heap.size W w')
    (c1 : ∀ w, Calls Tryz.prog 126 #[.agg #[.float .f64 lo, .float .f64 hi]] w fun e w' => e = .returned (.float .f64 a) ∧ Below w.heap.size w w')
    (c2 : ∀ w, Calls Tryz.prog 127 #[.agg #[.float .f64 lo, .float .f64 hi]] w fun e w' => e = .returned (.float .f64 b) ∧ Below w.heap.size w w')
    (c3 : ∀ w, Calls Tryz.prog 122 #[.float .f64 a, .float .f64 a, .int .i64 (-1)] w fun e w' => e = .returned (.float .f64 m1) ∧ Below w.heap.size w w')
    (c4 : ∀ w, Calls Tryz.prog 122 #[.float .f64 b, .float .f64 b, .int .i64 1] w fun e w' => e = .returned (.float .f64 m2) ∧ Below w.heap.size w w') (w : World) :
    Calls Tryz.prog 117 #[.agg #[.float .f64 lo, .float .f64 hi]] w fun e w' => e = .returned (.agg #[.float .f64 m1, .float .f64 m2]) ∧ Below w.heap.size w w' := by
  go_enter Tryz.func117, Tryz.ntmps117
  go_upto_region 3 with
   (go_at_call 102; refine (c0 (w.heap.size + 1 + 1) _ (by go_simp) (by go_simp)).mono ?_; rintro _ w1 ⟨rfl, hb1⟩
    have R : Has2 w1 (w.heap.size + 1) (.float .f64 0) (.float .f64 0) := Has2.keep ⟨by go_simp, by go_simp, by go_simp, by go_simp, by go_size⟩ hb1
    have X : Has2 w1 w.heap.size (.float .f64 lo) (.float .f64 hi) := Has2.keep ⟨by go_simp, by go_simp, by go_simp, by go_simp, by go_size⟩ hb1
    have HB : Below w.heap.size w w1 := later (by go_grown) hb1)
  clear hb1 c0
  have X : Has2 w1.drew w.heap.size (.float .f64 lo) (.float .f64 hi) := X
  have R : Has2 w1.drew (w.heap.size + 1) (.float .f64 0) (.float .f64 0) := R
  have HB : Below w.heap.size w w1.drew := HB.drew
  go_region_held3 (fun w' => w'.cell? ⟨w.heap.size, 0, none⟩ = some (.float .f64 lo) ∧ w'.cell? ⟨w.heap.size, 1, none⟩ = some (.float .f64 hi)) (first | exact ⟨X.1, X.2.1⟩ | go_keep)
    (first
      | (go_at_call 126; refine (c1 _).mono ?_; rintro _ w2 ⟨rfl, hb1⟩; replace X := X.keep hb1; replace R := R.keep hb1; replace HB := later HB hb1; clear hb1)
      | (go_at_call 127; refine (c2 _).mono ?_; rintro _ w3 ⟨rfl, hb1⟩; replace X := X.keep hb1; replace R := R.keep hb1; replace HB := later HB hb1; clear hb1))
  all_goals
    go_wp2_with (first
      | (go_at_call_of 122 (Value.int .i64 1); refine (c4 _).mono ?_; rintro _ w5 ⟨rfl, hb1⟩; replace R := R.keep hb1; replace HB := later HB hb1; clear hb1; obtain ⟨d0, d1, d2, d3, d4⟩ := R)
      | (go_at_call 122; refine (c3 _).mono ?_; rintro _ w4 ⟨rfl, hb1⟩; replace R := R.keep hb1; replace HB := later HB hb1; clear hb1))
    refine bodyPost_ret (v := .agg #[.float .f64 m1, .float .f64 m2]) (by simp [results, Tryz.results117, go_sem, *]) rfl ⟨rfl, ?_⟩
    repeat' (first | (with_reducible exact HB) | (with_reducible refine Below.setCell ?_ ?_ _) | go_size)

set_option maxHeartbeats 1000000 in
theorem sqrt_core_i (lo hi a m1 m2 : Nat) (c0 : ∀ b W, W.cell? ⟨b, 0, none⟩ = some (.float .f64 lo) → W.cell? ⟨b, 1, none⟩ = some (.float .f64 hi) → Calls Tryz.prog 102 #[.slice (some ⟨b, 0, none⟩) 1 1] W fun e w' => e = .returned (.bool false) ∧ Below W.heap.size W w')
    (o : (FloatKind.f64.format.order hi 0 == some .lt) = false)
    (hm : ∀ ts t w, (Builtin.max_ ts t #[.float .f64 lo, .float .f64 0]).run Tryz.prog w = .ok (.float .f64 a) w)
    (c3 : ∀ w, Calls Tryz.prog 129 #[.float .f64 a, .int .i64 (-1)] w fun e w' => e = .returned (.float .f64 m1) ∧ Below w.heap.size w w')
    (c4 : ∀ w, Calls Tryz.prog 129 #[.float .f64 hi, .int .i64 1] w fun e w' => e = .returned (.float .f64 m2) ∧ Below w.heap.size w w') (w : World) :
    Calls Tryz.prog 76 #[.agg #[.float .f64 lo, .float .f64 hi]] w fun e w' => e = .returned (.agg #[.float .f64 m1, .float .f64 m2]) ∧ Below w.heap.size w w' := by
  go_enter Tryz.func76, Tryz.ntmps76
  go_upto_region 3 with
   (go_at_call 102; refine (c0 (w.heap.size + 1 + 1) _ (by go_simp) (by go_simp)).mono ?_; rintro _ w1 ⟨rfl, hb1⟩
    have R : Has2 w1 (w.heap.size + 1) (.float .f64 0) (.float .f64 0) := Has2.keep ⟨by go_simp, by go_simp, by go_simp, by go_simp, by go_size⟩ hb1
    have X : Has2 w1 w.heap.size (.float .f64 lo) (.float .f64 hi) := Has2.keep ⟨by go_simp, by go_simp, by go_simp, by go_simp, by go_size⟩ hb1
    have HB : Below w.heap.size w w1 := later (by go_grown) hb1
    have x0 := X.1; have x1 := X.2.1)
  clear hb1 c0 x0 x1
  have ne1 : w.heap.size + 1 ≠ w.heap.size := by omega
  have ne2 : w.heap.size ≠ w.heap.size + 1 := by omega
  have X : Has2 w1.drew w.heap.size (.float .f64 lo) (.float .f64 hi) := X
  have R : Has2 w1.drew (w.heap.size + 1) (.float .f64 0) (.float .f64 0) := R
  have HB : Below w.heap.size w w1.drew := HB.drew
  go_region_held3 (fun w' => w'.cell? ⟨w.heap.size, 0, none⟩ = some (.float .f64 lo) ∧ w'.cell? ⟨w.heap.size, 1, none⟩ = some (.float .f64 hi)) (first | exact ⟨X.1, X.2.1⟩ | go_keep)
    (first
      | (go_at_call_of 129 (Value.float .f64 a); refine (c3 _).mono ?_; rintro _ w2 ⟨rfl, hb1⟩; replace X := X.keep hb1; replace R := R.keep hb1; replace HB := later HB hb1; clear hb1)
      | (go_at_call 129; refine (c4 _).mono ?_; rintro _ w3 ⟨rfl, hb1⟩; replace X := X.keep hb1; replace R := R.keep hb1; replace HB := later HB hb1; clear hb1; obtain ⟨d0, d1, d2, d3, d4⟩ := R))
  all_goals
    go_wp2_with fail
    refine bodyPost_ret (v := .agg #[.float .f64 m1, .float .f64 m2]) (by simp [results, Tryz.results76, go_sem, *]) rfl ⟨rfl, ?_⟩
    repeat' (first | (with_reducible exact HB) | (with_reducible refine Below.setCell ?_ ?_ _) | go_size)

end Go.Proofs.YtnchhfhoaepjnaaGreat
