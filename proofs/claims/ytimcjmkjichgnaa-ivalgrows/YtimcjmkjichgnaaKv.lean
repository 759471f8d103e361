/- The walks of the program's and of the reference's powers of intervals. -/
import Derived.Test.YtimcjmkjichgnaaKw
namespace Go.Proofs.Ytimcjmkjichgnaa
open Go.ChangeShapes Go.WideShapes Go.ChangeAt Go.RowKit

set_option maxHeartbeats 1000000 in
theorem ppow_none (lo hi : Nat) (n : Int) (c0 : ∀ b' W, W.cell? ⟨b', 0, none⟩ = some (.float .f64 lo) → W.cell? ⟨b', 1, none⟩ = some (.float .f64 hi) → Calls Try.prog 94 #[.slice (some ⟨b', 0, none⟩) 1 1] W fun e w' => e = .returned (.bool true) ∧ Below W.heap.size W w')  (w : World) :
    Calls Try.prog 67 #[.agg #[.float .f64 lo, .float .f64 hi], .int .i64 n] w fun e w' => e = .returned (.agg #[.float .f64 (infI 1), .float .f64 (infI (-1))]) ∧ Below w.heap.size w w' := by
  have ne1 : w.heap.size + 1 ≠ w.heap.size := by omega
  have ne2 : w.heap.size ≠ w.heap.size + 1 := by omega
  go_enter Try.func67, Try.ntmps67
  go_wp2_with (first
    | (go_at_call 94; refine (c0 (w.heap.size + 1 + 1) _ (by go_simp) (by go_simp)).mono ?_; rintro _ V1 ⟨rfl, hb1⟩
       have X : Has2 V1 w.heap.size (.float .f64 lo) (.float .f64 hi) := Has2.keep ⟨by go_simp, by go_simp, by go_simp, by go_simp, by go_size⟩ hb1
       have R : Has2 V1 (w.heap.size + 1) (.float .f64 0) (.float .f64 0) := Has2.keep ⟨by go_simp, by go_simp, by go_simp, by go_simp, by go_size⟩ hb1
       have HB : Below w.heap.size w V1 := later (by go_grown) hb1
       clear hb1)
    | (go_at_call 34; refine (empty_w _).mono ?_; rintro _ w2 ⟨rfl, hb1⟩; replace R := R.keep hb1; replace HB := later HB hb1; clear hb1
       obtain ⟨k0, k1, k2, k3, k4⟩ := id R))
  refine bodyPost_ret (v := .agg #[.float .f64 (infI 1), .float .f64 (infI (-1))]) (by simp [results, Try.results67, go_sem, *]) rfl ⟨rfl, ?_⟩
  repeat' (first | (with_reducible exact HB) | (with_reducible refine Below.setCell ?_ ?_ _) | go_size)

set_option maxHeartbeats 1000000 in
theorem ppow_low (lo hi : Nat) (n : Int) (c0 : ∀ b' W, W.cell? ⟨b', 0, none⟩ = some (.float .f64 lo) → W.cell? ⟨b', 1, none⟩ = some (.float .f64 hi) → Calls Try.prog 94 #[.slice (some ⟨b', 0, none⟩) 1 1] W fun e w' => e = .returned (.bool false) ∧ Below W.heap.size W w') (h1 : n < -64) (w : World) :
    Calls Try.prog 67 #[.agg #[.float .f64 lo, .float .f64 hi], .int .i64 n] w fun e w' => e = .returned (.agg #[.float .f64 (infI (-1)), .float .f64 (infI 1)]) ∧ Below w.heap.size w w' := by
  have ne1 : w.heap.size + 1 ≠ w.heap.size := by omega
  have ne2 : w.heap.size ≠ w.heap.size + 1 := by omega
  go_enter Try.func67, Try.ntmps67
  go_wp2_with (first
    | (go_at_call 94; refine (c0 (w.heap.size + 1 + 1) _ (by go_simp) (by go_simp)).mono ?_; rintro _ V1 ⟨rfl, hb1⟩
       have X : Has2 V1 w.heap.size (.float .f64 lo) (.float .f64 hi) := Has2.keep ⟨by go_simp, by go_simp, by go_simp, by go_simp, by go_size⟩ hb1
       have R : Has2 V1 (w.heap.size + 1) (.float .f64 0) (.float .f64 0) := Has2.keep ⟨by go_simp, by go_simp, by go_simp, by go_simp, by go_size⟩ hb1
       have HB : Below w.heap.size w V1 := later (by go_grown) hb1
       clear hb1)
    | (go_at_call 36; refine (whole_w _).mono ?_; rintro _ w2 ⟨rfl, hb1⟩; replace R := R.keep hb1; replace HB := later HB hb1; clear hb1
       obtain ⟨k0, k1, k2, k3, k4⟩ := id R))
  refine bodyPost_ret (v := .agg #[.float .f64 (infI (-1)), .float .f64 (infI 1)]) (by simp [results, Try.results67, go_sem, *]) rfl ⟨rfl, ?_⟩
  repeat' (first | (with_reducible exact HB) | (with_reducible refine Below.setCell ?_ ?_ _) | go_size)

set_option maxHeartbeats 1000000 in
theorem ppow_high (lo hi : Nat) (n : Int) (c0 : ∀ b' W, W.cell? ⟨b', 0, none⟩ = some (.float .f64 lo) → W.cell? ⟨b', 1, none⟩ = some (.float .f64 hi) → Calls Try.prog 94 #[.slice (some ⟨b', 0, none⟩) 1 1] W fun e w' => e = .returned (.bool false) ∧ Below W.heap.size W w') (h1 : 64 < n) (w : World) :
    Calls Try.prog 67 #[.agg #[.float .f64 lo, .float .f64 hi], .int .i64 n] w fun e w' => e = .returned (.agg #[.float .f64 (infI (-1)), .float .f64 (infI 1)]) ∧ Below w.heap.size w w' := by
  have ne1 : w.heap.size + 1 ≠ w.heap.size := by omega
  have ne2 : w.heap.size ≠ w.heap.size + 1 := by omega
  go_enter Try.func67, Try.ntmps67
  go_wp2_with (first
    | (go_at_call 94; refine (c0 (w.heap.size + 1 + 1) _ (by go_simp) (by go_simp)).mono ?_; rintro _ V1 ⟨rfl, hb1⟩
       have X : Has2 V1 w.heap.size (.float .f64 lo) (.float .f64 hi) := Has2.keep ⟨by go_simp, by go_simp, by go_simp, by go_simp, by go_size⟩ hb1
       have R : Has2 V1 (w.heap.size + 1) (.float .f64 0) (.float .f64 0) := Has2.keep ⟨by go_simp, by go_simp, by go_simp, by go_simp, by go_size⟩ hb1
       have HB : Below w.heap.size w V1 := later (by go_grown) hb1
       clear hb1)
    | (go_at_call 36; refine (whole_w _).mono ?_; rintro _ w2 ⟨rfl, hb1⟩; replace R := R.keep hb1; replace HB := later HB hb1; clear hb1
       obtain ⟨k0, k1, k2, k3, k4⟩ := id R))
  refine bodyPost_ret (v := .agg #[.float .f64 (infI (-1)), .float .f64 (infI 1)]) (by simp [results, Try.results67, go_sem, *]) rfl ⟨rfl, ?_⟩
  repeat' (first | (with_reducible exact HB) | (with_reducible refine Below.setCell ?_ ?_ _) | go_size)

set_option maxHeartbeats 1000000 in
theorem ppow_zero (lo hi : Nat) (n : Int) (c0 : ∀ b' W, W.cell? ⟨b', 0, none⟩ = some (.float .f64 lo) → W.cell? ⟨b', 1, none⟩ = some (.float .f64 hi) → Calls Try.prog 94 #[.slice (some ⟨b', 0, none⟩) 1 1] W fun e w' => e = .returned (.bool false) ∧ Below W.heap.size W w') (h1 : n = 0) (c1 : ∀ w, Calls Try.prog 33 #[.float .f64 4607182418800017408] w fun e w' => e = .returned (.agg #[.float .f64 4607182418800017408, .float .f64 4607182418800017408]) ∧ Below w.heap.size w w') (w : World) :
    Calls Try.prog 67 #[.agg #[.float .f64 lo, .float .f64 hi], .int .i64 n] w fun e w' => e = .returned (.agg #[.float .f64 4607182418800017408, .float .f64 4607182418800017408]) ∧ Below w.heap.size w w' := by
  have ne1 : w.heap.size + 1 ≠ w.heap.size := by omega
  have ne2 : w.heap.size ≠ w.heap.size + 1 := by omega
  go_enter Try.func67, Try.ntmps67
  go_wp2_with (first
    | (go_at_call 94; refine (c0 (w.heap.size + 1 + 1) _ (by go_simp) (by go_simp)).mono ?_; rintro _ V1 ⟨rfl, hb1⟩
       have X : Has2 V1 w.heap.size (.float .f64 lo) (.float .f64 hi) := Has2.keep ⟨by go_simp, by go_simp, by go_simp, by go_simp, by go_size⟩ hb1
       have R : Has2 V1 (w.heap.size + 1) (.float .f64 0) (.float .f64 0) := Has2.keep ⟨by go_simp, by go_simp, by go_simp, by go_simp, by go_size⟩ hb1
       have HB : Below w.heap.size w V1 := later (by go_grown) hb1
       clear hb1)
    | (go_at_call 33; refine (c1 _).mono ?_; rintro _ w2 ⟨rfl, hb1⟩; replace R := R.keep hb1; replace HB := later HB hb1; clear hb1
       obtain ⟨k0, k1, k2, k3, k4⟩ := id R))
  refine bodyPost_ret (v := .agg #[.float .f64 4607182418800017408, .float .f64 4607182418800017408]) (by simp [results, Try.results67, go_sem, *]) rfl ⟨rfl, ?_⟩
  repeat' (first | (with_reducible exact HB) | (with_reducible refine Below.setCell ?_ ?_ _) | go_size)

set_option maxHeartbeats 1000000 in
theorem ppow_neg (lo hi p q r1 r2 : Nat) (n : Int) (c0 : ∀ b' W, W.cell? ⟨b', 0, none⟩ = some (.float .f64 lo) → W.cell? ⟨b', 1, none⟩ = some (.float .f64 hi) → Calls Try.prog 94 #[.slice (some ⟨b', 0, none⟩) 1 1] W fun e w' => e = .returned (.bool false) ∧ Below W.heap.size W w') (h1 : -64 ≤ n) (h2 : n < 0) (c1 : ∀ w, Calls Try.prog 33 #[.float .f64 4607182418800017408] w fun e w' => e = .returned (.agg #[.float .f64 4607182418800017408, .float .f64 4607182418800017408]) ∧ Below w.heap.size w w') (c2 : ∀ w, Calls Try.prog 67 #[.agg #[.float .f64 lo, .float .f64 hi], .int .i64 (-n)] w fun e w' => e = .returned (.agg #[.float .f64 p, .float .f64 q]) ∧ Below w.heap.size w w') (c3 : ∀ w, Calls Try.prog 52 #[.agg #[.float .f64 4607182418800017408, .float .f64 4607182418800017408], .agg #[.float .f64 p, .float .f64 q]] w fun e w' => e = .returned (.agg #[.float .f64 r1, .float .f64 r2]) ∧ Below w.heap.size w w') (w : World) :
    Calls Try.prog 67 #[.agg #[.float .f64 lo, .float .f64 hi], .int .i64 n] w fun e w' => e = .returned (.agg #[.float .f64 r1, .float .f64 r2]) ∧ Below w.heap.size w w' := by
  have ne1 : w.heap.size + 1 ≠ w.heap.size := by omega
  have ne2 : w.heap.size ≠ w.heap.size + 1 := by omega
  go_enter Try.func67, Try.ntmps67
  go_upto_region 8 with (first
    | (go_at_call 94; refine (c0 (w.heap.size + 1 + 1) _ (by go_simp) (by go_simp)).mono ?_; rintro _ V1 ⟨rfl, hb1⟩
       have X : Has2 V1 w.heap.size (.float .f64 lo) (.float .f64 hi) := Has2.keep ⟨by go_simp, by go_simp, by go_simp, by go_simp, by go_size⟩ hb1
       have R : Has2 V1 (w.heap.size + 1) (.float .f64 0) (.float .f64 0) := Has2.keep ⟨by go_simp, by go_simp, by go_simp, by go_simp, by go_size⟩ hb1
       have HB : Below w.heap.size w V1 := later (by go_grown) hb1
       clear hb1))
  have kx0 := fun n : Behind V1 => n.cell X.1 X.2.2.2.2
  have kx1 := fun n : Behind V1 => n.cell X.2.1 X.2.2.2.2
  refine tail_behind 6 (by kernel_rfl) (by kernel_rfl) ?_
  simp only [List.take_succ_cons, List.take_zero, List.drop_succ_cons, List.drop_zero]
  repeat (go_big_quiet_step (first
    | (go_at_call 33; with_reducible refine Behind.call (c1 _))
    | (go_at_call 67; with_reducible refine Behind.call (c2 _))
    | (go_at_call 52; with_reducible refine Behind.call (c3 _))))
  refine wpQuiet_nil ?_
  rintro _ ⟨m, rfl⟩
  obtain ⟨W, hb1⟩ := m
  dsimp only
  clear kx0 kx1
  replace R := R.keep hb1; replace HB := later HB hb1; clear hb1
  obtain ⟨k0, k1, k2, k3, k4⟩ := id R
  go_wp2_with fail
  refine bodyPost_ret (v := .agg #[.float .f64 r1, .float .f64 r2]) (by simp [results, Try.results67, go_sem, *]) rfl ⟨rfl, ?_⟩
  repeat' (first | (with_reducible exact HB) | (with_reducible refine Below.setCell ?_ ?_ _) | go_size)

set_option maxHeartbeats 1000000 in
theorem ppow_even (lo hi a b p q : Nat) (n : Int) (c0 : ∀ b' W, W.cell? ⟨b', 0, none⟩ = some (.float .f64 lo) → W.cell? ⟨b', 1, none⟩ = some (.float .f64 hi) → Calls Try.prog 94 #[.slice (some ⟨b', 0, none⟩) 1 1] W fun e w' => e = .returned (.bool false) ∧ Below W.heap.size W w') (h1 : 0 < n) (h2 : n ≤ 64) (h3 : n.tmod 2 = 0) (c1 : ∀ w, Calls Try.prog 60 #[.agg #[.float .f64 lo, .float .f64 hi]] w fun e w' => e = .returned (.float .f64 a) ∧ Below w.heap.size w w') (c2 : ∀ w, Calls Try.prog 58 #[.agg #[.float .f64 lo, .float .f64 hi]] w fun e w' => e = .returned (.float .f64 b) ∧ Below w.heap.size w w') (c3 : ∀ w, Calls Try.prog 106 #[.float .f64 a, .int .i64 n, .int .i64 (-1)] w fun e w' => e = .returned (.float .f64 p) ∧ Below w.heap.size w w') (c4 : ∀ w, Calls Try.prog 106 #[.float .f64 b, .int .i64 n, .int .i64 1] w fun e w' => e = .returned (.float .f64 q) ∧ Below w.heap.size w w') (w : World) :
    Calls Try.prog 67 #[.agg #[.float .f64 lo, .float .f64 hi], .int .i64 n] w fun e w' => e = .returned (.agg #[.float .f64 p, .float .f64 q]) ∧ Below w.heap.size w w' := by
  have ne1 : w.heap.size + 1 ≠ w.heap.size := by omega
  have ne2 : w.heap.size ≠ w.heap.size + 1 := by omega
  go_enter Try.func67, Try.ntmps67
  go_upto_region 10 with (first
    | (go_at_call 94; refine (c0 (w.heap.size + 1 + 1) _ (by go_simp) (by go_simp)).mono ?_; rintro _ V1 ⟨rfl, hb1⟩
       have X : Has2 V1 w.heap.size (.float .f64 lo) (.float .f64 hi) := Has2.keep ⟨by go_simp, by go_simp, by go_simp, by go_simp, by go_size⟩ hb1
       have R : Has2 V1 (w.heap.size + 1) (.float .f64 0) (.float .f64 0) := Has2.keep ⟨by go_simp, by go_simp, by go_simp, by go_simp, by go_size⟩ hb1
       have HB : Below w.heap.size w V1 := later (by go_grown) hb1
       clear hb1))
  have kx0 := fun n : Behind V1 => n.cell X.1 X.2.2.2.2
  have kx1 := fun n : Behind V1 => n.cell X.2.1 X.2.2.2.2
  refine tail_behind 9 (by kernel_rfl) (by kernel_rfl) ?_
  simp only [List.take_succ_cons, List.take_zero, List.drop_succ_cons, List.drop_zero]
  repeat (go_big_quiet_step (first
    | (go_at_call 60; with_reducible refine Behind.call (c1 _))
    | (go_at_call 58; with_reducible refine Behind.call (c2 _))
    | (go_at_call 106; with_reducible refine Behind.call (c3 _))
    | (go_at_call 106; with_reducible refine Behind.call (c4 _))))
  refine wpQuiet_nil ?_
  rintro _ ⟨m, rfl⟩
  obtain ⟨W, hb1⟩ := m
  dsimp only
  clear kx0 kx1
  replace R := R.keep hb1; replace HB := later HB hb1; clear hb1
  obtain ⟨k0, k1, k2, k3, k4⟩ := id R
  go_wp2_with fail
  refine bodyPost_ret (v := .agg #[.float .f64 p, .float .f64 q]) (by simp [results, Try.results67, go_sem, *]) rfl ⟨rfl, ?_⟩
  repeat' (first | (with_reducible exact HB) | (with_reducible refine Below.setCell ?_ ?_ _) | go_size)

set_option maxHeartbeats 1000000 in
theorem ppow_odd (lo hi p q r1 r2 : Nat) (n : Int) (c0 : ∀ b' W, W.cell? ⟨b', 0, none⟩ = some (.float .f64 lo) → W.cell? ⟨b', 1, none⟩ = some (.float .f64 hi) → Calls Try.prog 94 #[.slice (some ⟨b', 0, none⟩) 1 1] W fun e w' => e = .returned (.bool false) ∧ Below W.heap.size W w') (h1 : 0 < n) (h2 : n ≤ 64) (h3 : n.tmod 2 = 1) (c3 : ∀ w, Calls Try.prog 107 #[.float .f64 lo, .int .i64 n, .int .i64 (-1)] w fun e w' => e = .returned (.float .f64 p) ∧ Below w.heap.size w w') (c4 : ∀ w, Calls Try.prog 107 #[.float .f64 hi, .int .i64 n, .int .i64 1] w fun e w' => e = .returned (.float .f64 q) ∧ Below w.heap.size w w') (c5 : ∀ w, Calls Try.prog 31 #[.float .f64 p, .float .f64 q] w fun e w' => e = .returned (.agg #[.float .f64 r1, .float .f64 r2]) ∧ Below w.heap.size w w') (w : World) :
    Calls Try.prog 67 #[.agg #[.float .f64 lo, .float .f64 hi], .int .i64 n] w fun e w' => e = .returned (.agg #[.float .f64 r1, .float .f64 r2]) ∧ Below w.heap.size w w' := by
  have ne1 : w.heap.size + 1 ≠ w.heap.size := by omega
  have ne2 : w.heap.size ≠ w.heap.size + 1 := by omega
  go_enter Try.func67, Try.ntmps67
  go_upto_region 11 with (first
    | (go_at_call 94; refine (c0 (w.heap.size + 1 + 1) _ (by go_simp) (by go_simp)).mono ?_; rintro _ V1 ⟨rfl, hb1⟩
       have X : Has2 V1 w.heap.size (.float .f64 lo) (.float .f64 hi) := Has2.keep ⟨by go_simp, by go_simp, by go_simp, by go_simp, by go_size⟩ hb1
       have R : Has2 V1 (w.heap.size + 1) (.float .f64 0) (.float .f64 0) := Has2.keep ⟨by go_simp, by go_simp, by go_simp, by go_simp, by go_size⟩ hb1
       have HB : Below w.heap.size w V1 := later (by go_grown) hb1
       clear hb1))
  have kx0 := fun n : Behind V1 => n.cell X.1 X.2.2.2.2
  have kx1 := fun n : Behind V1 => n.cell X.2.1 X.2.2.2.2
  refine tail_behind 9 (by kernel_rfl) (by kernel_rfl) ?_
  simp only [List.take_succ_cons, List.take_zero, List.drop_succ_cons, List.drop_zero]
  repeat (go_big_quiet_step (first
    | (go_at_call 107; with_reducible refine Behind.call (c3 _))
    | (go_at_call 107; with_reducible refine Behind.call (c4 _))
    | (go_at_call 31; with_reducible refine Behind.call (c5 _))))
  refine wpQuiet_nil ?_
  rintro _ ⟨m, rfl⟩
  obtain ⟨W, hb1⟩ := m
  dsimp only
  clear kx0 kx1
  replace R := R.keep hb1; replace HB := later HB hb1; clear hb1
  obtain ⟨k0, k1, k2, k3, k4⟩ := id R
  go_wp2_with fail
  refine bodyPost_ret (v := .agg #[.float .f64 r1, .float .f64 r2]) (by simp [results, Try.results67, go_sem, *]) rfl ⟨rfl, ?_⟩
  repeat' (first | (with_reducible exact HB) | (with_reducible refine Below.setCell ?_ ?_ _) | go_size)

set_option maxHeartbeats 1000000 in
theorem rpow_none (lo hi : Nat) (n : Int) (c0 : ∀ w, Calls Try.prog 66 #[.agg #[.float .f64 lo, .float .f64 hi]] w fun e w' => e = .returned (.bool true) ∧ Below w.heap.size w w')  (w : World) :
    Calls Try.prog 51 #[.agg #[.float .f64 lo, .float .f64 hi], .int .i64 n] w fun e w' => e = .returned (.agg #[.float .f64 (infI 1), .float .f64 (infI (-1))]) ∧ Below w.heap.size w w' := by
  obtain ⟨X, R, HB⟩ := enter1 w (.float .f64 lo) (.float .f64 hi) 31
  have ne1 : w.heap.size + 1 ≠ w.heap.size := by omega
  have ne2 : w.heap.size ≠ w.heap.size + 1 := by omega
  go_enter Try.func51, Try.ntmps51
  go_wp2_with fail
  generalize (w.alloc (.cells #[.float .f64 lo, .float .f64 hi] 31)).alloc (.cells #[.float .f64 0, .float .f64 0] 31) = V0 at *
  obtain ⟨x0, x1, x2, x3, x4⟩ := id X
  go_wp2_with (first
    | (go_at_call 66; refine (c0 _).mono ?_; rintro _ V1 ⟨rfl, hb1⟩; replace X := X.keep hb1; replace R := R.keep hb1; replace HB := later HB hb1; clear hb1; clear x0 x1 x2 x3 x4)
    | (go_at_call 35; refine (rempty_w _).mono ?_; rintro _ w2 ⟨rfl, hb1⟩; replace R := R.keep hb1; replace HB := later HB hb1; clear hb1
       obtain ⟨k0, k1, k2, k3, k4⟩ := id R))
  refine bodyPost_ret (v := .agg #[.float .f64 (infI 1), .float .f64 (infI (-1))]) (by simp [results, Try.results51, go_sem, *]) rfl ⟨rfl, ?_⟩
  repeat' (first | (with_reducible exact HB) | (with_reducible refine Below.setCell ?_ ?_ _) | go_size)

set_option maxHeartbeats 1000000 in
theorem rpow_low (lo hi : Nat) (n : Int) (c0 : ∀ w, Calls Try.prog 66 #[.agg #[.float .f64 lo, .float .f64 hi]] w fun e w' => e = .returned (.bool false) ∧ Below w.heap.size w w') (h1 : n < -64) (w : World) :
    Calls Try.prog 51 #[.agg #[.float .f64 lo, .float .f64 hi], .int .i64 n] w fun e w' => e = .returned (.agg #[.float .f64 (infI (-1)), .float .f64 (infI 1)]) ∧ Below w.heap.size w w' := by
  obtain ⟨X, R, HB⟩ := enter1 w (.float .f64 lo) (.float .f64 hi) 31
  have ne1 : w.heap.size + 1 ≠ w.heap.size := by omega
  have ne2 : w.heap.size ≠ w.heap.size + 1 := by omega
  go_enter Try.func51, Try.ntmps51
  go_wp2_with fail
  generalize (w.alloc (.cells #[.float .f64 lo, .float .f64 hi] 31)).alloc (.cells #[.float .f64 0, .float .f64 0] 31) = V0 at *
  obtain ⟨x0, x1, x2, x3, x4⟩ := id X
  go_wp2_with (first
    | (go_at_call 66; refine (c0 _).mono ?_; rintro _ V1 ⟨rfl, hb1⟩; replace X := X.keep hb1; replace R := R.keep hb1; replace HB := later HB hb1; clear hb1; clear x0 x1 x2 x3 x4)
    | (go_at_call 37; refine (rwhole_w _).mono ?_; rintro _ w2 ⟨rfl, hb1⟩; replace R := R.keep hb1; replace HB := later HB hb1; clear hb1
       obtain ⟨k0, k1, k2, k3, k4⟩ := id R))
  refine bodyPost_ret (v := .agg #[.float .f64 (infI (-1)), .float .f64 (infI 1)]) (by simp [results, Try.results51, go_sem, *]) rfl ⟨rfl, ?_⟩
  repeat' (first | (with_reducible exact HB) | (with_reducible refine Below.setCell ?_ ?_ _) | go_size)

set_option maxHeartbeats 1000000 in
theorem rpow_high (lo hi : Nat) (n : Int) (c0 : ∀ w, Calls Try.prog 66 #[.agg #[.float .f64 lo, .float .f64 hi]] w fun e w' => e = .returned (.bool false) ∧ Below w.heap.size w w') (h1 : 64 < n) (w : World) :
    Calls Try.prog 51 #[.agg #[.float .f64 lo, .float .f64 hi], .int .i64 n] w fun e w' => e = .returned (.agg #[.float .f64 (infI (-1)), .float .f64 (infI 1)]) ∧ Below w.heap.size w w' := by
  obtain ⟨X, R, HB⟩ := enter1 w (.float .f64 lo) (.float .f64 hi) 31
  have ne1 : w.heap.size + 1 ≠ w.heap.size := by omega
  have ne2 : w.heap.size ≠ w.heap.size + 1 := by omega
  go_enter Try.func51, Try.ntmps51
  go_wp2_with fail
  generalize (w.alloc (.cells #[.float .f64 lo, .float .f64 hi] 31)).alloc (.cells #[.float .f64 0, .float .f64 0] 31) = V0 at *
  obtain ⟨x0, x1, x2, x3, x4⟩ := id X
  go_wp2_with (first
    | (go_at_call 66; refine (c0 _).mono ?_; rintro _ V1 ⟨rfl, hb1⟩; replace X := X.keep hb1; replace R := R.keep hb1; replace HB := later HB hb1; clear hb1; clear x0 x1 x2 x3 x4)
    | (go_at_call 37; refine (rwhole_w _).mono ?_; rintro _ w2 ⟨rfl, hb1⟩; replace R := R.keep hb1; replace HB := later HB hb1; clear hb1
       obtain ⟨k0, k1, k2, k3, k4⟩ := id R))
  refine bodyPost_ret (v := .agg #[.float .f64 (infI (-1)), .float .f64 (infI 1)]) (by simp [results, Try.results51, go_sem, *]) rfl ⟨rfl, ?_⟩
  repeat' (first | (with_reducible exact HB) | (with_reducible refine Below.setCell ?_ ?_ _) | go_size)

set_option maxHeartbeats 1000000 in
theorem rpow_zero (lo hi : Nat) (n : Int) (c0 : ∀ w, Calls Try.prog 66 #[.agg #[.float .f64 lo, .float .f64 hi]] w fun e w' => e = .returned (.bool false) ∧ Below w.heap.size w w') (h1 : n = 0) (c1 : ∀ w, Calls Try.prog 32 #[.float .f64 4607182418800017408, .float .f64 4607182418800017408] w fun e w' => e = .returned (.agg #[.float .f64 4607182418800017408, .float .f64 4607182418800017408]) ∧ Below w.heap.size w w') (w : World) :
    Calls Try.prog 51 #[.agg #[.float .f64 lo, .float .f64 hi], .int .i64 n] w fun e w' => e = .returned (.agg #[.float .f64 4607182418800017408, .float .f64 4607182418800017408]) ∧ Below w.heap.size w w' := by
  obtain ⟨X, R, HB⟩ := enter1 w (.float .f64 lo) (.float .f64 hi) 31
  have ne1 : w.heap.size + 1 ≠ w.heap.size := by omega
  have ne2 : w.heap.size ≠ w.heap.size + 1 := by omega
  go_enter Try.func51, Try.ntmps51
  go_wp2_with fail
  generalize (w.alloc (.cells #[.float .f64 lo, .float .f64 hi] 31)).alloc (.cells #[.float .f64 0, .float .f64 0] 31) = V0 at *
  obtain ⟨x0, x1, x2, x3, x4⟩ := id X
  go_wp2_with (first
    | (go_at_call 66; refine (c0 _).mono ?_; rintro _ V1 ⟨rfl, hb1⟩; replace X := X.keep hb1; replace R := R.keep hb1; replace HB := later HB hb1; clear hb1; clear x0 x1 x2 x3 x4)
    | (go_at_call 32; refine (c1 _).mono ?_; rintro _ w2 ⟨rfl, hb1⟩; replace R := R.keep hb1; replace HB := later HB hb1; clear hb1
       obtain ⟨k0, k1, k2, k3, k4⟩ := id R))
  refine bodyPost_ret (v := .agg #[.float .f64 4607182418800017408, .float .f64 4607182418800017408]) (by simp [results, Try.results51, go_sem, *]) rfl ⟨rfl, ?_⟩
  repeat' (first | (with_reducible exact HB) | (with_reducible refine Below.setCell ?_ ?_ _) | go_size)

set_option maxHeartbeats 1000000 in
theorem rpow_neg (lo hi p q r1 r2 : Nat) (n : Int) (c0 : ∀ w, Calls Try.prog 66 #[.agg #[.float .f64 lo, .float .f64 hi]] w fun e w' => e = .returned (.bool false) ∧ Below w.heap.size w w') (h1 : -64 ≤ n) (h2 : n < 0) (c1 : ∀ w, Calls Try.prog 32 #[.float .f64 4607182418800017408, .float .f64 4607182418800017408] w fun e w' => e = .returned (.agg #[.float .f64 4607182418800017408, .float .f64 4607182418800017408]) ∧ Below w.heap.size w w') (c2 : ∀ w, Calls Try.prog 51 #[.agg #[.float .f64 lo, .float .f64 hi], .int .i64 (-n)] w fun e w' => e = .returned (.agg #[.float .f64 p, .float .f64 q]) ∧ Below w.heap.size w w') (c3 : ∀ w, Calls Try.prog 53 #[.agg #[.float .f64 4607182418800017408, .float .f64 4607182418800017408], .agg #[.float .f64 p, .float .f64 q]] w fun e w' => e = .returned (.agg #[.float .f64 r1, .float .f64 r2]) ∧ Below w.heap.size w w') (w : World) :
    Calls Try.prog 51 #[.agg #[.float .f64 lo, .float .f64 hi], .int .i64 n] w fun e w' => e = .returned (.agg #[.float .f64 r1, .float .f64 r2]) ∧ Below w.heap.size w w' := by
  obtain ⟨X, R, HB⟩ := enter1 w (.float .f64 lo) (.float .f64 hi) 31
  have ne1 : w.heap.size + 1 ≠ w.heap.size := by omega
  have ne2 : w.heap.size ≠ w.heap.size + 1 := by omega
  go_enter Try.func51, Try.ntmps51
  go_wp2_with fail
  generalize (w.alloc (.cells #[.float .f64 lo, .float .f64 hi] 31)).alloc (.cells #[.float .f64 0, .float .f64 0] 31) = V0 at *
  obtain ⟨x0, x1, x2, x3, x4⟩ := id X
  go_upto_region 8 with (first
    | (go_at_call 66; refine (c0 _).mono ?_; rintro _ V1 ⟨rfl, hb1⟩; replace X := X.keep hb1; replace R := R.keep hb1; replace HB := later HB hb1; clear hb1; clear x0 x1 x2 x3 x4))
  have kx0 := fun n : Behind V1 => n.cell X.1 X.2.2.2.2
  have kx1 := fun n : Behind V1 => n.cell X.2.1 X.2.2.2.2
  refine tail_behind 6 (by kernel_rfl) (by kernel_rfl) ?_
  simp only [List.take_succ_cons, List.take_zero, List.drop_succ_cons, List.drop_zero]
  repeat (go_big_quiet_step (first
    | (go_at_call 32; with_reducible refine Behind.call (c1 _))
    | (go_at_call 51; with_reducible refine Behind.call (c2 _))
    | (go_at_call 53; with_reducible refine Behind.call (c3 _))))
  refine wpQuiet_nil ?_
  rintro _ ⟨m, rfl⟩
  obtain ⟨W, hb1⟩ := m
  dsimp only
  clear kx0 kx1
  replace R := R.keep hb1; replace HB := later HB hb1; clear hb1
  obtain ⟨k0, k1, k2, k3, k4⟩ := id R
  go_wp2_with fail
  refine bodyPost_ret (v := .agg #[.float .f64 r1, .float .f64 r2]) (by simp [results, Try.results51, go_sem, *]) rfl ⟨rfl, ?_⟩
  repeat' (first | (with_reducible exact HB) | (with_reducible refine Below.setCell ?_ ?_ _) | go_size)

set_option maxHeartbeats 1000000 in
theorem rpow_even (lo hi a b p q r1 r2 : Nat) (n : Int) (c0 : ∀ w, Calls Try.prog 66 #[.agg #[.float .f64 lo, .float .f64 hi]] w fun e w' => e = .returned (.bool false) ∧ Below w.heap.size w w') (h1 : 0 < n) (h2 : n ≤ 64) (h3 : n.tmod 2 = 0) (c1 : ∀ w, Calls Try.prog 61 #[.agg #[.float .f64 lo, .float .f64 hi]] w fun e w' => e = .returned (.float .f64 a) ∧ Below w.heap.size w w') (c2 : ∀ w, Calls Try.prog 59 #[.agg #[.float .f64 lo, .float .f64 hi]] w fun e w' => e = .returned (.float .f64 b) ∧ Below w.heap.size w w') (c3 : ∀ w, Calls Try.prog 99 #[.float .f64 a, .int .i64 n, .int .i64 (-1)] w fun e w' => e = .returned (.float .f64 p) ∧ Below w.heap.size w w') (c4 : ∀ w, Calls Try.prog 99 #[.float .f64 b, .int .i64 n, .int .i64 1] w fun e w' => e = .returned (.float .f64 q) ∧ Below w.heap.size w w') (c5 : ∀ w, Calls Try.prog 96 #[.float .f64 p, .float .f64 q] w fun e w' => e = .returned (.agg #[.float .f64 r1, .float .f64 r2]) ∧ Below w.heap.size w w') (w : World) :
    Calls Try.prog 51 #[.agg #[.float .f64 lo, .float .f64 hi], .int .i64 n] w fun e w' => e = .returned (.agg #[.float .f64 r1, .float .f64 r2]) ∧ Below w.heap.size w w' := by
  obtain ⟨X, R, HB⟩ := enter1 w (.float .f64 lo) (.float .f64 hi) 31
  have ne1 : w.heap.size + 1 ≠ w.heap.size := by omega
  have ne2 : w.heap.size ≠ w.heap.size + 1 := by omega
  go_enter Try.func51, Try.ntmps51
  go_wp2_with fail
  generalize (w.alloc (.cells #[.float .f64 lo, .float .f64 hi] 31)).alloc (.cells #[.float .f64 0, .float .f64 0] 31) = V0 at *
  obtain ⟨x0, x1, x2, x3, x4⟩ := id X
  go_upto_region 10 with (first
    | (go_at_call 66; refine (c0 _).mono ?_; rintro _ V1 ⟨rfl, hb1⟩; replace X := X.keep hb1; replace R := R.keep hb1; replace HB := later HB hb1; clear hb1; clear x0 x1 x2 x3 x4))
  have kx0 := fun n : Behind V1 => n.cell X.1 X.2.2.2.2
  have kx1 := fun n : Behind V1 => n.cell X.2.1 X.2.2.2.2
  refine tail_behind 9 (by kernel_rfl) (by kernel_rfl) ?_
  simp only [List.take_succ_cons, List.take_zero, List.drop_succ_cons, List.drop_zero]
  repeat (go_big_quiet_step (first
    | (go_at_call 61; with_reducible refine Behind.call (c1 _))
    | (go_at_call 59; with_reducible refine Behind.call (c2 _))
    | (go_at_call 99; with_reducible refine Behind.call (c3 _))
    | (go_at_call 99; with_reducible refine Behind.call (c4 _))
    | (go_at_call 96; with_reducible refine Behind.call (c5 _))))
  refine wpQuiet_nil ?_
  rintro _ ⟨m, rfl⟩
  obtain ⟨W, hb1⟩ := m
  dsimp only
  clear kx0 kx1
  replace R := R.keep hb1; replace HB := later HB hb1; clear hb1
  obtain ⟨k0, k1, k2, k3, k4⟩ := id R
  go_wp2_with fail
  refine bodyPost_ret (v := .agg #[.float .f64 r1, .float .f64 r2]) (by simp [results, Try.results51, go_sem, *]) rfl ⟨rfl, ?_⟩
  repeat' (first | (with_reducible exact HB) | (with_reducible refine Below.setCell ?_ ?_ _) | go_size)

set_option maxHeartbeats 1000000 in
theorem rpow_odd (lo hi p q r1 r2 : Nat) (n : Int) (c0 : ∀ w, Calls Try.prog 66 #[.agg #[.float .f64 lo, .float .f64 hi]] w fun e w' => e = .returned (.bool false) ∧ Below w.heap.size w w') (h1 : 0 < n) (h2 : n ≤ 64) (h3 : n.tmod 2 = 1) (c3 : ∀ w, Calls Try.prog 100 #[.float .f64 lo, .int .i64 n, .int .i64 (-1)] w fun e w' => e = .returned (.float .f64 p) ∧ Below w.heap.size w w') (c4 : ∀ w, Calls Try.prog 100 #[.float .f64 hi, .int .i64 n, .int .i64 1] w fun e w' => e = .returned (.float .f64 q) ∧ Below w.heap.size w w') (c5 : ∀ w, Calls Try.prog 96 #[.float .f64 p, .float .f64 q] w fun e w' => e = .returned (.agg #[.float .f64 r1, .float .f64 r2]) ∧ Below w.heap.size w w') (w : World) :
    Calls Try.prog 51 #[.agg #[.float .f64 lo, .float .f64 hi], .int .i64 n] w fun e w' => e = .returned (.agg #[.float .f64 r1, .float .f64 r2]) ∧ Below w.heap.size w w' := by
  obtain ⟨X, R, HB⟩ := enter1 w (.float .f64 lo) (.float .f64 hi) 31
  have ne1 : w.heap.size + 1 ≠ w.heap.size := by omega
  have ne2 : w.heap.size ≠ w.heap.size + 1 := by omega
  go_enter Try.func51, Try.ntmps51
  go_wp2_with fail
  generalize (w.alloc (.cells #[.float .f64 lo, .float .f64 hi] 31)).alloc (.cells #[.float .f64 0, .float .f64 0] 31) = V0 at *
  obtain ⟨x0, x1, x2, x3, x4⟩ := id X
  go_upto_region 11 with (first
    | (go_at_call 66; refine (c0 _).mono ?_; rintro _ V1 ⟨rfl, hb1⟩; replace X := X.keep hb1; replace R := R.keep hb1; replace HB := later HB hb1; clear hb1; clear x0 x1 x2 x3 x4))
  have kx0 := fun n : Behind V1 => n.cell X.1 X.2.2.2.2
  have kx1 := fun n : Behind V1 => n.cell X.2.1 X.2.2.2.2
  refine tail_behind 9 (by kernel_rfl) (by kernel_rfl) ?_
  simp only [List.take_succ_cons, List.take_zero, List.drop_succ_cons, List.drop_zero]
  repeat (go_big_quiet_step (first
    | (go_at_call 100; with_reducible refine Behind.call (c3 _))
    | (go_at_call 100; with_reducible refine Behind.call (c4 _))
    | (go_at_call 96; with_reducible refine Behind.call (c5 _))))
  refine wpQuiet_nil ?_
  rintro _ ⟨m, rfl⟩
  obtain ⟨W, hb1⟩ := m
  dsimp only
  clear kx0 kx1
  replace R := R.keep hb1; replace HB := later HB hb1; clear hb1
  obtain ⟨k0, k1, k2, k3, k4⟩ := id R
  go_wp2_with fail
  refine bodyPost_ret (v := .agg #[.float .f64 r1, .float .f64 r2]) (by simp [results, Try.results51, go_sem, *]) rfl ⟨rfl, ?_⟩
  repeat' (first | (with_reducible exact HB) | (with_reducible refine Below.setCell ?_ ?_ _) | go_size)


end Go.Proofs.Ytimcjmkjichgnaa
