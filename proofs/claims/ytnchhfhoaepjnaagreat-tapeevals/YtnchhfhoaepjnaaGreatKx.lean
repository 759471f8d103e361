/- Roots of intervals: the program's and the reference's answer the same; IvalPowers' walk. -/
import Derived.Test.YtnchhfhoaepjnaaGreatKu
import Derived.Test.YtnchhfhoaepjnaaGreatBw
namespace Go.Proofs.YtnchhfhoaepjnaaGreat
open Go.ChangeShapes Go.WideShapes Go.ChangeAt Go.RowKit

def sqrtP (lo hi : Nat) : Nat × Nat := if hsB lo hi && !ltB hi 0 then (sqrtV (maxW lo 0) (-1), sqrtV hi 1) else (infI 1, infI (-1))

theorem sqrtF_nneg {a : Nat} (d : Int) : 0 ≤ key (sqrtF a d) := by
  have hm := rootM_lt (m := splitM a) (e := splitE a) (by have := splitM_lt a; omega)
  unfold sqrtF
  generalize rootM (splitM a) (splitE a) = m at *
  generalize rootE (splitM a) (splitE a) = e at *
  unfold roundN
  split
  · decide
  · rename_i h0
    have l := rungN_lt (e := clampN e - shiftN m) (s := sideN d false) (topN_bounds h0 hm).2
    unfold signN
    simp only [Bool.false_eq_true, if_false]
    unfold key
    rw [if_pos l]
    omega

theorem sqrtV_nneg {a : Nat} (d : Int) (na : nanB a = false) (ka : 0 ≤ key a) (ha : a < 18446744073709551616) : 0 ≤ key (sqrtV a d) ∧ nanB (sqrtV a d) = false ∧ sqrtV a d < 18446744073709551616 ∧ sqrtV a d ≠ 9223372036854775808 := by
  have ga := nneg_G ha ka
  cases fa : finB a
  · have e : sqrtV a d = a := by
      have h := sqrtV_is d na ga
      rw [sqrtR_infinite d na fa ga] at h
      injection h with h
      exact h.symm
    rw [e]
    refine ⟨ka, na, ha, fun c => ?_⟩
    rw [c] at fa
    revert fa
    decide
  · rw [sqrtV_fin d fa ga]
    have f := sqrtF_facts (a := a) d
    exact ⟨sqrtF_nneg d, f.1, f.2.2, f.2.1⟩

theorem sqrt_some {p hi : Nat} (hp : p < 18446744073709551616) (hh : hi < 18446744073709551616) (np : nanB p = false) (nh : nanB hi = false) (k0 : 0 ≤ key p) (k1 : key p ≤ key hi) (k2 : key p < 9218868437227405312) : Some2 (sqrtV p (-1)) (sqrtV hi 1) := by
  have a := sqrtV_nneg (-1) np k0 hp
  have b := sqrtV_nneg 1 nh (by omega) hh
  have gp := nneg_G hp k0
  have gh := nneg_G hh (show 0 ≤ key hi by omega)
  have fp : finB p = true := by
    cases h : finB p
    · rcases (key_inf hp np).1 h with d | d <;> omega
    · rfl
  obtain ⟨u, hu⟩ : ∃ u : Nat, u = 1076 := ⟨_, rfl⟩
  have t := (sqrtF_down hu fp).top
  rw [← sqrtV_fin (-1) fp gp] at t
  refine ⟨a.2.1, b.2.1, ?_, by omega, by omega, a.2.2.2, b.2.2.2⟩
  cases fh : finB hi
  · have e : sqrtV hi 1 = hi := by
      have h := sqrtV_is 1 nh gh
      rw [sqrtR_infinite 1 nh fh gh] at h
      injection h with h
      exact h.symm
    rw [e]
    rcases (key_inf hh nh).1 fh with d | d <;> omega
  · have m := sqrt_mono_down hp hh fp fh k0 k1
    have s := sqrtR_sides hh
    rw [sqrtR_fin (-1) fh gh, sqrtR_fin 0 fh gh, sqrtR_fin 1 fh gh] at s
    rw [sqrtV_fin (-1) fp gp, sqrtV_fin 1 fh gh]
    rcases s with ⟨c, -, -⟩ | ⟨d, n, v, e1, e2, e3, ok⟩
    · cases c
    · replace e1 := Option.some.inj e1
      replace e2 := Option.some.inj e2
      replace e3 := Option.some.inj e3
      obtain ⟨-, -, -, q1, q2, -⟩ := ok
      rw [← e1, ← e2] at q1
      rw [← e2, ← e3] at q2
      exact Int.le_trans m (Int.le_trans q1 q2)

theorem root_ends {lo hi : Nat} (hl : lo < 18446744073709551616) (S : Some2 lo hi) (k : 0 ≤ key hi) : maxW lo 0 < 18446744073709551616 ∧ nanB (maxW lo 0) = false ∧ 0 ≤ key (maxW lo 0) ∧ key (maxW lo 0) ≤ key hi ∧ key (maxW lo 0) < 9218868437227405312 ∧ maxW lo 0 ≠ 9223372036854775808 := by
  have k0 : key 0 = 0 := by decide
  have s1 := S.le
  have s2 := S.lt
  rw [maxW_is S.zl (by omega), k0]
  by_cases c : key lo < 0
  · rw [if_pos c, k0]; exact ⟨by omega, by decide, by omega, k, by omega, by omega⟩
  · rw [if_neg c]; exact ⟨hl, S.nl, by omega, s1, s2, S.zl⟩

set_option maxHeartbeats 1000000 in
theorem sqrt_none (lo hi : Nat) (hl : lo < 18446744073709551616) (hh : hi < 18446744073709551616) (b : Bool) (o : (FloatKind.f64.format.order hi 0 == some .lt) = b) (hs : (hsB lo hi && !b) = false) (w : World) :
    Calls Tryz.prog 76 #[.agg #[.float .f64 lo, .float .f64 hi]] w fun e w' => e = .returned (.agg #[.float .f64 (infI 1), .float .f64 (infI (-1))]) ∧ Below w.heap.size w w' := by
  have c0 := fun b W c0 c1 => someEmpty1_w b lo hi hl hh W c0 c1
  generalize hsB lo hi = t at *
  cases t
  case' true => cases b
  case true.false => cases hs
  all_goals
    simp only [Bool.not_true, Bool.not_false] at c0
    go_enter Tryz.func76, Tryz.ntmps76
    go_wp2_with (first
      | (go_at_call 102; refine (c0 (w.heap.size + 1 + 1) _ (by go_simp) (by go_simp)).mono ?_; rintro _ w1 ⟨rfl, hb1⟩
         have R : Has2 w1 (w.heap.size + 1) (.float .f64 0) (.float .f64 0) := Has2.keep ⟨by go_simp, by go_simp, by go_simp, by go_simp, by go_size⟩ hb1
         have X : Has2 w1 w.heap.size (.float .f64 lo) (.float .f64 hi) := Has2.keep ⟨by go_simp, by go_simp, by go_simp, by go_simp, by go_size⟩ hb1
         have HB : Below w.heap.size w w1 := later (by go_grown) hb1
         obtain ⟨x0, x1, x2, x3, x4⟩ := id X)
      | (go_at_call 68; refine (empty_w _).mono ?_; rintro _ w2 ⟨rfl, hb1⟩; replace R := R.keep hb1; replace HB := later HB hb1; clear hb1
         obtain ⟨k0, k1, k2, k3, k4⟩ := id R))
    refine bodyPost_ret (v := .agg #[.float .f64 (infI 1), .float .f64 (infI (-1))]) (by simp [results, Tryz.results76, go_sem, *]) rfl ⟨rfl, ?_⟩
    repeat' (first | (with_reducible exact HB) | (with_reducible refine Below.setCell ?_ ?_ _) | go_size)

theorem Sqrt_w (lo hi : Nat) (hl : lo < 18446744073709551616) (hh : hi < 18446744073709551616) (w : World) : Calls Tryz.prog 76 #[.agg #[.float .f64 lo, .float .f64 hi]] w fun e w' => e = .returned (.agg #[.float .f64 (sqrtP lo hi).1, .float .f64 (sqrtP lo hi).2]) ∧ Below w.heap.size w w' := by
  have o := o_lt hh (show (0 : Nat) < 18446744073709551616 by omega)
  unfold sqrtP
  cases hs : hsB lo hi && !ltB hi 0
  · rw [if_neg (by simp)]
    exact sqrt_none lo hi hl hh _ o hs w
  · rw [if_pos rfl]
    obtain ⟨h1, h2⟩ := Bool.and_eq_true_iff.1 hs
    have S := hs_iff.1 h1
    rw [lt0 S.nh] at h2
    have k : 0 ≤ key hi := by simpa using h2
    obtain ⟨p1, p2, p3, p4, p5, p6⟩ := root_ends hl S k
    have c0 := fun b W c0 c1 => someEmpty1_w b lo hi hl hh W c0 c1
    rw [h1] at c0
    rw [lt0 S.nh, decide_eq_false (by omega)] at o
    exact sqrt_core_i lo hi _ _ _ c0 o (fun ts t w => max_f hl (by omega) S.nl (by decide) _ ts t w) (fun w => sqrtV_w _ _ p1 p2 (nneg_G p1 p3) w) (fun w => sqrtV_w _ _ hh S.nh (nneg_G hh k) w) w

set_option maxHeartbeats 1000000 in
theorem rsqrt_core_i (lo hi p q m1 m2 : Nat) (b : Bool)
    (c1 : ∀ w, Calls Tryz.prog 148 #[.agg #[.float .f64 lo, .float .f64 hi], .agg #[.float .f64 0, .float .f64 (infI 1)]] w fun e w' => e = .returned (.agg #[.float .f64 p, .float .f64 q]) ∧ Below w.heap.size w w')
    (c2 : ∀ w, Calls Tryz.prog 39 #[.agg #[.float .f64 p, .float .f64 q]] w fun e w' => e = .returned (.bool (!b)) ∧ Below w.heap.size w w')
    (c3 : b = true → ∀ w, Calls Tryz.prog 149 #[.float .f64 p, .int .i64 (-1)] w fun e w' => e = .returned (.float .f64 m1) ∧ Below w.heap.size w w')
    (c4 : b = true → ∀ w, Calls Tryz.prog 149 #[.float .f64 q, .int .i64 1] w fun e w' => e = .returned (.float .f64 m2) ∧ Below w.heap.size w w')
    (c5 : b = true → ∀ w, Calls Tryz.prog 90 #[.float .f64 m1, .float .f64 m2] w fun e w' => e = .returned (.agg #[.float .f64 m1, .float .f64 m2]) ∧ Below w.heap.size w w') (w : World) :
    Calls Tryz.prog 87 #[.agg #[.float .f64 lo, .float .f64 hi]] w fun e w' => e = .returned (.agg #[.float .f64 (if b then m1 else infI 1), .float .f64 (if b then m2 else infI (-1))]) ∧ Below w.heap.size w w' := by
  obtain ⟨X, R, HB⟩ := enter1 w (.float .f64 lo) (.float .f64 hi) 46
  have ne1 : w.heap.size + 1 ≠ w.heap.size := by omega
  have ne2 : w.heap.size ≠ w.heap.size + 1 := by omega
  go_enter Tryz.func87, Tryz.ntmps87
  go_upto_region 1 with fail
  generalize (w.alloc (.cells #[.float .f64 lo, .float .f64 hi] 46)).alloc (.cells #[.float .f64 0, .float .f64 0] 46) = V0 at *
  have kx0 := fun n : Behind V0 => n.cell X.1 X.2.2.2.2
  have kx1 := fun n : Behind V0 => n.cell X.2.1 X.2.2.2.2
  refine tail_behind 4 (by kernel_rfl) (by kernel_rfl) ?_
  simp only [List.take_succ_cons, List.take_zero, List.drop_succ_cons, List.drop_zero]
  repeat (go_big_quiet_step (first
    | (go_at_call 46; with_reducible refine Behind.same (rinf_w _ _))
    | (go_at_call 148; with_reducible refine Behind.call (c1 _))))
  refine wpQuiet_nil ?_
  rintro _ ⟨n, rfl⟩
  obtain ⟨W, hb1⟩ := n
  dsimp only
  clear kx0 kx1
  replace X := X.keep hb1; replace R := R.keep hb1; replace HB := later HB hb1; clear hb1
  obtain ⟨x0, x1, x2, x3, x4⟩ := id X
  go_upto_region 2 with fail
  replace X := X.put (.float .f64 p) (.float .f64 q)
  replace R := R.far ne2 (.float .f64 p) (.float .f64 q)
  replace HB : Below w.heap.size w ((W.setCell ⟨w.heap.size, 0, none⟩ (.float .f64 p)).setCell ⟨w.heap.size, 1, none⟩ (.float .f64 q)) := by
    repeat' (first | (with_reducible exact HB) | (with_reducible refine Below.setCell ?_ ?_ _) | go_size | omega)
  clear x0 x1 x2 x3 x4
  generalize (W.setCell ⟨w.heap.size, 0, none⟩ (.float .f64 p)).setCell ⟨w.heap.size, 1, none⟩ (.float .f64 q) = V2 at *
  clear W
  obtain ⟨x0, x1, x2, x3, x4⟩ := id X
  cases b
  · clear c3 c4 c5
    simp only [Bool.not_false] at c2
    go_wp2_with (first
      | (go_at_call 39; refine (c2 _).mono ?_; rintro _ w1 ⟨rfl, hb1⟩; replace X := X.keep hb1; replace R := R.keep hb1; replace HB := later HB hb1; clear hb1)
      | (go_at_call 89; refine (rempty_w _).mono ?_; rintro _ w1 ⟨rfl, hb1⟩; replace X := X.keep hb1; replace R := R.keep hb1; replace HB := later HB hb1; clear hb1
         obtain ⟨k0, k1, k2, k3, k4⟩ := id R))
    refine bodyPost_ret (v := .agg #[.float .f64 (infI 1), .float .f64 (infI (-1))]) (by simp [results, Tryz.results87, go_sem, *]) rfl ⟨rfl, ?_⟩
    repeat' (first | (with_reducible exact HB) | (with_reducible refine Below.setCell ?_ ?_ _) | go_size)
  · replace c3 := c3 rfl
    replace c4 := c4 rfl
    replace c5 := c5 rfl
    simp only [Bool.not_true] at c2
    go_upto_region 4 with (first
      | (go_at_call 39; refine (c2 _).mono ?_; rintro _ V1 ⟨rfl, hb1⟩; replace X := X.keep hb1; replace R := R.keep hb1; replace HB := later HB hb1; clear hb1; clear x0 x1 x2 x3 x4))
    have kx0 := fun n : Behind V1 => n.cell X.1 X.2.2.2.2
    have kx1 := fun n : Behind V1 => n.cell X.2.1 X.2.2.2.2
    refine tail_behind 7 (by kernel_rfl) (by kernel_rfl) ?_
    simp only [List.take_succ_cons, List.take_zero, List.drop_succ_cons, List.drop_zero]
    repeat (go_big_quiet_step (first
      | (go_at_call 149; with_reducible refine Behind.call (c3 _))
      | (go_at_call 149; with_reducible refine Behind.call (c4 _))
      | (go_at_call 90; with_reducible refine Behind.call (c5 _))))
    refine wpQuiet_nil ?_
    rintro _ ⟨n, rfl⟩
    obtain ⟨W, hb1⟩ := n
    dsimp only
    clear kx0 kx1
    replace R := R.keep hb1; replace HB := later HB hb1; clear hb1
    obtain ⟨k0, k1, k2, k3, k4⟩ := id R
    go_wp2_with fail
    refine bodyPost_ret (v := .agg #[.float .f64 m1, .float .f64 m2]) (by simp [results, Tryz.results87, go_sem, *]) rfl ⟨rfl, ?_⟩
    repeat' (first | (with_reducible exact HB) | (with_reducible refine Below.setCell ?_ ?_ _) | go_size)

theorem meet_root {lo hi : Nat} (hh : hi < 18446744073709551616) : (hsB lo hi && !ltB hi 0) = hsB (meetP lo hi 0 (infI 1)).1 (meetP lo hi 0 (infI 1)).2 ∧ ((hsB lo hi && !ltB hi 0) = true → meetP lo hi 0 (infI 1) = (maxW lo 0, hi)) := by
  have e0 : hsB (infI 1) (infI (-1)) = false := by decide
  have h0 : hsB 0 (infI 1) = true := by decide
  have k0 : key 0 = 0 := by decide
  unfold meetP
  rw [h0, Bool.and_true]
  cases hs : hsB lo hi
  · simp only [Bool.false_and, Bool.false_eq_true, if_false]
    exact ⟨e0.symm, fun h => by cases h⟩
  · have S := hs_iff.1 hs
    have n := nanB_key hh S.nh
    have em : minW hi (infI 1) = hi := by
      rw [minW_is S.zh up_ne, key_up]
      rw [if_neg (by omega)]
    simp only [Bool.true_and, if_true]
    rw [em, lt0 S.nh]
    by_cases c : key hi < 0
    · have no : hsB (pz (maxW lo 0)) (pz hi) = false := by
        cases h : hsB (pz (maxW lo 0)) (pz hi)
        · rfl
        · have T := (hs_iff.1 h).le
          have m := (maxW_key lo 0).1
          rw [key_pz, key_pz, m] at T
          omega
      rw [decide_eq_true c]
      unfold makeP
      rw [no]
      simp only [Bool.false_eq_true, if_false]
      exact ⟨e0.symm, fun h => by cases h⟩
    · have s1 := S.le
      have s2 := S.lt
      have T : Some2 (maxW lo 0) hi := by
        rw [maxW_is S.zl (by omega), k0]
        by_cases d : key lo < 0
        · rw [if_pos d]; exact ⟨by decide, S.nh, by rw [k0]; omega, by decide, by omega, by omega, S.zh⟩
        · rw [if_neg d]; exact S
      rw [make_is T, decide_eq_false c, hs_iff.2 T]
      exact ⟨rfl, fun _ => rfl⟩

theorem rSqrt_w (lo hi : Nat) (hl : lo < 18446744073709551616) (hh : hi < 18446744073709551616) (w : World) : Calls Tryz.prog 87 #[.agg #[.float .f64 lo, .float .f64 hi]] w fun e w' => e = .returned (.agg #[.float .f64 (sqrtP lo hi).1, .float .f64 (sqrtP lo hi).2]) ∧ Below w.heap.size w w' := by
  obtain ⟨m1, m2⟩ := meet_root (lo := lo) hh
  have i1 := infI_lt 1
  have c1 := fun w => rMeet_w lo hi 0 (infI 1) hl hh (by omega) i1 w
  unfold sqrtP
  cases hs : hsB lo hi && !ltB hi 0
  · rw [hs] at m1
    have ml := meetP_lt (xl := lo) (xh := hi) (yl := 0) (yh := infI 1) hl hh (by omega) i1
    have c2 := fun w => none_w (meetP lo hi 0 (infI 1)).1 (meetP lo hi 0 (infI 1)).2 ml.1 ml.2 w
    rw [← m1] at c2
    have q := rsqrt_core_i lo hi _ _ 0 0 false c1 c2 (fun h => by cases h) (fun h => by cases h) (fun h => by cases h) w
    rw [if_neg (by simp), if_neg (by simp)] at q
    rw [if_neg (by simp)]
    exact q
  · rw [m2 hs] at c1
    rw [hs, m2 hs] at m1
    obtain ⟨h1, h2⟩ := Bool.and_eq_true_iff.1 hs
    have S := hs_iff.1 h1
    rw [lt0 S.nh] at h2
    have k : 0 ≤ key hi := by simpa using h2
    obtain ⟨p1, p2, p3, p4, p5, p6⟩ := root_ends hl S k
    have c2 := fun w => none_w (maxW lo 0) hi p1 hh w
    rw [← m1] at c2
    have T := sqrt_some p1 hh p2 S.nh p3 p4 p5
    have q := rsqrt_core_i lo hi _ _ _ _ true c1 c2 (fun _ => told_calls (sqrtV_is (-1) p2 (nneg_G p1 p3)) (fun w => rsqrt_w _ (-1) p1 w)) (fun _ => told_calls (sqrtV_is 1 S.nh (nneg_G hh k)) (fun w => rsqrt_w _ 1 hh w))
      (fun _ w => rends_w _ _ (sqrtV_nneg (-1) p2 p3 p1).2.2.1 (sqrtV_nneg 1 S.nh k hh).2.2.1 T w) w
    rw [if_pos rfl, if_pos rfl] at q
    rw [if_pos rfl]
    exact q

theorem sqrtP_lt {lo hi : Nat} (hl : lo < 18446744073709551616) (hh : hi < 18446744073709551616) : (sqrtP lo hi).1 < 18446744073709551616 ∧ (sqrtP lo hi).2 < 18446744073709551616 := by
  unfold sqrtP
  cases hs : hsB lo hi && !ltB hi 0
  · rw [if_neg (by simp)]; exact ⟨infI_lt 1, infI_lt (-1)⟩
  · rw [if_pos rfl]
    obtain ⟨h1, h2⟩ := Bool.and_eq_true_iff.1 hs
    have S := hs_iff.1 h1
    rw [lt0 S.nh] at h2
    have k : 0 ≤ key hi := by simpa using h2
    obtain ⟨p1, p2, p3, p4, p5, p6⟩ := root_ends hl S k
    exact ⟨(sqrtV_nneg (-1) p2 p3 p1).2.2.1, (sqrtV_nneg 1 S.nh k hh).2.2.1⟩

end Go.Proofs.YtnchhfhoaepjnaaGreat
