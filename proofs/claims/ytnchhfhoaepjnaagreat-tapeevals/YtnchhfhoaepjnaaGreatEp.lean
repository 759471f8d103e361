/- Log as a function of words. -/
import Derived.Test.YtnchhfhoaepjnaaGreatEq
namespace Go.Proofs.YtnchhfhoaepjnaaGreat
open Go.ChangeShapes Go.WideShapes Go.ChangeAt Go.RowKit

set_option maxHeartbeats 1000000 in
theorem logn_core (x o a b q p u z d s : Nat × Nat) (c1 : ∀ w, Calls Tryz.prog 114 #[.float .f64 4607182418800017408] w fun e w' => e = .returned (.agg #[.float .f64 o.1, .float .f64 o.2]) ∧ Below w.heap.size w w') (c2 : ∀ w, Calls Tryz.prog 71 #[.agg #[.float .f64 x.1, .float .f64 x.2], .agg #[.float .f64 o.1, .float .f64 o.2]] w fun e w' => e = .returned (.agg #[.float .f64 a.1, .float .f64 a.2]) ∧ Below w.heap.size w w') (c3 : ∀ w, Calls Tryz.prog 70 #[.agg #[.float .f64 x.1, .float .f64 x.2], .agg #[.float .f64 o.1, .float .f64 o.2]] w fun e w' => e = .returned (.agg #[.float .f64 b.1, .float .f64 b.2]) ∧ Below w.heap.size w w') (c4 : ∀ w, Calls Tryz.prog 73 #[.agg #[.float .f64 a.1, .float .f64 a.2], .agg #[.float .f64 b.1, .float .f64 b.2]] w fun e w' => e = .returned (.agg #[.float .f64 q.1, .float .f64 q.2]) ∧ Below w.heap.size w w') (c5 : ∀ w, Calls Tryz.prog 114 #[.float .f64 4611686018427387904] w fun e w' => e = .returned (.agg #[.float .f64 p.1, .float .f64 p.2]) ∧ Below w.heap.size w w') (c6 : ∀ w, Calls Tryz.prog 72 #[.agg #[.float .f64 p.1, .float .f64 p.2], .agg #[.float .f64 q.1, .float .f64 q.2]] w fun e w' => e = .returned (.agg #[.float .f64 u.1, .float .f64 u.2]) ∧ Below w.heap.size w w') (c7 : ∀ w, Calls Tryz.prog 117 #[.agg #[.float .f64 q.1, .float .f64 q.2]] w fun e w' => e = .returned (.agg #[.float .f64 z.1, .float .f64 z.2]) ∧ Below w.heap.size w w') (c8 : ∀ w, Calls Tryz.prog 179 #[.agg #[.float .f64 z.1, .float .f64 z.2]] w fun e w' => e = .returned (.agg #[.float .f64 d.1, .float .f64 d.2]) ∧ Below w.heap.size w w') (c9 : ∀ w, Calls Tryz.prog 72 #[.agg #[.float .f64 u.1, .float .f64 u.2], .agg #[.float .f64 d.1, .float .f64 d.2]] w fun e w' => e = .returned (.agg #[.float .f64 s.1, .float .f64 s.2]) ∧ Below w.heap.size w w') (w : World) : Calls Tryz.prog 142 #[.agg #[.float .f64 x.1, .float .f64 x.2]] w fun e w' => e = .returned (.agg #[.float .f64 s.1, .float .f64 s.2]) ∧ Below w.heap.size w w' := by
  obtain ⟨X, R, HB⟩ := enter1 w (.float .f64 x.1) (.float .f64 x.2) 46
  go_enter Tryz.func142, Tryz.ntmps142
  go_upto_region 2 with (go_at_call 114; with_reducible refine (c1 _).mono ?_; rintro _ VV ⟨rfl, hb1⟩; replace X := X.keep hb1; replace R := R.keep hb1; replace HB := later HB hb1; clear hb1)
  have D : Has2 (VV.alloc (.cells #[.float .f64 o.1, .float .f64 o.2] 46)) VV.heap.size (.float .f64 o.1) (.float .f64 o.2) := has2_new _ _ _ _
  have hb1 : Below VV.heap.size VV (VV.alloc (.cells #[.float .f64 o.1, .float .f64 o.2] 46)) := by go_grown
  replace X := X.keep hb1; replace R := R.keep hb1; replace HB := later HB hb1; clear hb1
  clear c1
  generalize VV.alloc (.cells #[.float .f64 o.1, .float .f64 o.2] 46) = V2 at *
  generalize VV.heap.size = e at *
  apply tail_alloc1 7 (by kernel_rfl) (by kernel_rfl) rfl
  · intro W1 hW
    replace X := X.keep hW
    replace D := D.keep hW
    have kX0 := fun n : Behind W1 => n.cell X.1 X.2.2.2.2; have kX1 := fun n : Behind W1 => n.cell X.2.1 X.2.2.2.2; have kD0 := fun n : Behind W1 => n.cell D.1 D.2.2.2.2; have kD1 := fun n : Behind W1 => n.cell D.2.1 D.2.2.2.2
    simp only [List.take_succ_cons, List.take_zero]
    repeat (go_big_quiet_step (first | (go_at_call 71; with_reducible refine Behind.call (c2 _)) | (go_at_call 70; with_reducible refine Behind.call (c3 _)) | (go_at_call 73; with_reducible refine Behind.call (c4 _))))
    exact wpQuiet_nil rfl
  intro b W hbb B hb1
  have sR := R.lt
  have sHB := HB.size
  replace R := R.keep hb1; replace HB := later HB hb1; clear hb1
  have E := B.put (.float .f64 q.1) (.float .f64 q.2)
  replace R := R.far2 (c := b) (by omega) (.float .f64 q.1) (.float .f64 q.2)
  replace HB : Below w.heap.size w ((W.setCell ⟨b, 0, none⟩ (.float .f64 q.1)).setCell ⟨b, 1, none⟩ (.float .f64 q.2)) := (HB.setCell (by simp; omega) _).setCell (by simp; omega) _
  obtain ⟨bb0, bb1, bb2, bb3, bb4⟩ := id B
  simp only [List.drop_succ_cons, List.drop_zero, Act.put, List.setIfInBounds_toArray, List.set_cons_succ, List.set_cons_zero]
  go_upto_region 3 with fail
  clear bb0 bb1 bb2 bb3 bb4 B hbb sR sHB
  generalize ((W.setCell ⟨b, 0, none⟩ (.float .f64 q.1)).setCell ⟨b, 1, none⟩ (.float .f64 q.2)) = V3 at *
  generalize b = bE at *
  have kE0 := fun n : Behind V3 => n.cell E.1 E.2.2.2.2; have kE1 := fun n : Behind V3 => n.cell E.2.1 E.2.2.2.2
  refine tail_behind 7 (by kernel_rfl) (by kernel_rfl) ?_
  simp only [List.take_succ_cons, List.take_zero, List.drop_succ_cons, List.drop_zero]
  repeat (go_big_quiet_step (first | (go_at_call 114; with_reducible refine Behind.call (c5 _)) | (go_at_call 72; with_reducible refine Behind.call (c6 _)) | (go_at_call 117; with_reducible refine Behind.call (c7 _)) | (go_at_call 179; with_reducible refine Behind.call (c8 _)) | (go_at_call 72; with_reducible refine Behind.call (c9 _))))
  refine wpQuiet_nil ?_
  rintro _ ⟨m', rfl⟩
  obtain ⟨W, hb1⟩ := m'
  dsimp only
  clear kE0 kE1
  replace R := R.keep hb1; replace HB := later HB hb1; clear hb1
  obtain ⟨k0, k1, k2, k3, k4⟩ := id R
  go_wp2_with fail
  refine bodyPost_ret (v := .agg #[.float .f64 s.1, .float .f64 s.2]) (by simp [results, Tryz.results142, go_sem, *]) rfl ⟨rfl, ?_⟩; repeat' (first | (with_reducible exact HB) | (with_reducible refine Below.setCell ?_ ?_ _) | go_size)

def logSQ (x : Nat × Nat) : Nat × Nat := divQ (subQ x (ptQ 4607182418800017408)) (addQ x (ptQ 4607182418800017408))
def lognQ (x : Nat × Nat) : Nat × Nat := mulQ (mulQ (ptQ 4611686018427387904) (logSQ x)) (oddE (sqrQ (logSQ x)).1 (sqrQ (logSQ x)).2)
theorem logSQ_W2 {x : Nat × Nat} (hx : W2 x) : W2 (logSQ x) := divQ_W2 (subQ_W2 hx (ptQ_W2 (by omega))) (addQ_W2 hx (ptQ_W2 (by omega)))
theorem lognQ_W2 {x : Nat × Nat} (hx : W2 x) : W2 (lognQ x) := mulQ_W2 (mulQ_W2 (ptQ_W2 (by omega)) (logSQ_W2 hx)) (oddE_W2 (sqrQ_W2 (logSQ_W2 hx)))
theorem cLogn {x : Nat × Nat} (hx : W2 x) (w : World) : Calls Tryz.prog 142 #[.agg #[.float .f64 x.1, .float .f64 x.2]] w fun e w' => e = .returned (.agg #[.float .f64 (lognQ x).1, .float .f64 (lognQ x).2]) ∧ Below w.heap.size w w' := by
  have o := ptQ_W2 (a := 4607182418800017408) (by omega)
  have p := ptQ_W2 (a := 4611686018427387904) (by omega)
  have q := logSQ_W2 hx
  exact logn_core x _ _ _ _ _ _ _ _ _ (fun w => cPoint (by omega) w) (fun w => cSub hx o w) (fun w => cAdd hx o w) (fun w => cDiv (subQ_W2 hx o) (addQ_W2 hx o) w) (fun w => cPoint (by omega) w) (fun w => cMul p q w) (fun w => cSqr q w) (fun w => cOdds (sqrQ_W2 q) w) (fun w => cMul (mulQ_W2 p q) (oddE_W2 (sqrQ_W2 q)) w) w

/-- Products of floats that are no infinite ones and no NaN. -/
theorem mul_some (x y : Nat) (hx : x % 9223372036854775808 < 9218868437227405312) (hy : y % 9223372036854775808 < 9218868437227405312) : ∃ r, Ieee.double.mul x y = some r ∧ r < 18446744073709551616 := by
  have hb : Ieee.double.binade = 4503599627370496 := by decide
  have hi : Ieee.double.infRung = 9218868437227405312 := by decide
  have hs : Ieee.double.signWeight = 9223372036854775808 := by decide
  have rd : ∀ z : Nat, z % 9223372036854775808 < 9218868437227405312 → ∃ s m i, Ieee.double.read z = .number s m i := by
    intro z hz
    unfold Ieee.Format.read
    simp only [hs, hb, hi]
    generalize z % 9223372036854775808 = r at *
    by_cases c : r < 4503599627370496
    · rw [if_pos c]
      exact ⟨_, _, _, rfl⟩
    · rw [if_neg c, if_pos (by omega)]
      exact ⟨_, _, _, rfl⟩
  obtain ⟨s, m, i, e1⟩ := rd x hx
  obtain ⟨t, n, j, e2⟩ := rd y hy
  have ex : ∃ r, Ieee.double.mul x y = some r := by
    unfold Ieee.Format.mul
    rw [e1, e2]
    exact ⟨_, rfl⟩
  obtain ⟨r, hr⟩ := ex
  refine ⟨r, hr, ?_⟩
  have e : ∃ d, r = Ieee.double.write d := by
    unfold Ieee.Format.mul at hr
    obtain ⟨d, -, hd⟩ := Option.map_eq_some_iff.1 hr
    exact ⟨d, hd.symm⟩
  obtain ⟨d, rfl⟩ := e
  exact Ieee.double.write_lt d

/-- What is below the least normal number, times 2^52. -/
def nrmW (v : Nat) : Nat := if v < 4503599627370496 then (Ieee.double.mul v 4841369599423283200).getD 0 else v
def nrmE (v : Nat) : Int := if v < 4503599627370496 then -52 else 0
theorem nrmW_lt {v : Nat} (hv : v < 18446744073709551616) : nrmW v < 18446744073709551616 := by
  unfold nrmW
  split
  · rename_i h
    obtain ⟨r, e, l⟩ := mul_some v 4841369599423283200 (by omega) (by omega)
    rw [e]
    exact l
  · exact hv

theorem normz_w (v : Nat) (hv : v < 9218868437227405312) (w : World) : Calls Tryz.prog 207 #[.float .f64 v] w fun e w' => e = .returned (.tuple #[.float .f64 (nrmW v), .int .i64 (nrmE v)]) ∧ w = w' := by
  have ca := fun w => abs_w v (by omega) w
  have em : v % 9223372036854775808 = v := Nat.mod_eq_of_lt (by omega)
  rw [em] at ca
  have o := o_lt (a := v) (b := 4503599627370496) (by omega) (by omega)
  unfold nrmW nrmE
  by_cases h : v < 4503599627370496
  · rw [if_pos h, if_pos h]
    obtain ⟨r, e, l⟩ := mul_some v 4841369599423283200 (by omega) (by omega)
    rw [e]
    have lb : ltB v 4503599627370496 = true := by
      unfold ltB nanB key
      simp only [Bool.and_eq_true, Bool.not_eq_true', decide_eq_false_iff_not, decide_eq_true_eq]
      rw [if_pos (by omega), if_pos (by omega)]
      omega
    rw [lb] at o
    have hm : ∀ w, (binOp .mul 44 (.float .f64 v) (.float .f64 4841369599423283200)).run Tryz.prog w = .ok (.float .f64 r) w := fun w => run_float_arith w .mul 44 .f64 _ _ r e
    clear lb e l
    show Calls _ _ _ _ fun e w' => e = .returned (.tuple #[.float .f64 r, .int .i64 (-52)]) ∧ w = w'
    go_enter Tryz.func207, Tryz.ntmps207
    go_wp2_with (go_at_call 130; refine (ca _).mono ?_; rintro _ w1 ⟨rfl, rfl⟩)
    refine bodyPost_ret (v := .tuple #[.float .f64 r, .int .i64 (-52)]) (by simp [results, Tryz.results207, go_sem]) rfl ⟨rfl, rfl⟩
  · rw [if_neg h, if_neg h]
    have lb : ltB v 4503599627370496 = false := by
      unfold ltB nanB key
      rw [if_pos (by omega), if_pos (by omega), Bool.and_eq_false_iff]
      exact Or.inr (decide_eq_false (by omega))
    rw [lb] at o
    clear lb
    go_enter Tryz.func207, Tryz.ntmps207
    go_wp2_with (go_at_call 130; refine (ca _).mono ?_; rintro _ w1 ⟨rfl, rfl⟩)
    refine bodyPost_ret (v := .tuple #[.float .f64 v, .int .i64 0]) (by simp [results, Tryz.results207, go_sem]) rfl ⟨rfl, rfl⟩

/-- The fraction's word: the exponent of a half. -/
def frW (r : Nat) : Nat := (r &&& 9227875636482146303) ||| 4602678819172646912
def frE (v : Nat) : Int := nrmE v + (((nrmW v / 4503599627370496 % 2048 : Nat) : Int) - 1023 + 1)

theorem frW_facts (r : Nat) : frW r < 18446744073709551616 ∧ frW r % 9223372036854775808 < 9218868437227405312 := by
  have l : frW r < 2 ^ 64 := by
    unfold frW
    refine Nat.or_lt_two_pow ?_ (by decide)
    exact Nat.lt_of_le_of_lt Nat.and_le_right (by decide)
  have b : (frW r).testBit 52 = false := by
    unfold frW
    rw [Nat.testBit_or, Nat.testBit_and, show Nat.testBit 9227875636482146303 52 = false by decide, show Nat.testBit 4602678819172646912 52 = false by decide]
    simp
  rw [Nat.testBit_eq_decide_div_mod_eq] at b
  have e : (2 : Nat) ^ 52 = 4503599627370496 := by decide
  rw [e] at b
  have b2 : ¬ frW r / 4503599627370496 % 2 = 1 := by simpa using b
  have l2 : frW r < 18446744073709551616 := l
  clear b l
  generalize frW r = f at *
  exact ⟨l2, by omega⟩

set_option maxHeartbeats 1000000 in
theorem frexp_core (v r : Nat) (n e1 e2 : Int) (y z : Nat) (o1 : (FloatKind.f64.format.order v 0 == some .eq) = false) (c1 : ∀ w, Calls Tryz.prog 77 #[.float .f64 v, .int .i64 0] w fun e w' => e = .returned (.bool false) ∧ w = w') (c2 : ∀ w, Calls Tryz.prog 166 #[.float .f64 v] w fun e w' => e = .returned (.bool false) ∧ w = w')
    (c3 : ∀ w, Calls Tryz.prog 207 #[.float .f64 v] w fun e w' => e = .returned (.tuple #[.float .f64 r, .int .i64 n]) ∧ w = w') (_ : r < 18446744073709551616) (hn : -100 ≤ n ∧ n ≤ 100) (h1 : bits .and .u64 ((r : Int) / 4503599627370496) 2047 = e1) (he : 0 ≤ e1 ∧ e1 ≤ 2047)
    (h2 : bits .andNot .u64 (r : Int) 9218868437227405312 = (y : Int)) (h3 : bits .or .u64 (y : Int) 4602678819172646912 = (z : Int)) (h4 : n + (e1 - 1023 + 1) = e2) (w : World) :
    Calls Tryz.prog 178 #[.float .f64 v] w fun e w' => e = .returned (.tuple #[.float .f64 z, .int .i64 e2]) ∧ w = w' := by
  go_enter Tryz.func178, Tryz.ntmps178
  go_wp2_with (first
    | (go_at_call 77; refine (c1 _).mono ?_; rintro _ w1 ⟨rfl, rfl⟩)
    | (go_at_call 166; refine (c2 _).mono ?_; rintro _ w1 ⟨rfl, rfl⟩)
    | (go_at_call 207; refine (c3 _).mono ?_; rintro _ w1 ⟨rfl, rfl⟩))
  refine bodyPost_ret (v := .tuple #[.float .f64 z, .int .i64 e2]) (by simp [results, Tryz.results178, go_sem]) rfl ⟨rfl, rfl⟩

theorem cFrexp0 {v : Nat} (h0 : 0 < v) (hv : v < 9218868437227405312) (w : World) : Calls Tryz.prog 178 #[.float .f64 v] w fun e w' => e = .returned (.tuple #[.float .f64 (frW (nrmW v)), .int .i64 (frE v)]) ∧ w = w' := by
  have hv' : v < 18446744073709551616 := by omega
  have hr := nrmW_lt hv'
  have o1 := o_eq hv' (show 0 < 18446744073709551616 by omega)
  have e0 : eqB v 0 = false := by
    unfold eqB key
    rw [if_pos (by omega), if_pos (by omega), Bool.and_eq_false_iff]
    exact Or.inr (decide_eq_false (by omega))
  rw [e0] at o1
  have c1 := fun w => isInf0_w v hv' w
  have ei : infB v = false := by unfold infB; exact decide_eq_false (by omega)
  rw [ei] at c1
  have c2 := fun w => isNaN_w v hv' w
  have en : nanB v = false := by unfold nanB; exact decide_eq_false (by omega)
  rw [en] at c2
  have g3 : bits .and .u64 ((nrmW v : Int) / 4503599627370496) 2047 = ((nrmW v / 4503599627370496 % 2048 : Nat) : Int) := by
    generalize nrmW v = x at *
    rw [show (x : Int) / 4503599627370496 = ((x / 4503599627370496 : Nat) : Int) by omega, show (2047 : Int) = ((2047 : Nat) : Int) from rfl, u64_and_nat _ _ (by omega) (by decide), nat_mask11]
  have g4 : bits .andNot .u64 (nrmW v : Int) 9218868437227405312 = ((nrmW v &&& 9227875636482146303 : Nat) : Int) := by
    generalize nrmW v = x at *
    rw [show (9218868437227405312 : Int) = ((9218868437227405312 : Nat) : Int) from rfl, u64_andNot_nat x _ hr (by decide)]
  have hand : (nrmW v &&& 9227875636482146303) < 18446744073709551616 := Nat.lt_of_le_of_lt Nat.and_le_right (by decide)
  have g5 : bits .or .u64 ((nrmW v &&& 9227875636482146303 : Nat) : Int) 4602678819172646912 = ((frW (nrmW v) : Nat) : Int) := by
    unfold frW
    generalize nrmW v &&& 9227875636482146303 = y at *
    rw [show (4602678819172646912 : Int) = ((4602678819172646912 : Nat) : Int) from rfl, u64_or_nat y _ hand (by decide)]
  have hn : -100 ≤ nrmE v ∧ nrmE v ≤ 100 := by unfold nrmE; split <;> omega
  exact frexp_core v (nrmW v) (nrmE v) _ _ _ _ o1 c1 c2 (fun w => normz_w v hv w) hr hn g3 (by omega) g4 g5 rfl w

set_option maxHeartbeats 1000000 in
theorem Frexp_core (v z : Nat) (k : Int) (c1 : ∀ w, Calls Tryz.prog 178 #[.float .f64 v] w fun e w' => e = .returned (.tuple #[.float .f64 z, .int .i64 k]) ∧ w = w') (w : World) : Calls Tryz.prog 140 #[.float .f64 v] w fun e w' => e = .returned (.tuple #[.float .f64 z, .int .i64 k]) ∧ w = w' := by
  go_enter Tryz.func140, Tryz.ntmps140
  go_wp2_with (go_at_call 178; refine (c1 _).mono ?_; rintro _ w1 ⟨rfl, rfl⟩)
  refine bodyPost_ret (v := .tuple #[.float .f64 z, .int .i64 k]) (by simp [results, Tryz.results140, go_sem]) rfl ⟨rfl, rfl⟩

set_option maxHeartbeats 1000000 in
theorem logAt_all (v : Nat) (b : Bool) (o1 : (FloatKind.f64.format.order v 0 == some .eq) = b) (c1 : b = false → ∀ w, Calls Tryz.prog 77 #[.float .f64 v, .int .i64 1] w fun e w' => e = .returned (.bool true) ∧ w = w') (w : World) : Calls Tryz.prog 84 #[.float .f64 v] w fun e w' => e = .returned (.agg #[.float .f64 allQ.1, .float .f64 allQ.2]) ∧ Below w.heap.size w w' := by
  have R : Has2 (w.alloc (.cells #[.float .f64 0, .float .f64 0] 46)) w.heap.size (.float .f64 0) (.float .f64 0) := has2_new _ _ _ _
  have HB : Below w.heap.size w (w.alloc (.cells #[.float .f64 0, .float .f64 0] 46)) := by go_grown
  cases b
  · replace c1 := c1 rfl
    go_enter Tryz.func84, Tryz.ntmps84
    go_wp2_with (first
      | (go_at_call 77; refine (c1 _).mono ?_; rintro _ w1 ⟨rfl, rfl⟩)
      | (go_at_call 124; refine (whole_w _).mono ?_; rintro _ V1 ⟨rfl, hb1⟩; replace R := R.keep hb1; replace HB := later HB hb1; clear hb1; obtain ⟨k0, k1, k2, k3, k4⟩ := id R))
    refine bodyPost_ret (v := .agg #[.float .f64 (infI (-1)), .float .f64 (infI 1)]) (by simp [results, Tryz.results84, go_sem, *]) rfl ⟨rfl, ?_⟩
    repeat' (first | (with_reducible exact HB) | (with_reducible refine Below.setCell ?_ ?_ _) | go_size)
  · clear c1
    go_enter Tryz.func84, Tryz.ntmps84
    go_wp2_with (go_at_call 124; refine (whole_w _).mono ?_; rintro _ V1 ⟨rfl, hb1⟩; replace R := R.keep hb1; replace HB := later HB hb1; clear hb1; obtain ⟨k0, k1, k2, k3, k4⟩ := id R)
    refine bodyPost_ret (v := .agg #[.float .f64 (infI (-1)), .float .f64 (infI 1)]) (by simp [results, Tryz.results84, go_sem, *]) rfl ⟨rfl, ?_⟩
    repeat' (first | (with_reducible exact HB) | (with_reducible refine Below.setCell ?_ ?_ _) | go_size)

set_option maxHeartbeats 1000000 in
theorem logAt_mid (v z y f : Nat) (k l : Int) (b : Bool) (m p n s : Nat × Nat) (hk : -10000 ≤ k ∧ k ≤ 10000) (o1 : (FloatKind.f64.format.order v 0 == some .eq) = false) (c1 : ∀ w, Calls Tryz.prog 77 #[.float .f64 v, .int .i64 1] w fun e w' => e = .returned (.bool false) ∧ w = w')
    (c2 : ∀ w, Calls Tryz.prog 140 #[.float .f64 v] w fun e w' => e = .returned (.tuple #[.float .f64 z, .int .i64 k]) ∧ w = w') (o2 : (FloatKind.f64.format.order z 4604544271217802189 == some .lt) = b) (hy : b = false → y = z) (hl : b = false → l = k)
    (hm : b = true → ∀ w, (binOp .mul 44 (.float .f64 4611686018427387904) (.float .f64 z)).run Tryz.prog w = .ok (.float .f64 y) w) (hl2 : b = true → l = k - 1)
    (c5 : ∀ w, Calls Tryz.prog 137 #[] w fun e w' => e = .returned (.agg #[.float .f64 f, .float .f64 m.1, .float .f64 m.2]) ∧ Below w.heap.size w w') (c6 : ∀ w, Calls Tryz.prog 114 #[.float .f64 y] w fun e w' => e = .returned (.agg #[.float .f64 p.1, .float .f64 p.2]) ∧ Below w.heap.size w w') (c7 : ∀ w, Calls Tryz.prog 142 #[.agg #[.float .f64 p.1, .float .f64 p.2]] w fun e w' => e = .returned (.agg #[.float .f64 n.1, .float .f64 n.2]) ∧ Below w.heap.size w w') (c8 : ∀ w, Calls Tryz.prog 141 #[.agg #[.float .f64 f, .float .f64 m.1, .float .f64 m.2], .agg #[.float .f64 n.1, .float .f64 n.2], .int .i64 l] w fun e w' => e = .returned (.agg #[.float .f64 s.1, .float .f64 s.2]) ∧ Below w.heap.size w w') (w : World) : Calls Tryz.prog 84 #[.float .f64 v] w fun e w' => e = .returned (.agg #[.float .f64 s.1, .float .f64 s.2]) ∧ Below w.heap.size w w' := by
  have R : Has2 (w.alloc (.cells #[.float .f64 0, .float .f64 0] 46)) w.heap.size (.float .f64 0) (.float .f64 0) := has2_new _ _ _ _
  have HB : Below w.heap.size w (w.alloc (.cells #[.float .f64 0, .float .f64 0] 46)) := by go_grown
  cases b
  · obtain rfl := hy rfl
    obtain rfl := hl rfl
    clear hy hl hl2 hm
    go_enter Tryz.func84, Tryz.ntmps84
    go_wp2_with (first
      | (go_at_call 77; refine (c1 _).mono ?_; rintro _ w1 ⟨rfl, rfl⟩)
      | (go_at_call 140; refine (c2 _).mono ?_; rintro _ w1 ⟨rfl, rfl⟩)
      | (go_at_call 137; with_reducible refine (c5 _).mono ?_; rintro _ VV ⟨rfl, hb1⟩; replace R := R.keep hb1; replace HB := later HB hb1; clear hb1) | (go_at_call 114; with_reducible refine (c6 _).mono ?_; rintro _ VV ⟨rfl, hb1⟩; replace R := R.keep hb1; replace HB := later HB hb1; clear hb1) | (go_at_call 142; with_reducible refine (c7 _).mono ?_; rintro _ VV ⟨rfl, hb1⟩; replace R := R.keep hb1; replace HB := later HB hb1; clear hb1)
      | (go_at_call 141; refine (c8 _).mono ?_; rintro _ V1 ⟨rfl, hb1⟩; replace R := R.keep hb1; replace HB := later HB hb1; clear hb1; obtain ⟨k0, k1, k2, k3, k4⟩ := id R))
    refine bodyPost_ret (v := .agg #[.float .f64 s.1, .float .f64 s.2]) (by simp [results, Tryz.results84, go_sem, *]) rfl ⟨rfl, ?_⟩; repeat' (first | (with_reducible exact HB) | (with_reducible refine Below.setCell ?_ ?_ _) | go_size)
  · obtain rfl := hl2 rfl
    clear hy hl hl2
    replace hm := hm rfl
    go_enter Tryz.func84, Tryz.ntmps84
    go_wp2_with (first
      | (go_at_call 77; refine (c1 _).mono ?_; rintro _ w1 ⟨rfl, rfl⟩)
      | (go_at_call 140; refine (c2 _).mono ?_; rintro _ w1 ⟨rfl, rfl⟩)
      | (go_at_call 137; with_reducible refine (c5 _).mono ?_; rintro _ VV ⟨rfl, hb1⟩; replace R := R.keep hb1; replace HB := later HB hb1; clear hb1) | (go_at_call 114; with_reducible refine (c6 _).mono ?_; rintro _ VV ⟨rfl, hb1⟩; replace R := R.keep hb1; replace HB := later HB hb1; clear hb1) | (go_at_call 142; with_reducible refine (c7 _).mono ?_; rintro _ VV ⟨rfl, hb1⟩; replace R := R.keep hb1; replace HB := later HB hb1; clear hb1)
      | (go_at_call 141; refine (c8 _).mono ?_; rintro _ V1 ⟨rfl, hb1⟩; replace R := R.keep hb1; replace HB := later HB hb1; clear hb1; obtain ⟨k0, k1, k2, k3, k4⟩ := id R))
    refine bodyPost_ret (v := .agg #[.float .f64 s.1, .float .f64 s.2]) (by simp [results, Tryz.results84, go_sem, *]) rfl ⟨rfl, ?_⟩; repeat' (first | (with_reducible exact HB) | (with_reducible refine Below.setCell ?_ ?_ _) | go_size)

def puttoQ (f : Nat) (r x : Nat × Nat) (k : Int) : Nat × Nat := addQ (addQ x (mulQ (wholeQ k) r)) (mulQ (wholeQ k) (ptQ f))
theorem puttoQ_W2 {f : Nat} {r x : Nat × Nat} {k : Int} (hf : f < 18446744073709551616) (hr : W2 r) (hx : W2 x) : W2 (puttoQ f r x k) := addQ_W2 (addQ_W2 hx (mulQ_W2 (wholeQ_W2 k) hr)) (mulQ_W2 (wholeQ_W2 k) (ptQ_W2 hf))
theorem cPutto {f : Nat} {r x : Nat × Nat} (k : Int) (hf : f < 18446744073709551616) (hr : W2 r) (hx : W2 x) (w : World) : Calls Tryz.prog 141 #[.agg #[.float .f64 f, .float .f64 r.1, .float .f64 r.2], .agg #[.float .f64 x.1, .float .f64 x.2], .int .i64 k] w fun e w' => e = .returned (.agg #[.float .f64 (puttoQ f r x k).1, .float .f64 (puttoQ f r x k).2]) ∧ Below w.heap.size w w' :=
  putto_core x f k r _ _ _ _ _ _ (fun w => cWhole k w) (fun w => cMul (wholeQ_W2 k) hr w) (fun w => cAdd hx (mulQ_W2 (wholeQ_W2 k) hr) w) (fun w => cPoint hf w) (fun w => cMul (wholeQ_W2 k) (ptQ_W2 hf) w) (fun w => cAdd (addQ_W2 hx (mulQ_W2 (wholeQ_W2 k) hr)) (mulQ_W2 (wholeQ_W2 k) (ptQ_W2 hf)) w) w

def logF (v : Nat) : Nat := if ltB (frW (nrmW v)) 4604544271217802189 then (Ieee.double.mul 4611686018427387904 (frW (nrmW v))).getD 0 else frW (nrmW v)
def logK (v : Nat) : Int := if ltB (frW (nrmW v)) 4604544271217802189 then frE v - 1 else frE v
def logAtQ (v : Nat) : Nat × Nat := if eqB v 0 || decide (v = 9218868437227405312) then allQ else puttoQ 4604418534313439232 restLnQ (lognQ (ptQ (logF v))) (logK v)

theorem logF_lt (v : Nat) : logF v < 18446744073709551616 := by
  have h := frW_facts (nrmW v)
  unfold logF
  split
  · obtain ⟨r, e, l⟩ := mul_some 4611686018427387904 (frW (nrmW v)) (by omega) h.2
    rw [e]
    exact l
  · exact h.1
theorem logAtQ_W2 (v : Nat) : W2 (logAtQ v) := by
  unfold logAtQ
  split
  · exact allQ_W2
  · exact puttoQ_W2 (by omega) restLnQ_W2 (lognQ_W2 (ptQ_W2 (logF_lt v)))

theorem cLogAt {v : Nat} (hv : v ≤ 9218868437227405312) (w : World) : Calls Tryz.prog 84 #[.float .f64 v] w fun e w' => e = .returned (.agg #[.float .f64 (logAtQ v).1, .float .f64 (logAtQ v).2]) ∧ Below w.heap.size w w' := by
  have hv' : v < 18446744073709551616 := by omega
  have o1 := o_eq hv' (show 0 < 18446744073709551616 by omega)
  have ci := fun w => isInfP_w v hv' w
  unfold logAtQ
  cases he : eqB v 0 with
  | true =>
    rw [if_pos (by simp)]
    rw [he] at o1
    exact logAt_all v true o1 (fun h => by cases h) w
  | false =>
    rw [he] at o1
    by_cases hi : v = 9218868437227405312
    · rw [decide_eq_true hi] at ci
      rw [if_pos (by simp [hi])]
      exact logAt_all v false o1 (fun _ => ci) w
    · rw [decide_eq_false hi] at ci
      rw [if_neg (by simp [hi])]
      have h0 : 0 < v := by
        rcases Nat.eq_zero_or_pos v with c | c
        · subst c
          revert he
          decide
        · exact c
      have hf := frW_facts (nrmW v)
      have o2 := o_lt hf.1 (show 4604544271217802189 < 18446744073709551616 by omega)
      obtain ⟨r, e, l⟩ := mul_some 4611686018427387904 (frW (nrmW v)) (by omega) hf.2
      have hm : ∀ w, (binOp .mul 44 (.float .f64 4611686018427387904) (.float .f64 (frW (nrmW v)))).run Tryz.prog w = .ok (.float .f64 r) w := fun w => run_float_arith w .mul 44 .f64 _ _ r e
      have hk : -10000 ≤ frE v ∧ frE v ≤ 10000 := by
        unfold frE nrmE
        generalize nrmW v = x
        split <;> omega
      have c2 := fun w => Frexp_core v _ _ (fun w => cFrexp0 h0 (by omega) w) w
      have hL := logF_lt v
      unfold logF logK at *
      rw [e] at *
      generalize frW (nrmW v) = z at *
      generalize frE v = k at *
      cases hb : ltB z 4604544271217802189 with
      | true =>
        rw [hb] at o2 hL
        simp only [if_true, Option.getD_some] at *
        exact logAt_mid v z r _ k (k - 1) true _ _ _ _ hk o1 ci c2 o2 (fun h => by cases h) (fun h => by cases h) (fun _ => hm) (fun _ => rfl) (fun w => cFineLn w) (fun w => cPoint hL w) (fun w => cLogn (ptQ_W2 hL) w) (fun w => cPutto _ (by omega) restLnQ_W2 (lognQ_W2 (ptQ_W2 hL)) w) w
      | false =>
        rw [hb] at o2 hL
        simp only [Bool.false_eq_true, if_false] at *
        exact logAt_mid v z z _ k k false _ _ _ _ hk o1 ci c2 o2 (fun _ => rfl) (fun _ => rfl) (fun h => by cases h) (fun h => by cases h) (fun w => cFineLn w) (fun w => cPoint hL w) (fun w => cLogn (ptQ_W2 hL) w) (fun w => cPutto _ (by omega) restLnQ_W2 (lognQ_W2 (ptQ_W2 hL)) w) w

/-- A meet lies above both low ends. -/
theorem meet_lo {x y : Nat × Nat} (S : Some2 (meetQ x y).1 (meetQ x y).2) : key x.1 ≤ key (meetQ x y).1 ∧ key y.1 ≤ key (meetQ x y).1 := by
  have e : meetQ x y = (pz (maxW x.1 y.1), pz (minW x.2 y.2)) := by
    have n := none_not S
    revert n
    unfold meetQ meetP makeP noneQ
    split
    · split
      · intro _; rfl
      · intro n; exact absurd rfl n
    · intro n; exact absurd rfl n
  rw [e]
  show key x.1 ≤ key (pz (maxW x.1 y.1)) ∧ key y.1 ≤ key (pz (maxW x.1 y.1))
  rw [key_pz, (maxW_key x.1 y.1).1]
  generalize key x.1 = a
  generalize key y.1 = b
  omega

theorem nneg_word {x : Nat} (hx : x < 18446744073709551616) (n : nanB x = false) (z : x ≠ 9223372036854775808) (k : 0 ≤ key x) : x ≤ 9218868437227405312 := by
  unfold nanB at n
  unfold key at k
  simp only [decide_eq_false_iff_not] at n
  split at k <;> omega

def posQ : Nat × Nat := mkQ 0 (infI 1)
theorem posQ_W2 : W2 posQ := mkQ_W2 (by omega) (infI_lt 1)
theorem posQ_key : key posQ.1 = 0 := by decide +kernel
def logQ (x : Nat × Nat) : Nat × Nat := if leB (meetQ x posQ).2 0 then noneQ else risQ logAtQ (meetQ x posQ)

theorem cLog {x : Nat × Nat} (hx : W2 x) (w : World) : Calls Tryz.prog 41 #[.agg #[.float .f64 x.1, .float .f64 x.2]] w fun e w' => e = .returned (.agg #[.float .f64 (logQ x).1, .float .f64 (logQ x).2]) ∧ Below w.heap.size w w' := by
  have hc := meetQ_W2 hx posQ_W2
  have c1 := fun w => inf_w 1 w
  have c2 := fun w => cMake (a := 0) (b := infI 1) (by omega) (infI_lt 1) w
  have c3 := fun w => cMeet hx posQ_W2 w
  have ways := meet_ways x posQ
  have lo := meet_lo (x := x) (y := posQ)
  have o := o_le hc.2 (show 0 < 18446744073709551616 by omega)
  unfold logQ
  generalize meetQ x posQ = c at *
  cases h : leB c.2 0 with
  | true =>
    rw [if_pos rfl]
    rw [h] at o
    exact log_none x _ c c1 c2 c3 o w
  | false =>
    rw [if_neg (by simp)]
    rw [h] at o
    rcases ways with rfl | S
    · exfalso
      revert h
      decide
    · have k0 := (lo S).2
      rw [posQ_key] at k0
      refine log_ris x _ c _ c1 c2 c3 o (fun w => ?_) w
      have hc' := cntQ_W2 hc
      have d1 := fun w => cCnt hc w
      have ways' := meet_ways c allQ
      have lo' := meet_lo (x := c) (y := allQ)
      have ec : meetQ c allQ = cntQ c := rfl
      rw [ec] at ways' lo'
      unfold risQ
      generalize cntQ c = d at *
      rcases ways' with rfl | S'
      · rw [if_pos rfl]
        exact ris_logAt_none c noneQ d1 noneQ_eq.1 noneQ_eq.2 w
      · rw [if_neg (none_not S')]
        have k1 := (lo' S').1
        have k2 := S'.le
        exact ris_logAt_some c d _ _ _ d1 (some_ne hc'.1 S') (fun w => cLogAt (nneg_word hc'.1 S'.nl S'.zl (by omega)) w) (fun w => cLogAt (nneg_word hc'.2 S'.nh S'.zh (by omega)) w) (fun w => cMake (logAtQ_W2 _).1 (logAtQ_W2 _).2 w) w

theorem logQ_W2 {x : Nat × Nat} (hx : W2 x) : W2 (logQ x) := by
  unfold logQ
  split
  · exact noneQ_W2
  · exact risQ_W2 (fun v _ => logAtQ_W2 v) (meetQ_W2 hx posQ_W2)

end Go.Proofs.YtnchhfhoaepjnaaGreat
