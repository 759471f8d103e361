/- The reference's numbers of stage 11: whole numbers as exact ones, the order, sums and differences. -/
import Derived.Test.YtdnpoacjamkhkaaAe
namespace Go.Proofs.Ytdnpoacjamkhkaa
open Go.ChangeShapes Go.WideShapes Go.ChangeAt Go.RowKit

/-- A number of exponent nought that is the whole number z. -/
structure Whl (a : Nm) (z : Int) : Prop where
  e : a.e = 0
  v : sgnd a.g a.m = z
theorem Whl.m {a : Nm} {z : Int} (h : Whl a z) : a.m = z.natAbs := by
  have := h.v
  unfold sgnd at this
  split at this <;> omega
theorem Whl.g {a : Nm} {z : Int} (h : Whl a z) (hz : z ≠ 0) : a.g = decide (z < 0) := by
  have := h.v
  unfold sgnd at this
  cases hg : a.g
  · rw [hg] at this
    simp only [Bool.false_eq_true, if_false] at this
    rw [decide_eq_false (by omega)]
  · rw [hg] at this
    simp only [if_true] at this
    rw [decide_eq_true (by omega)]
theorem whl_num (n : Int) : Whl (numR n) n := by
  refine ⟨rfl, ?_⟩
  unfold numR sgnd
  by_cases c : n < 0
  · simp only [c, decide_true, if_true]; omega
  · simp only [c, decide_false, Bool.false_eq_true, if_false]; omega
theorem sgnd_both (g h : Bool) (a b : Nat) : sgnd (g != h) (a * b) = sgnd g a * sgnd h b := by
  unfold sgnd
  cases g <;> cases h <;> simp [Int.natCast_mul, Int.neg_mul, Int.mul_neg]
theorem whl_prod {a b : Nm} {x y : Int} (ha : Whl a x) (hb : Whl b y) : Whl (prodX a b) (x * y) := by
  unfold prodX
  by_cases c : a.m * b.m = 0
  · rw [if_pos c]
    refine ⟨rfl, ?_⟩
    rcases Nat.mul_eq_zero.1 c with z | z
    · have : x = 0 := by have := ha.m; omega
      rw [this, Int.zero_mul]; rfl
    · have : y = 0 := by have := hb.m; omega
      rw [this, Int.mul_zero]; rfl
  · rw [if_neg c]
    refine ⟨by show a.e + b.e = 0; rw [ha.e, hb.e]; rfl, ?_⟩
    show sgnd (a.g != b.g) (a.m * b.m) = x * y
    rw [sgnd_both, ha.v, hb.v]
theorem whl_sum {a b : Nm} {x y : Int} (ha : Whl a x) (hb : Whl b y) : Whl (sumX a b) (x + y) := by
  have e1 : (a.e - min a.e b.e).toNat = 0 := by rw [ha.e, hb.e]; rfl
  have e2 : (b.e - min a.e b.e).toNat = 0 := by rw [ha.e, hb.e]; rfl
  have e3 : min a.e b.e = 0 := by rw [ha.e, hb.e]; rfl
  have va := ha.v
  have vb := hb.v
  unfold sumX
  rw [e1, e2, e3, Nat.pow_zero, Nat.mul_one, Nat.mul_one]
  by_cases c1 : a.m = 0
  · rw [if_pos c1]
    have : x = 0 := by have := ha.m; omega
    rw [this, Int.zero_add]; exact hb
  rw [if_neg c1]
  by_cases c2 : b.m = 0
  · rw [if_pos c2]
    have : y = 0 := by have := hb.m; omega
    rw [this, Int.add_zero]; exact ha
  rw [if_neg c2]
  have k : ∀ g m, sgnd g m = if g then -(m : Int) else (m : Int) := fun _ _ => rfl
  rw [k] at va vb
  by_cases c3 : a.g = b.g
  · rw [if_pos c3]
    refine ⟨rfl, ?_⟩
    show sgnd a.g (a.m + b.m) = x + y
    rw [k]
    rw [← c3] at vb
    cases hg : a.g <;> rw [hg] at va vb <;> simp only [Bool.false_eq_true, if_false, if_true] at va vb ⊢ <;> omega
  rw [if_neg c3]
  have c4 : b.g = !a.g := by cases ha : a.g <;> cases hb : b.g <;> simp [ha, hb] at c3 ⊢
  rw [c4] at vb ⊢
  by_cases c5 : a.m = b.m
  · rw [if_pos c5]
    refine ⟨rfl, ?_⟩
    show sgnd false 0 = x + y
    rw [k]
    cases hg : a.g <;> rw [hg] at va vb <;> simp only [Bool.not_false, Bool.not_true, Bool.false_eq_true, if_false, if_true] at va vb ⊢ <;> omega
  rw [if_neg c5]
  by_cases c6 : b.m < a.m
  · rw [if_pos c6]
    refine ⟨rfl, ?_⟩
    show sgnd a.g (a.m - b.m) = x + y
    rw [k]
    cases hg : a.g <;> rw [hg] at va vb <;> simp only [Bool.not_false, Bool.not_true, Bool.false_eq_true, if_false, if_true] at va vb ⊢ <;> omega
  · rw [if_neg c6]
    refine ⟨rfl, ?_⟩
    show sgnd (!a.g) (b.m - a.m) = x + y
    rw [k]
    cases hg : a.g <;> rw [hg] at va vb <;> simp only [Bool.not_false, Bool.not_true, Bool.false_eq_true, if_false, if_true] at va vb ⊢ <;> omega
theorem vz_whl {a b : Nm} {x y : Int} (ha : Whl a x) (hb : Whl b y) : cmpZ (vz a) (vz b) = cmpZ x y := by
  obtain ⟨t, ht⟩ : ∃ t : Nat, t = ((0 : Int) - -5000).toNat := ⟨_, rfl⟩
  have p : (0 : Int) < ((2 ^ t : Nat) : Int) := by have := Nat.two_pow_pos t; omega
  have e : ∀ {c : Nm} {z : Int}, Whl c z → vz c = z * ((2 ^ t : Nat) : Int) := fun {c z} h => by
    unfold vz
    rw [h.e, ← ht, ← h.v]
    unfold sgnd
    split
    · rw [Int.natCast_mul, Int.neg_mul]
    · rw [Int.natCast_mul]
  rw [e ha, e hb]
  generalize ((2 ^ t : Nat) : Int) = T at *
  unfold cmpZ
  have h1 : x * T < y * T ↔ x < y := Int.mul_lt_mul_right p
  have h2 : y * T < x * T ↔ y < x := Int.mul_lt_mul_right p
  simp only [h1, h2]

theorem sm_whl {a : Nm} {z : Int} (h : Whl a z) {t : Nat} (ht : t ≤ 2000) (hz : z.natAbs < 2 ^ t) : Sm a := by
  have q : ∀ K : Nat, t ≤ K → a.m < 2 ^ K := fun K hK => by rw [h.m]; exact Nat.lt_of_lt_of_le hz (Nat.pow_le_pow_right (by omega) hK)
  exact ⟨q 2000 ht, by rw [h.e]; decide, by rw [h.e]; decide⟩
theorem nat64z {a b : Int} (ha : a.natAbs < 2 ^ 64) (hb : b.natAbs < 2 ^ 64) : (a * b).natAbs < 2 ^ 128 := by
  rw [Int.natAbs_mul]
  exact nat64 ha hb
theorem nat129 {x y : Int} (hx : x.natAbs < 2 ^ 128) (hy : y.natAbs < 2 ^ 128) : (x + y).natAbs < 2 ^ 129 := by omega
def cmpV11 (aN aD bN bD : Int) : Int := if rightR aN aD && rightR bN bD then cmpZ (aN * bD) (bN * aD) else 0

set_option maxHeartbeats 8000000 in
theorem cmp11_good (aN aD bN bD : Int) (ha : I64 aN ∧ I64 aD) (hb : I64 bN ∧ I64 bD) (h1 : rightR aN aD = true) (h2 : rightR bN bD = true) (w : World) :
    Calls Try.prog 25 #[.agg #[.int .i64 aN, .int .i64 aD], .agg #[.int .i64 bN, .int .i64 bD]] w fun r w' => r = .returned (.int .i64 (cmpZ (aN * bD) (bN * aD))) ∧ Below w.heap.size w w' := by
  have X : Rt2 ((w.alloc (.cells #[.int .i64 aN, .int .i64 aD] 23)).alloc (.cells #[.int .i64 bN, .int .i64 bD] 23)) w.heap.size (.int .i64 aN) (.int .i64 aD) := ⟨by go_simp, by go_simp, by go_simp, by go_simp, by go_size⟩
  have Y : Rt2 ((w.alloc (.cells #[.int .i64 aN, .int .i64 aD] 23)).alloc (.cells #[.int .i64 bN, .int .i64 bD] 23)) (w.heap.size + 1) (.int .i64 bN) (.int .i64 bD) := ⟨by go_simp, by go_simp, by go_simp, by go_simp, by go_size⟩
  have HB : Below w.heap.size w ((w.alloc (.cells #[.int .i64 aN, .int .i64 aD] 23)).alloc (.cells #[.int .i64 bN, .int .i64 bD] 23)) := by go_grown
  have c1 := fun W => right11_w aN aD ha.1 ha.2 W
  have c2 := fun W => right11_w bN bD hb.1 hb.2 W
  rw [h1] at c1
  rw [h2] at c2
  have s1 := fun W => num11_w aN ha.1 W
  have s2 := fun W => num11_w bN hb.1 W
  have s3 := fun W => num11_w aD ha.2 W
  have s4 := fun W => num11_w bD hb.2 W
  have l1 := ha.1.lt
  have l2 := hb.1.lt
  have l3 := ha.2.lt
  have l4 := hb.2.lt
  have f1 := sm_whl (whl_num aN) (t := 64) (by omega) l1
  have f2 := sm_whl (whl_num bN) (t := 64) (by omega) l2
  have f3 := sm_whl (whl_num aD) (t := 64) (by omega) l3
  have f4 := sm_whl (whl_num bD) (t := 64) (by omega) l4
  have P1 := whl_prod (whl_num aN) (whl_num bD)
  have P2 := whl_prod (whl_num bN) (whl_num aD)
  have g1 := sm_whl P1 (t := 128) (by omega) (nat64z l1 l4)
  have g2 := sm_whl P2 (t := 128) (by omega) (nat64z l2 l3)
  have pr1 := fun W u v (p : NI W u (numR aN)) (q : NI W v (numR bD)) => prod_m p q f1 f4
  have pr2 := fun W u v (p : NI W u (numR bN)) (q : NI W v (numR aD)) => prod_m p q f2 f3
  have od := fun W u v (p : NI W u (prodX (numR aN) (numR bD))) (q : NI W v (prodX (numR bN) (numR aD))) => order_m p q g1 g2
  rw [vz_whl P1 P2] at od
  clear h1 h2 ha hb l1 l2 l3 l4 f1 f2 f3 f4 P1 P2 g1 g2
  generalize cmpZ (aN * bD) (bN * aD) = y at *
  generalize prodX (numR aN) (numR bD) = q1 at *
  generalize prodX (numR bN) (numR aD) = q2 at *
  generalize numR aN = n1 at *
  generalize numR bN = n2 at *
  generalize numR aD = n3 at *
  generalize numR bD = n4 at *
  go_enter Try.func25, Try.ntmps25
  go_upto_region 1 with fail
  generalize ((w.alloc (.cells #[.int .i64 aN, .int .i64 aD] 23)).alloc (.cells #[.int .i64 bN, .int .i64 bD] 23)) = V1 at *
  obtain ⟨x0, x1, x2, x3, x4⟩ := id X
  obtain ⟨y0, y1, y2, y3, y4⟩ := id Y
  go_upto_region 3 with (first
      | (go_at_call_of 13 (Value.agg #[.int .i64 aN, .int .i64 aD]); (with_reducible refine (c1 _).mono ?_); rintro _ W1 ⟨rfl, hb1⟩; replace X := X.keep hb1; replace Y := Y.keep hb1; replace HB := later HB hb1; clear hb1 x0 x1 x2 x3 x4 y0 y1 y2 y3 y4; obtain ⟨y0, y1, y2, y3, y4⟩ := id Y)
      | (go_at_call_of 13 (Value.agg #[.int .i64 bN, .int .i64 bD]); (with_reducible refine (c2 _).mono ?_); rintro _ W2 ⟨rfl, hb1⟩; replace X := X.keep hb1; replace Y := Y.keep hb1; replace HB := later HB hb1; clear hb1 y0 y1 y2 y3 y4; obtain ⟨y0, y1, y2, y3, y4⟩ := id Y))
  clear y0 y1 y2 y3 y4 c1 c2
  have HD : Below W2.heap.size W2 W2.drew := (Below.refl _ _).drew
  replace X := X.keep HD
  replace Y := Y.keep HD
  replace HB := later HB HD
  clear HD
  go_region_held3 (fun w' => w'.cell? ⟨w.heap.size, 0, none⟩ = some (.int .i64 aN) ∧ w'.cell? ⟨w.heap.size, 1, none⟩ = some (.int .i64 aD) ∧ w'.cell? ⟨w.heap.size + 1, 0, none⟩ = some (.int .i64 bN) ∧ w'.cell? ⟨w.heap.size + 1, 1, none⟩ = some (.int .i64 bD)) (first | with_reducible exact ⟨X.c0, X.c1, Y.c0, Y.c1⟩ | go_keep)
    (first
      | (go_at_call_of 47 (Value.int .i64 aN); (with_reducible refine (s1 _).mono ?_); rintro _ W3 ⟨⟨v3, rfl, A1⟩, hb1⟩; obtain ⟨o3, k3, u3, rfl, -, -⟩ := id A1.shape; replace X := X.keep hb1; replace Y := Y.keep hb1; replace HB := later HB hb1; clear hb1)
      | (go_at_call_of 47 (Value.int .i64 bD); (with_reducible refine (s4 _).mono ?_); rintro _ W4 ⟨⟨v4, rfl, A4⟩, hb1⟩; obtain ⟨o4, k4, u4, rfl, -, -⟩ := id A4.shape; replace X := X.keep hb1; replace Y := Y.keep hb1; replace A1 := A1.keep hb1; replace HB := later HB hb1; clear hb1)
      | (go_at_call 46; (with_reducible refine (pr1 _ _ _ A1 A4).mono ?_); rintro _ W5 ⟨⟨v5, rfl, Q1⟩, hb1⟩; obtain ⟨o5, k5, u5, rfl, -, -⟩ := id Q1.shape; replace X := X.keep hb1; replace Y := Y.keep hb1; replace HB := later HB hb1; clear hb1)
      | (go_at_call_of 47 (Value.int .i64 bN); (with_reducible refine (s2 _).mono ?_); rintro _ W6 ⟨⟨v6, rfl, A2⟩, hb1⟩; obtain ⟨o6, k6, u6, rfl, -, -⟩ := id A2.shape; replace X := X.keep hb1; replace Y := Y.keep hb1; replace Q1 := Q1.keep hb1; replace HB := later HB hb1; clear hb1)
      | (go_at_call_of 47 (Value.int .i64 aD); (with_reducible refine (s3 _).mono ?_); rintro _ W7 ⟨⟨v7, rfl, A3⟩, hb1⟩; obtain ⟨o7, k7, u7, rfl, -, -⟩ := id A3.shape; replace X := X.keep hb1; replace Y := Y.keep hb1; replace Q1 := Q1.keep hb1; replace A2 := A2.keep hb1; replace HB := later HB hb1; clear hb1)
      | (go_at_call 46; (with_reducible refine (pr2 _ _ _ A2 A3).mono ?_); rintro _ W8 ⟨⟨v8, rfl, Q2⟩, hb1⟩; obtain ⟨o8, k8, u8, rfl, -, -⟩ := id Q2.shape; replace X := X.keep hb1; replace Y := Y.keep hb1; replace Q1 := Q1.keep hb1; replace HB := later HB hb1; clear hb1)
      | (go_at_call 57; (with_reducible refine (od _ _ _ Q1 Q2).mono ?_); rintro _ W9 ⟨rfl, hb1⟩; replace X := X.keep hb1; replace Y := Y.keep hb1; replace HB := later HB hb1; clear hb1))
  all_goals
    go_wp2_with fail
    go_ret
    exact ⟨rfl, HB⟩

set_option maxHeartbeats 4000000 in
theorem cmp11_bad (aN aD bN bD : Int) (ha : I64 aN ∧ I64 aD) (hb : I64 bN ∧ I64 bD) (h : (rightR aN aD && rightR bN bD) = false) (w : World) :
    Calls Try.prog 25 #[.agg #[.int .i64 aN, .int .i64 aD], .agg #[.int .i64 bN, .int .i64 bD]] w fun r w' => r = .returned (.int .i64 0) ∧ Below w.heap.size w w' := by
  have X : Rt2 ((w.alloc (.cells #[.int .i64 aN, .int .i64 aD] 23)).alloc (.cells #[.int .i64 bN, .int .i64 bD] 23)) w.heap.size (.int .i64 aN) (.int .i64 aD) := ⟨by go_simp, by go_simp, by go_simp, by go_simp, by go_size⟩
  have Y : Rt2 ((w.alloc (.cells #[.int .i64 aN, .int .i64 aD] 23)).alloc (.cells #[.int .i64 bN, .int .i64 bD] 23)) (w.heap.size + 1) (.int .i64 bN) (.int .i64 bD) := ⟨by go_simp, by go_simp, by go_simp, by go_simp, by go_size⟩
  have HB : Below w.heap.size w ((w.alloc (.cells #[.int .i64 aN, .int .i64 aD] 23)).alloc (.cells #[.int .i64 bN, .int .i64 bD] 23)) := by go_grown
  have c1 := fun W => right11_w aN aD ha.1 ha.2 W
  have c2 := fun W => right11_w bN bD hb.1 hb.2 W
  clear ha hb
  generalize rightR aN aD = r1 at *
  generalize rightR bN bD = r2 at *
  cases r1 <;> cases r2
  case true.true => exact absurd h (by decide)
  all_goals
    clear h
    go_enter Try.func25, Try.ntmps25
    go_upto_region 1 with fail
    generalize ((w.alloc (.cells #[.int .i64 aN, .int .i64 aD] 23)).alloc (.cells #[.int .i64 bN, .int .i64 bD] 23)) = V1 at *
    obtain ⟨x0, x1, x2, x3, x4⟩ := id X
    obtain ⟨y0, y1, y2, y3, y4⟩ := id Y
    go_wp2_with (first
      | (go_at_call_of 13 (Value.agg #[.int .i64 aN, .int .i64 aD]); (with_reducible refine (c1 _).mono ?_); rintro _ W1 ⟨rfl, hb1⟩; replace X := X.keep hb1; replace Y := Y.keep hb1; replace HB := later HB hb1; clear hb1 x0 x1 x2 x3 x4 y0 y1 y2 y3 y4; obtain ⟨y0, y1, y2, y3, y4⟩ := id Y)
      | (go_at_call_of 13 (Value.agg #[.int .i64 bN, .int .i64 bD]); (with_reducible refine (c2 _).mono ?_); rintro _ W2 ⟨rfl, hb1⟩; replace X := X.keep hb1; replace Y := Y.keep hb1; replace HB := later HB hb1; clear hb1 y0 y1 y2 y3 y4; obtain ⟨y0, y1, y2, y3, y4⟩ := id Y))
    go_ret
    exact ⟨rfl, HB⟩
theorem cmp11_w (aN aD bN bD : Int) (ha : I64 aN ∧ I64 aD) (hb : I64 bN ∧ I64 bD) (w : World) :
    Calls Try.prog 25 #[.agg #[.int .i64 aN, .int .i64 aD], .agg #[.int .i64 bN, .int .i64 bD]] w fun r w' => r = .returned (.int .i64 (cmpV11 aN aD bN bD)) ∧ Below w.heap.size w w' := by
  cases h : (rightR aN aD && rightR bN bD)
  · have e : cmpV11 aN aD bN bD = 0 := by unfold cmpV11; rw [h]; rfl
    rw [e]
    exact cmp11_bad aN aD bN bD ha hb h w
  · have e : cmpV11 aN aD bN bD = cmpZ (aN * bD) (bN * aD) := by unfold cmpV11; rw [h]; rfl
    rw [e]
    obtain ⟨h1, h2⟩ := Bool.and_eq_true_iff.1 h
    exact cmp11_good aN aD bN bD ha hb h1 h2 w

end Go.Proofs.Ytdnpoacjamkhkaa
