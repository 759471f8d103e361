/- The reference's numbers of stage 11: powers. -/
import Derived.Test.YtdnpoacjamkhkaaAh
import Derived.Test.YtdnpoacjamkhkaaAf
namespace Go.Proofs.Ytdnpoacjamkhkaa
open Go.ChangeShapes Go.WideShapes Go.ChangeAt Go.RowKit

/-- Whether a power is asked for that may be. -/
def pwB (aN aD n : Int) : Bool := rightR aN aD && (decide (-64 ≤ n) && decide (n ≤ 64))
def pwS (aN n : Int) : Bool := decide (aN < 0) && (Int.tmod n 2 != 0)
def powV11 (aN aD n : Int) : Int × Int × Int := if pwB aN aD n then (if n < 0 then (if aN = 0 then (0, 0, 6) else ofV (pwS aN n) (aD.natAbs ^ n.natAbs) (aN.natAbs ^ n.natAbs)) else ofV (pwS aN n) (aN.natAbs ^ n.natAbs) (aD.natAbs ^ n.natAbs)) else (0, 0, 1)
set_option maxHeartbeats 4000000 in
theorem pow11_bad (aN aD n : Int) (ha : I64 aN ∧ I64 aD) (h : pwB aN aD n = false) (w : World) :
    Calls Try.prog 23 #[.agg #[.int .i64 aN, .int .i64 aD], .int .i64 n] w fun r w' => r = .returned (.tuple #[.agg #[.int .i64 0, .int .i64 0], .int .i64 1]) ∧ Below w.heap.size w w' := by
  have X : Rt2 ((w.alloc (.cells #[.int .i64 aN, .int .i64 aD] 23)).alloc (.cells #[.int .i64 0, .int .i64 0] 23)) w.heap.size (.int .i64 aN) (.int .i64 aD) := ⟨by go_simp, by go_simp, by go_simp, by go_simp, by go_size⟩
  have R : Rt2 ((w.alloc (.cells #[.int .i64 aN, .int .i64 aD] 23)).alloc (.cells #[.int .i64 0, .int .i64 0] 23)) (w.heap.size + 1) (.int .i64 0) (.int .i64 0) := ⟨by go_simp, by go_simp, by go_simp, by go_simp, by go_size⟩
  have HB : Below w.heap.size w ((w.alloc (.cells #[.int .i64 aN, .int .i64 aD] 23)).alloc (.cells #[.int .i64 0, .int .i64 0] 23)) := by go_grown
  have c1 := fun W => right11_w aN aD ha.1 ha.2 W
  have hc : rightR aN aD = false ∨ (rightR aN aD = true ∧ n < -64) ∨ (rightR aN aD = true ∧ ¬ n < -64 ∧ n > 64) := by
    unfold pwB at h
    cases hr : rightR aN aD
    · exact Or.inl rfl
    · rw [hr] at h
      simp only [Bool.true_and, Bool.and_eq_false_iff, decide_eq_false_iff_not] at h
      by_cases c : n < -64
      · exact Or.inr (Or.inl ⟨rfl, c⟩)
      · exact Or.inr (Or.inr ⟨rfl, c, by omega⟩)
  clear h ha
  generalize rightR aN aD = rr at *
  rcases hc with rfl | ⟨rfl, c2⟩ | ⟨rfl, c2, c3⟩
  all_goals
    go_enter Try.func23, Try.ntmps23
    go_upto_region 1 with fail
    generalize ((w.alloc (.cells #[.int .i64 aN, .int .i64 aD] 23)).alloc (.cells #[.int .i64 0, .int .i64 0] 23)) = V1 at *
    obtain ⟨x0, x1, x2, x3, x4⟩ := id X
    go_wp2_with (go_at_call 13; (with_reducible refine (c1 _).mono ?_); rintro _ W1 ⟨rfl, hb1⟩; replace X := X.keep hb1; replace R := R.keep hb1; replace HB := later HB hb1; clear hb1 x0 x1 x2 x3 x4; obtain ⟨x0, x1, x2, x3, x4⟩ := id X; obtain ⟨r0, r1, r2, r3, r4⟩ := id R)
    refine bodyPost_ret (v := .tuple #[.agg #[.int .i64 0, .int .i64 0], .int .i64 1]) (by simp [results, Try.results23, go_sem, *]) rfl ⟨rfl, ?_⟩
    repeat' (first | (with_reducible exact HB) | (with_reducible refine Below.setCell ?_ ?_ _) | go_size)

set_option maxHeartbeats 4000000 in
theorem pow11_zero (aD n : Int) (ha : I64 0 ∧ I64 aD) (h1 : rightR 0 aD = true) (n1 : ¬ n < -64) (n2 : n < 0) (w : World) :
    Calls Try.prog 23 #[.agg #[.int .i64 0, .int .i64 aD], .int .i64 n] w fun r w' => r = .returned (.tuple #[.agg #[.int .i64 0, .int .i64 0], .int .i64 6]) ∧ Below w.heap.size w w' := by
  have X : Rt2 ((w.alloc (.cells #[.int .i64 0, .int .i64 aD] 23)).alloc (.cells #[.int .i64 0, .int .i64 0] 23)) w.heap.size (.int .i64 0) (.int .i64 aD) := ⟨by go_simp, by go_simp, by go_simp, by go_simp, by go_size⟩
  have R : Rt2 ((w.alloc (.cells #[.int .i64 0, .int .i64 aD] 23)).alloc (.cells #[.int .i64 0, .int .i64 0] 23)) (w.heap.size + 1) (.int .i64 0) (.int .i64 0) := ⟨by go_simp, by go_simp, by go_simp, by go_simp, by go_size⟩
  have HB : Below w.heap.size w ((w.alloc (.cells #[.int .i64 0, .int .i64 aD] 23)).alloc (.cells #[.int .i64 0, .int .i64 0] 23)) := by go_grown
  have c1 := fun W => right11_w 0 aD ha.1 ha.2 W
  rw [h1] at c1
  have n3 : ¬ n > 64 := by omega
  clear ha h1
  go_enter Try.func23, Try.ntmps23
  go_upto_region 1 with fail
  generalize ((w.alloc (.cells #[.int .i64 0, .int .i64 aD] 23)).alloc (.cells #[.int .i64 0, .int .i64 0] 23)) = V1 at *
  obtain ⟨x0, x1, x2, x3, x4⟩ := id X
  go_wp2_with (go_at_call 13; (with_reducible refine (c1 _).mono ?_); rintro _ W1 ⟨rfl, hb1⟩; replace X := X.keep hb1; replace R := R.keep hb1; replace HB := later HB hb1; clear hb1 x0 x1 x2 x3 x4; obtain ⟨x0, x1, x2, x3, x4⟩ := id X; obtain ⟨r0, r1, r2, r3, r4⟩ := id R)
  refine bodyPost_ret (v := .tuple #[.agg #[.int .i64 0, .int .i64 0], .int .i64 6]) (by simp [results, Try.results23, go_sem, *]) rfl ⟨rfl, ?_⟩
  repeat' (first | (with_reducible exact HB) | (with_reducible refine Below.setCell ?_ ?_ _) | go_size)

set_option maxRecDepth 4000 in
set_option maxHeartbeats 8000000 in
theorem pow11_pn (aN aD n : Int) (ha : I64 aN ∧ I64 aD) (h1 : rightR aN aD = true) (n1 : ¬ n < -64) (n2 : ¬ n > 64) (n3 : ¬ n < 0) (ca : aN < 0) (w : World) :
    Calls Try.prog 23 #[.agg #[.int .i64 aN, .int .i64 aD], .int .i64 n] w fun r w' => r = .returned (.tuple #[.agg #[.int .i64 (ofV (Int.tmod n 2 != 0) (aN.natAbs ^ n.natAbs) (aD.natAbs ^ n.natAbs)).1, .int .i64 (ofV (Int.tmod n 2 != 0) (aN.natAbs ^ n.natAbs) (aD.natAbs ^ n.natAbs)).2.1], .int .i64 (ofV (Int.tmod n 2 != 0) (aN.natAbs ^ n.natAbs) (aD.natAbs ^ n.natAbs)).2.2]) ∧ Below w.heap.size w w' := by
  have X : Rt2 ((w.alloc (.cells #[.int .i64 aN, .int .i64 aD] 23)).alloc (.cells #[.int .i64 0, .int .i64 0] 23)) w.heap.size (.int .i64 aN) (.int .i64 aD) := ⟨by go_simp, by go_simp, by go_simp, by go_simp, by go_size⟩
  have R : Rt2 ((w.alloc (.cells #[.int .i64 aN, .int .i64 aD] 23)).alloc (.cells #[.int .i64 0, .int .i64 0] 23)) (w.heap.size + 1) (.int .i64 0) (.int .i64 0) := ⟨by go_simp, by go_simp, by go_simp, by go_simp, by go_size⟩
  have HB : Below w.heap.size w ((w.alloc (.cells #[.int .i64 aN, .int .i64 aD] 23)).alloc (.cells #[.int .i64 0, .int .i64 0] 23)) := by go_grown
  have c1 := fun W => right11_w aN aD ha.1 ha.2 W
  rw [h1] at c1
  have p1 := rightR_D h1
  have s1 := fun W => size_w aN ha.1.1 ha.1.2 W
  have s2 := fun W => size_w aD ha.2.1 ha.2.2 W
  have l1 := ha.1.lt
  have l2 := ha.2.lt
  obtain ⟨K, hK⟩ : ∃ K : Nat, K = 64 := ⟨_, rfl⟩
  rw [← hK] at l1 l2
  have hm : n.natAbs ≤ 64 := by omega
  have w1 := fun W o k c (p : BigIs W (.slice o k c) aN.natAbs) => power_w11 aN.natAbs n.natAbs K (by omega) (by omega) l1 W p
  have w2 := fun W o k c (p : BigIs W (.slice o k c) aD.natAbs) => power_w11 aD.natAbs n.natAbs K (by omega) (by omega) l2 W p
  have hL : K * n.natAbs + 1 ≤ 64 * 64 + 1 := Nat.add_le_add_right (Nat.mul_le_mul (by omega) hm) 1
  have q1 := pow_room (i := n.natAbs) l1
  have q2 := pow_room (i := n.natAbs) l2
  have q3 : aD.natAbs ^ n.natAbs ≠ 0 := Nat.ne_of_gt (Nat.pow_pos (by omega))
  have cf := fun W o1 k1 c1 o2 k2 c2 (p : BigIs W (.slice o1 k1 c1) (aN.natAbs ^ n.natAbs)) (q : BigIs W (.slice o2 k2 c2) (aD.natAbs ^ n.natAbs)) => ofr_w (Int.tmod n 2 != 0) (aN.natAbs ^ n.natAbs) (aD.natAbs ^ n.natAbs) (K * n.natAbs + 1) (by omega) (by omega) q1 q2 q3 W p q
  generalize ofV (Int.tmod n 2 != 0) (aN.natAbs ^ n.natAbs) (aD.natAbs ^ n.natAbs) = ov at *
  rw [show ((n.natAbs : Nat) : Int) = n by omega] at w1 w2
  clear q1 q2 q3 hL hK l1 l2 p1 h1 ha hm
  generalize aN.natAbs ^ n.natAbs = e1 at *
  generalize aD.natAbs ^ n.natAbs = e2 at *
  generalize aN.natAbs = an at *
  generalize aD.natAbs = ad at *
  go_enter Try.func23, Try.ntmps23
  go_upto_region 1 with fail
  generalize ((w.alloc (.cells #[.int .i64 aN, .int .i64 aD] 23)).alloc (.cells #[.int .i64 0, .int .i64 0] 23)) = V1 at *
  obtain ⟨x0, x1, x2, x3, x4⟩ := id X
  go_upto_region 7 with (go_at_call 13; (with_reducible refine (c1 _).mono ?_); rintro _ W1 ⟨rfl, hb1⟩; replace X := X.keep hb1; replace R := R.keep hb1; replace HB := later HB hb1; clear hb1 x0 x1 x2 x3 x4; obtain ⟨x0, x1, x2, x3, x4⟩ := id X; obtain ⟨r0, r1, r2, r3, r4⟩ := id R)
  clear x0 x1 x2 x3 x4 r0 r1 r2 r3 r4
  have HD : Below W1.heap.size W1 W1.drew := (Below.refl _ _).drew
  replace X := X.keep HD
  replace R := R.keep HD
  replace HB := later HB HD
  clear HD
  have ne1 : w.heap.size ≠ w.heap.size + 1 := by omega
  go_region_held3 (fun w' => w'.cell? ⟨w.heap.size, 0, none⟩ = some (.int .i64 aN) ∧ w'.cell? ⟨w.heap.size, 1, none⟩ = some (.int .i64 aD)) (first | with_reducible exact ⟨X.c0, X.c1⟩ | with_reducible exact ⟨far_rt ne1 X.c0, far_rt ne1 X.c1⟩ | go_keep)
    (first
      | (go_at_call_of 40 (Value.int .i64 aN); (with_reducible refine (s1 _).mono ?_); rintro _ W2 ⟨⟨v2, rfl, A1⟩, hb1⟩; obtain ⟨o2, k2, u2, rfl, -⟩ := A1.shape; replace X := X.keep hb1; replace R := R.keep hb1; replace HB := later HB hb1; clear hb1)
      | (go_at_call_of 52 (Value.slice o2 k2 u2); (with_reducible refine (w1 _ _ _ _ A1).mono ?_); rintro _ W3 ⟨⟨v3, rfl, B1⟩, hb1⟩; obtain ⟨o3, k3, u3, rfl, -⟩ := B1.shape; replace X := X.keep hb1; replace R := R.keep hb1; replace HB := later HB hb1; clear hb1)
      | (go_at_call_of 40 (Value.int .i64 aD); (with_reducible refine (s2 _).mono ?_); rintro _ W4 ⟨⟨v4, rfl, A2⟩, hb1⟩; obtain ⟨o4, k4, u4, rfl, -⟩ := A2.shape; replace B1 := B1.keep hb1; replace X := X.keep hb1; replace R := R.keep hb1; replace HB := later HB hb1; clear hb1)
      | (go_at_call_of 52 (Value.slice o4 k4 u4); (with_reducible refine (w2 _ _ _ _ A2).mono ?_); rintro _ W5 ⟨⟨v5, rfl, B2⟩, hb1⟩; obtain ⟨o5, k5, u5, rfl, -⟩ := B2.shape; replace B1 := B1.keep hb1; replace X := X.keep hb1; replace R := R.keep hb1; replace HB := later HB hb1; clear hb1)
      | (go_at_call 39; (with_reducible refine (cf _ _ _ _ _ _ _ B1 B2).mono ?_); rintro _ W6 ⟨rfl, hb1⟩; replace X := X.keep hb1; replace R := R.keep hb1; replace HB := later HB hb1; clear hb1; obtain ⟨r0, r1, r2, r3, r4⟩ := id R))
  all_goals
    go_wp2_with fail
    refine bodyPost_ret (v := .tuple #[.agg #[.int .i64 ov.1, .int .i64 ov.2.1], .int .i64 ov.2.2]) (by simp [results, Try.results23, go_sem, *]) rfl ⟨rfl, ?_⟩
    repeat' (first | (with_reducible exact HB) | (with_reducible refine Below.setCell ?_ ?_ _) | go_size)

set_option maxRecDepth 4000 in
set_option maxHeartbeats 8000000 in
theorem pow11_pp (aN aD n : Int) (ha : I64 aN ∧ I64 aD) (h1 : rightR aN aD = true) (n1 : ¬ n < -64) (n2 : ¬ n > 64) (n3 : ¬ n < 0) (ca : ¬ aN < 0) (w : World) :
    Calls Try.prog 23 #[.agg #[.int .i64 aN, .int .i64 aD], .int .i64 n] w fun r w' => r = .returned (.tuple #[.agg #[.int .i64 (ofV false (aN.natAbs ^ n.natAbs) (aD.natAbs ^ n.natAbs)).1, .int .i64 (ofV false (aN.natAbs ^ n.natAbs) (aD.natAbs ^ n.natAbs)).2.1], .int .i64 (ofV false (aN.natAbs ^ n.natAbs) (aD.natAbs ^ n.natAbs)).2.2]) ∧ Below w.heap.size w w' := by
  have X : Rt2 ((w.alloc (.cells #[.int .i64 aN, .int .i64 aD] 23)).alloc (.cells #[.int .i64 0, .int .i64 0] 23)) w.heap.size (.int .i64 aN) (.int .i64 aD) := ⟨by go_simp, by go_simp, by go_simp, by go_simp, by go_size⟩
  have R : Rt2 ((w.alloc (.cells #[.int .i64 aN, .int .i64 aD] 23)).alloc (.cells #[.int .i64 0, .int .i64 0] 23)) (w.heap.size + 1) (.int .i64 0) (.int .i64 0) := ⟨by go_simp, by go_simp, by go_simp, by go_simp, by go_size⟩
  have HB : Below w.heap.size w ((w.alloc (.cells #[.int .i64 aN, .int .i64 aD] 23)).alloc (.cells #[.int .i64 0, .int .i64 0] 23)) := by go_grown
  have c1 := fun W => right11_w aN aD ha.1 ha.2 W
  rw [h1] at c1
  have p1 := rightR_D h1
  have s1 := fun W => size_w aN ha.1.1 ha.1.2 W
  have s2 := fun W => size_w aD ha.2.1 ha.2.2 W
  have l1 := ha.1.lt
  have l2 := ha.2.lt
  obtain ⟨K, hK⟩ : ∃ K : Nat, K = 64 := ⟨_, rfl⟩
  rw [← hK] at l1 l2
  have hm : n.natAbs ≤ 64 := by omega
  have w1 := fun W o k c (p : BigIs W (.slice o k c) aN.natAbs) => power_w11 aN.natAbs n.natAbs K (by omega) (by omega) l1 W p
  have w2 := fun W o k c (p : BigIs W (.slice o k c) aD.natAbs) => power_w11 aD.natAbs n.natAbs K (by omega) (by omega) l2 W p
  have hL : K * n.natAbs + 1 ≤ 64 * 64 + 1 := Nat.add_le_add_right (Nat.mul_le_mul (by omega) hm) 1
  have q1 := pow_room (i := n.natAbs) l1
  have q2 := pow_room (i := n.natAbs) l2
  have q3 : aD.natAbs ^ n.natAbs ≠ 0 := Nat.ne_of_gt (Nat.pow_pos (by omega))
  have cf := fun W o1 k1 c1 o2 k2 c2 (p : BigIs W (.slice o1 k1 c1) (aN.natAbs ^ n.natAbs)) (q : BigIs W (.slice o2 k2 c2) (aD.natAbs ^ n.natAbs)) => ofr_w false (aN.natAbs ^ n.natAbs) (aD.natAbs ^ n.natAbs) (K * n.natAbs + 1) (by omega) (by omega) q1 q2 q3 W p q
  generalize ofV false (aN.natAbs ^ n.natAbs) (aD.natAbs ^ n.natAbs) = ov at *
  rw [show ((n.natAbs : Nat) : Int) = n by omega] at w1 w2
  clear q1 q2 q3 hL hK l1 l2 p1 h1 ha hm
  generalize aN.natAbs ^ n.natAbs = e1 at *
  generalize aD.natAbs ^ n.natAbs = e2 at *
  generalize aN.natAbs = an at *
  generalize aD.natAbs = ad at *
  go_enter Try.func23, Try.ntmps23
  go_upto_region 1 with fail
  generalize ((w.alloc (.cells #[.int .i64 aN, .int .i64 aD] 23)).alloc (.cells #[.int .i64 0, .int .i64 0] 23)) = V1 at *
  obtain ⟨x0, x1, x2, x3, x4⟩ := id X
  go_upto_region 7 with (go_at_call 13; (with_reducible refine (c1 _).mono ?_); rintro _ W1 ⟨rfl, hb1⟩; replace X := X.keep hb1; replace R := R.keep hb1; replace HB := later HB hb1; clear hb1 x0 x1 x2 x3 x4; obtain ⟨x0, x1, x2, x3, x4⟩ := id X; obtain ⟨r0, r1, r2, r3, r4⟩ := id R)
  clear x0 x1 x2 x3 x4 r0 r1 r2 r3 r4
  have HD : Below W1.heap.size W1 W1.drew := (Below.refl _ _).drew
  replace X := X.keep HD
  replace R := R.keep HD
  replace HB := later HB HD
  clear HD
  have ne1 : w.heap.size ≠ w.heap.size + 1 := by omega
  refine wp_region_held_drew (S := fun w' => w'.cell? ⟨w.heap.size, 0, none⟩ = some (.int .i64 aN) ∧ w'.cell? ⟨w.heap.size, 1, none⟩ = some (.int .i64 aD)) (by kernel_rfl) ⟨X.c0, X.c1⟩ (fun hHeld => ?_)
  simp only [List.size_toArray, List.length_cons, List.length_nil]
  refine wpAnyH_take (i := 0) (v := .pointer (some ⟨w.heap.size, 0, none⟩)) rfl (by kernel_rfl) (by kernel_rfl) (by kernel_rfl) (fun _ _ _ h => h) (Or.inl ⟨by rfl, fun w hSw => by dsimp only at hSw; go_simp⟩) hHeld ?_
  try simp only [List.getElem_toArray, List.getElem_cons_zero, Act.put, List.setIfInBounds_toArray, List.set_cons_zero, List.set_cons_succ]
  refine wpAnyH_take (i := 1) (v := .int .i64 aN) rfl (by kernel_rfl) (by kernel_rfl) (by kernel_rfl) (fun _ _ _ h => h) (Or.inl ⟨by rfl, fun w hSw => by dsimp only at hSw; go_simp⟩) hHeld ?_
  try simp only [List.getElem_toArray, List.getElem_cons_zero, List.getElem_cons_succ, Act.put, List.setIfInBounds_toArray, List.set_cons_zero, List.set_cons_succ]
  refine wpAnyH_take (i := 2) (v := .bool false) rfl (by kernel_rfl) (by kernel_rfl) (by kernel_rfl) (fun _ _ _ h => h) (Or.inl ⟨by rfl, fun w hSw => by dsimp only at hSw; go_simp⟩) hHeld ?_
  try simp only [List.getElem_toArray, List.getElem_cons_zero, List.getElem_cons_succ, Act.put, List.setIfInBounds_toArray, List.set_cons_zero, List.set_cons_succ]
  refine wpAnyH_take (i := 3) (v := .bool false) rfl (by kernel_rfl) (by kernel_rfl) (by kernel_rfl) (fun _ _ _ h => h) (Or.inl ⟨by rfl, fun w hSw => by dsimp only at hSw; go_simp⟩) hHeld ?_
  try simp only [List.getElem_toArray, List.getElem_cons_zero, List.getElem_cons_succ, Act.put, List.setIfInBounds_toArray, List.set_cons_zero, List.set_cons_succ]
  refine wpAnyH_take (i := 4) (v := undef) rfl (by kernel_rfl) (by kernel_rfl) (by kernel_rfl) (fun _ _ _ h => h) (Or.inr ⟨by rfl, rfl⟩) hHeld ?_
  try simp only [List.getElem_toArray, List.getElem_cons_zero, List.getElem_cons_succ, Act.put, List.setIfInBounds_toArray, List.set_cons_zero, List.set_cons_succ]
  refine wpAnyH_take (i := 5) (v := undef) rfl (by kernel_rfl) (by kernel_rfl) (by kernel_rfl) (fun _ _ _ h => h) (Or.inr ⟨by rfl, rfl⟩) hHeld ?_
  try simp only [List.getElem_toArray, List.getElem_cons_zero, List.getElem_cons_succ, Act.put, List.setIfInBounds_toArray, List.set_cons_zero, List.set_cons_succ]
  refine wpAnyH_take (i := 6) (v := undef) rfl (by kernel_rfl) (by kernel_rfl) (by kernel_rfl) (fun _ _ _ h => h) (Or.inr ⟨by rfl, rfl⟩) hHeld ?_
  try simp only [List.getElem_toArray, List.getElem_cons_zero, List.getElem_cons_succ, Act.put, List.setIfInBounds_toArray, List.set_cons_zero, List.set_cons_succ]
  refine wpAnyH_take (i := 7) (v := .bool false) rfl (by kernel_rfl) (by kernel_rfl) (by kernel_rfl) (fun _ _ _ h => h) (Or.inl ⟨by rfl, fun w hSw => by dsimp only at hSw; go_simp⟩) hHeld ?_
  try simp only [List.getElem_toArray, List.getElem_cons_zero, List.getElem_cons_succ, Act.put, List.setIfInBounds_toArray, List.set_cons_zero, List.set_cons_succ]
  refine wpAnyH_take (i := 8) (v := .pointer (some ⟨w.heap.size, 0, none⟩)) rfl (by kernel_rfl) (by kernel_rfl) (by kernel_rfl) (fun _ _ _ h => h) (Or.inl ⟨by rfl, fun w hSw => by dsimp only at hSw; go_simp⟩) hHeld ?_
  try simp only [List.getElem_toArray, List.getElem_cons_zero, List.getElem_cons_succ, Act.put, List.setIfInBounds_toArray, List.set_cons_zero, List.set_cons_succ]
  refine wpAnyH_take (i := 9) (v := .int .i64 aN) rfl (by kernel_rfl) (by kernel_rfl) (by kernel_rfl) (fun _ _ _ h => h) (Or.inl ⟨by rfl, fun w hSw => by dsimp only at hSw; go_simp⟩) hHeld ?_
  try simp only [List.getElem_toArray, List.getElem_cons_zero, List.getElem_cons_succ, Act.put, List.setIfInBounds_toArray, List.set_cons_zero, List.set_cons_succ]
  refine wpAnyH_take (i := 11) (v := .int .i64 n) rfl (by kernel_rfl) (by kernel_rfl) (by kernel_rfl) (fun _ _ _ h => h) (Or.inl ⟨by rfl, fun w hSw => by dsimp only at hSw; go_simp⟩) hHeld ?_
  try simp only [List.getElem_toArray, List.getElem_cons_zero, List.getElem_cons_succ, Act.put, List.setIfInBounds_toArray, List.set_cons_zero, List.set_cons_succ]
  refine wpAnyH_take (i := 13) (v := .pointer (some ⟨w.heap.size, 1, none⟩)) rfl (by kernel_rfl) (by kernel_rfl) (by kernel_rfl) (fun _ _ _ h => h) (Or.inl ⟨by rfl, fun w hSw => by dsimp only at hSw; go_simp⟩) hHeld ?_
  try simp only [List.getElem_toArray, List.getElem_cons_zero, List.getElem_cons_succ, Act.put, List.setIfInBounds_toArray, List.set_cons_zero, List.set_cons_succ]
  refine wpAnyH_take (i := 14) (v := .int .i64 aD) rfl (by kernel_rfl) (by kernel_rfl) (by kernel_rfl) (fun _ _ _ h => h) (Or.inl ⟨by rfl, fun w hSw => by dsimp only at hSw; go_simp⟩) hHeld ?_
  try simp only [List.getElem_toArray, List.getElem_cons_zero, List.getElem_cons_succ, Act.put, List.setIfInBounds_toArray, List.set_cons_zero, List.set_cons_succ]
  refine wpAnyH_take (i := 16) (v := .int .i64 n) rfl (by kernel_rfl) (by kernel_rfl) (by kernel_rfl) (fun _ _ _ h => h) (Or.inl ⟨by rfl, fun w hSw => by dsimp only at hSw; go_simp⟩) hHeld ?_
  try simp only [List.getElem_toArray, List.getElem_cons_zero, List.getElem_cons_succ, Act.put, List.setIfInBounds_toArray, List.set_cons_zero, List.set_cons_succ]
  refine wpAnyH_ready (rs := [10]) (by kernel_rfl) (by simp) ?_
  refine AllReadyH.cons rfl (fun K hK => ?_) AllReadyH.nil
  try simp only [List.getElem_toArray, List.getElem_cons_zero, List.getElem_cons_succ, Act.put, List.setIfInBounds_toArray, List.set_cons_zero, List.set_cons_succ]
  go_simp
  go_at_call 40
  (with_reducible refine (s1 _).mono ?_)
  rintro _ W2 ⟨⟨v2, rfl, A1⟩, hb1⟩
  obtain ⟨o2, k2, u2, rfl, -⟩ := A1.shape
  replace X := X.keep hb1
  replace R := R.keep hb1
  replace HB := later HB hb1
  clear hb1
  dsimp only
  refine hK.out _ _ ⟨X.c0, X.c1⟩ (fun hHeld => ?_)
  clear hK K
  try simp only [List.getElem_toArray, List.getElem_cons_zero, List.getElem_cons_succ, Act.put, List.setIfInBounds_toArray, List.set_cons_zero, List.set_cons_succ]
  refine wpAnyH_ready (rs := [12]) (by kernel_rfl) (by simp) ?_
  refine AllReadyH.cons rfl (fun K hK => ?_) AllReadyH.nil
  try simp only [List.getElem_toArray, List.getElem_cons_zero, List.getElem_cons_succ, Act.put, List.setIfInBounds_toArray, List.set_cons_zero, List.set_cons_succ]
  go_simp
  go_at_call 52
  (with_reducible refine (w1 _ _ _ _ A1).mono ?_)
  rintro _ W3 ⟨⟨v3, rfl, B1⟩, hb1⟩
  obtain ⟨o3, k3, u3, rfl, -⟩ := B1.shape
  replace X := X.keep hb1
  replace R := R.keep hb1
  replace HB := later HB hb1
  clear hb1
  dsimp only
  refine hK.out _ _ ⟨X.c0, X.c1⟩ (fun hHeld => ?_)
  clear hK K
  try simp only [List.getElem_toArray, List.getElem_cons_zero, List.getElem_cons_succ, Act.put, List.setIfInBounds_toArray, List.set_cons_zero, List.set_cons_succ]
  refine wpAnyH_ready (rs := [15]) (by kernel_rfl) (by simp) ?_
  refine AllReadyH.cons rfl (fun K hK => ?_) AllReadyH.nil
  try simp only [List.getElem_toArray, List.getElem_cons_zero, List.getElem_cons_succ, Act.put, List.setIfInBounds_toArray, List.set_cons_zero, List.set_cons_succ]
  go_simp
  go_at_call 40
  (with_reducible refine (s2 _).mono ?_)
  rintro _ W4 ⟨⟨v4, rfl, A2⟩, hb1⟩
  obtain ⟨o4, k4, u4, rfl, -⟩ := A2.shape
  replace B1 := B1.keep hb1
  replace X := X.keep hb1
  replace R := R.keep hb1
  replace HB := later HB hb1
  clear hb1
  dsimp only
  refine hK.out _ _ ⟨X.c0, X.c1⟩ (fun hHeld => ?_)
  clear hK K
  try simp only [List.getElem_toArray, List.getElem_cons_zero, List.getElem_cons_succ, Act.put, List.setIfInBounds_toArray, List.set_cons_zero, List.set_cons_succ]
  refine wpAnyH_ready (rs := [17]) (by kernel_rfl) (by simp) ?_
  refine AllReadyH.cons rfl (fun K hK => ?_) AllReadyH.nil
  try simp only [List.getElem_toArray, List.getElem_cons_zero, List.getElem_cons_succ, Act.put, List.setIfInBounds_toArray, List.set_cons_zero, List.set_cons_succ]
  go_simp
  go_at_call 52
  (with_reducible refine (w2 _ _ _ _ A2).mono ?_)
  rintro _ W5 ⟨⟨v5, rfl, B2⟩, hb1⟩
  obtain ⟨o5, k5, u5, rfl, -⟩ := B2.shape
  replace B1 := B1.keep hb1
  replace X := X.keep hb1
  replace R := R.keep hb1
  replace HB := later HB hb1
  clear hb1
  dsimp only
  refine hK.out _ _ ⟨X.c0, X.c1⟩ (fun hHeld => ?_)
  clear hK K
  try simp only [List.getElem_toArray, List.getElem_cons_zero, List.getElem_cons_succ, Act.put, List.setIfInBounds_toArray, List.set_cons_zero, List.set_cons_succ]
  refine wpAnyH_ready (rs := [18]) (by kernel_rfl) (by simp) ?_
  refine AllReadyH.cons rfl (fun K hK => ?_) AllReadyH.nil
  try simp only [List.getElem_toArray, List.getElem_cons_zero, List.getElem_cons_succ, Act.put, List.setIfInBounds_toArray, List.set_cons_zero, List.set_cons_succ]
  go_simp
  go_at_call 39
  (with_reducible refine (cf _ _ _ _ _ _ _ B1 B2).mono ?_)
  rintro _ W6 ⟨rfl, hb1⟩
  replace X := X.keep hb1
  replace R := R.keep hb1
  replace HB := later HB hb1
  clear hb1
  obtain ⟨r0, r1, r2, r3, r4⟩ := id R
  dsimp only
  refine hK.out _ _ ⟨X.c0, X.c1⟩ (fun hHeld => ?_)
  clear hK K
  try simp only [List.getElem_toArray, List.getElem_cons_zero, List.getElem_cons_succ, Act.put, List.setIfInBounds_toArray, List.set_cons_zero, List.set_cons_succ]
  refine wpAnyH_take (i := 19) (v := .agg #[.int .i64 ov.1, .int .i64 ov.2.1]) rfl (by kernel_rfl) (by kernel_rfl) (by kernel_rfl) (fun _ _ _ h => h) (Or.inl ⟨by rfl, fun w hSw => by dsimp only at hSw; go_simp⟩) hHeld ?_
  try simp only [List.getElem_toArray, List.getElem_cons_zero, List.getElem_cons_succ, Act.put, List.setIfInBounds_toArray, List.set_cons_zero, List.set_cons_succ]
  refine wpAnyH_take (i := 20) (v := .int .i64 ov.2.2) rfl (by kernel_rfl) (by kernel_rfl) (by kernel_rfl) (fun _ _ _ h => h) (Or.inl ⟨by rfl, fun w hSw => by dsimp only at hSw; go_simp⟩) hHeld ?_
  try simp only [List.getElem_toArray, List.getElem_cons_zero, List.getElem_cons_succ, Act.put, List.setIfInBounds_toArray, List.set_cons_zero, List.set_cons_succ]
  refine wpAnyH_ready (rs := [21]) (by kernel_rfl) (by simp) ?_
  refine AllReadyH.cons rfl (fun K hK => ?_) AllReadyH.nil
  try simp only [List.getElem_toArray, List.getElem_cons_zero, List.getElem_cons_succ, Act.put]
  go_simp
  refine hK.out _ _ ⟨far_rt ne1 X.c0, far_rt ne1 X.c1⟩ (fun hHeld => ?_)
  clear hK K
  try simp only [List.getElem_toArray, List.getElem_cons_zero, List.getElem_cons_succ, Act.put]
  refine wpAnyH_take (i := 22) (v := .int .i64 ov.2.2) rfl (by kernel_rfl) (by kernel_rfl) (by kernel_rfl) (fun _ _ _ h => h) (Or.inl ⟨by rfl, fun w hSw => by dsimp only at hSw; go_simp⟩) hHeld ?_
  try simp only [List.getElem_toArray, List.getElem_cons_zero, List.getElem_cons_succ, Act.put, List.setIfInBounds_toArray, List.set_cons_zero, List.set_cons_succ]
  refine wpAnyH_done (by kernel_rfl) ?_ _
  all_goals
    go_wp2_with fail
    refine bodyPost_ret (v := .tuple #[.agg #[.int .i64 ov.1, .int .i64 ov.2.1], .int .i64 ov.2.2]) (by simp [results, Try.results23, go_sem, *]) rfl ⟨rfl, ?_⟩
    repeat' (first | (with_reducible exact HB) | (with_reducible refine Below.setCell ?_ ?_ _) | go_size)

set_option maxRecDepth 4000 in
set_option maxHeartbeats 8000000 in
theorem pow11_nn (aN aD n : Int) (ha : I64 aN ∧ I64 aD) (h1 : rightR aN aD = true) (n1 : ¬ n < -64) (n2 : ¬ n > 64) (n3 : n < 0) (hz : (aN == 0) = false) (ca : aN < 0) (w : World) :
    Calls Try.prog 23 #[.agg #[.int .i64 aN, .int .i64 aD], .int .i64 n] w fun r w' => r = .returned (.tuple #[.agg #[.int .i64 (ofV (Int.tmod n 2 != 0) (aD.natAbs ^ n.natAbs) (aN.natAbs ^ n.natAbs)).1, .int .i64 (ofV (Int.tmod n 2 != 0) (aD.natAbs ^ n.natAbs) (aN.natAbs ^ n.natAbs)).2.1], .int .i64 (ofV (Int.tmod n 2 != 0) (aD.natAbs ^ n.natAbs) (aN.natAbs ^ n.natAbs)).2.2]) ∧ Below w.heap.size w w' := by
  have X : Rt2 ((w.alloc (.cells #[.int .i64 aN, .int .i64 aD] 23)).alloc (.cells #[.int .i64 0, .int .i64 0] 23)) w.heap.size (.int .i64 aN) (.int .i64 aD) := ⟨by go_simp, by go_simp, by go_simp, by go_simp, by go_size⟩
  have R : Rt2 ((w.alloc (.cells #[.int .i64 aN, .int .i64 aD] 23)).alloc (.cells #[.int .i64 0, .int .i64 0] 23)) (w.heap.size + 1) (.int .i64 0) (.int .i64 0) := ⟨by go_simp, by go_simp, by go_simp, by go_simp, by go_size⟩
  have HB : Below w.heap.size w ((w.alloc (.cells #[.int .i64 aN, .int .i64 aD] 23)).alloc (.cells #[.int .i64 0, .int .i64 0] 23)) := by go_grown
  have c1 := fun W => right11_w aN aD ha.1 ha.2 W
  rw [h1] at c1
  have p1 := rightR_D h1
  have s1 := fun W => size_w aN ha.1.1 ha.1.2 W
  have s2 := fun W => size_w aD ha.2.1 ha.2.2 W
  have l1 := ha.1.lt
  have l2 := ha.2.lt
  obtain ⟨K, hK⟩ : ∃ K : Nat, K = 64 := ⟨_, rfl⟩
  rw [← hK] at l1 l2
  have hm : n.natAbs ≤ 64 := by omega
  have w1 := fun W o k c (p : BigIs W (.slice o k c) aN.natAbs) => power_w11 aN.natAbs n.natAbs K (by omega) (by omega) l1 W p
  have w2 := fun W o k c (p : BigIs W (.slice o k c) aD.natAbs) => power_w11 aD.natAbs n.natAbs K (by omega) (by omega) l2 W p
  have hL : K * n.natAbs + 1 ≤ 64 * 64 + 1 := Nat.add_le_add_right (Nat.mul_le_mul (by omega) hm) 1
  have q1 := pow_room (i := n.natAbs) l1
  have q2 := pow_room (i := n.natAbs) l2
  have q3 : aN.natAbs ^ n.natAbs ≠ 0 := Nat.ne_of_gt (Nat.pow_pos (by omega))
  have cf := fun W o1 k1 c1 o2 k2 c2 (p : BigIs W (.slice o1 k1 c1) (aD.natAbs ^ n.natAbs)) (q : BigIs W (.slice o2 k2 c2) (aN.natAbs ^ n.natAbs)) => ofr_w (Int.tmod n 2 != 0) (aD.natAbs ^ n.natAbs) (aN.natAbs ^ n.natAbs) (K * n.natAbs + 1) (by omega) (by omega) q2 q1 q3 W p q
  generalize ofV (Int.tmod n 2 != 0) (aD.natAbs ^ n.natAbs) (aN.natAbs ^ n.natAbs) = ov at *
  rw [show ((n.natAbs : Nat) : Int) = -n by omega] at w1 w2
  clear q1 q2 q3 hL hK l1 l2 p1 h1 ha hm
  generalize aD.natAbs ^ n.natAbs = e1 at *
  generalize aN.natAbs ^ n.natAbs = e2 at *
  generalize aN.natAbs = an at *
  generalize aD.natAbs = ad at *
  have hwn : IntKind.i64.wrap (-n) = -n := by rw [IntKind.wrap_i64]; omega
  go_enter Try.func23, Try.ntmps23
  go_upto_region 1 with fail
  generalize ((w.alloc (.cells #[.int .i64 aN, .int .i64 aD] 23)).alloc (.cells #[.int .i64 0, .int .i64 0] 23)) = V1 at *
  obtain ⟨x0, x1, x2, x3, x4⟩ := id X
  go_upto_region 6 with (go_at_call 13; (with_reducible refine (c1 _).mono ?_); rintro _ W1 ⟨rfl, hb1⟩; replace X := X.keep hb1; replace R := R.keep hb1; replace HB := later HB hb1; clear hb1 x0 x1 x2 x3 x4; obtain ⟨x0, x1, x2, x3, x4⟩ := id X; obtain ⟨r0, r1, r2, r3, r4⟩ := id R)
  clear x0 x1 x2 x3 x4 r0 r1 r2 r3 r4
  have HD : Below W1.heap.size W1 W1.drew := (Below.refl _ _).drew
  replace X := X.keep HD
  replace R := R.keep HD
  replace HB := later HB HD
  clear HD
  have ne1 : w.heap.size ≠ w.heap.size + 1 := by omega
  go_region_held3 (fun w' => w'.cell? ⟨w.heap.size, 0, none⟩ = some (.int .i64 aN) ∧ w'.cell? ⟨w.heap.size, 1, none⟩ = some (.int .i64 aD)) (first | with_reducible exact ⟨X.c0, X.c1⟩ | with_reducible exact ⟨far_rt ne1 X.c0, far_rt ne1 X.c1⟩ | go_keep)
    (first
      | (go_at_call_of 40 (Value.int .i64 aD); (with_reducible refine (s2 _).mono ?_); rintro _ W2 ⟨⟨v2, rfl, A1⟩, hb1⟩; obtain ⟨o2, k2, u2, rfl, -⟩ := A1.shape; replace X := X.keep hb1; replace R := R.keep hb1; replace HB := later HB hb1; clear hb1)
      | (go_at_call_of 52 (Value.slice o2 k2 u2); (with_reducible refine (w2 _ _ _ _ A1).mono ?_); rintro _ W3 ⟨⟨v3, rfl, B1⟩, hb1⟩; obtain ⟨o3, k3, u3, rfl, -⟩ := B1.shape; replace X := X.keep hb1; replace R := R.keep hb1; replace HB := later HB hb1; clear hb1)
      | (go_at_call_of 40 (Value.int .i64 aN); (with_reducible refine (s1 _).mono ?_); rintro _ W4 ⟨⟨v4, rfl, A2⟩, hb1⟩; obtain ⟨o4, k4, u4, rfl, -⟩ := A2.shape; replace B1 := B1.keep hb1; replace X := X.keep hb1; replace R := R.keep hb1; replace HB := later HB hb1; clear hb1)
      | (go_at_call_of 52 (Value.slice o4 k4 u4); (with_reducible refine (w1 _ _ _ _ A2).mono ?_); rintro _ W5 ⟨⟨v5, rfl, B2⟩, hb1⟩; obtain ⟨o5, k5, u5, rfl, -⟩ := B2.shape; replace B1 := B1.keep hb1; replace X := X.keep hb1; replace R := R.keep hb1; replace HB := later HB hb1; clear hb1)
      | (go_at_call 39; (with_reducible refine (cf _ _ _ _ _ _ _ B1 B2).mono ?_); rintro _ W6 ⟨rfl, hb1⟩; replace X := X.keep hb1; replace R := R.keep hb1; replace HB := later HB hb1; clear hb1; obtain ⟨r0, r1, r2, r3, r4⟩ := id R))
  all_goals
    go_wp2_with fail
    refine bodyPost_ret (v := .tuple #[.agg #[.int .i64 ov.1, .int .i64 ov.2.1], .int .i64 ov.2.2]) (by simp [results, Try.results23, go_sem, *]) rfl ⟨rfl, ?_⟩
    repeat' (first | (with_reducible exact HB) | (with_reducible refine Below.setCell ?_ ?_ _) | go_size)

set_option maxRecDepth 4000 in
set_option maxHeartbeats 8000000 in
theorem pow11_np (aN aD n : Int) (ha : I64 aN ∧ I64 aD) (h1 : rightR aN aD = true) (n1 : ¬ n < -64) (n2 : ¬ n > 64) (n3 : n < 0) (hz : (aN == 0) = false) (hz2 : aN.natAbs ≠ 0) (ca : ¬ aN < 0) (w : World) :
    Calls Try.prog 23 #[.agg #[.int .i64 aN, .int .i64 aD], .int .i64 n] w fun r w' => r = .returned (.tuple #[.agg #[.int .i64 (ofV false (aD.natAbs ^ n.natAbs) (aN.natAbs ^ n.natAbs)).1, .int .i64 (ofV false (aD.natAbs ^ n.natAbs) (aN.natAbs ^ n.natAbs)).2.1], .int .i64 (ofV false (aD.natAbs ^ n.natAbs) (aN.natAbs ^ n.natAbs)).2.2]) ∧ Below w.heap.size w w' := by
  have X : Rt2 ((w.alloc (.cells #[.int .i64 aN, .int .i64 aD] 23)).alloc (.cells #[.int .i64 0, .int .i64 0] 23)) w.heap.size (.int .i64 aN) (.int .i64 aD) := ⟨by go_simp, by go_simp, by go_simp, by go_simp, by go_size⟩
  have R : Rt2 ((w.alloc (.cells #[.int .i64 aN, .int .i64 aD] 23)).alloc (.cells #[.int .i64 0, .int .i64 0] 23)) (w.heap.size + 1) (.int .i64 0) (.int .i64 0) := ⟨by go_simp, by go_simp, by go_simp, by go_simp, by go_size⟩
  have HB : Below w.heap.size w ((w.alloc (.cells #[.int .i64 aN, .int .i64 aD] 23)).alloc (.cells #[.int .i64 0, .int .i64 0] 23)) := by go_grown
  have c1 := fun W => right11_w aN aD ha.1 ha.2 W
  rw [h1] at c1
  have p1 := rightR_D h1
  have s1 := fun W => size_w aN ha.1.1 ha.1.2 W
  have s2 := fun W => size_w aD ha.2.1 ha.2.2 W
  have l1 := ha.1.lt
  have l2 := ha.2.lt
  obtain ⟨K, hK⟩ : ∃ K : Nat, K = 64 := ⟨_, rfl⟩
  rw [← hK] at l1 l2
  have hm : n.natAbs ≤ 64 := by omega
  have w1 := fun W o k c (p : BigIs W (.slice o k c) aN.natAbs) => power_w11 aN.natAbs n.natAbs K (by omega) (by omega) l1 W p
  have w2 := fun W o k c (p : BigIs W (.slice o k c) aD.natAbs) => power_w11 aD.natAbs n.natAbs K (by omega) (by omega) l2 W p
  have hL : K * n.natAbs + 1 ≤ 64 * 64 + 1 := Nat.add_le_add_right (Nat.mul_le_mul (by omega) hm) 1
  have q1 := pow_room (i := n.natAbs) l1
  have q2 := pow_room (i := n.natAbs) l2
  have q3 : aN.natAbs ^ n.natAbs ≠ 0 := Nat.ne_of_gt (Nat.pow_pos (by omega))
  have cf := fun W o1 k1 c1 o2 k2 c2 (p : BigIs W (.slice o1 k1 c1) (aD.natAbs ^ n.natAbs)) (q : BigIs W (.slice o2 k2 c2) (aN.natAbs ^ n.natAbs)) => ofr_w false (aD.natAbs ^ n.natAbs) (aN.natAbs ^ n.natAbs) (K * n.natAbs + 1) (by omega) (by omega) q2 q1 q3 W p q
  generalize ofV false (aD.natAbs ^ n.natAbs) (aN.natAbs ^ n.natAbs) = ov at *
  rw [show ((n.natAbs : Nat) : Int) = -n by omega] at w1 w2
  clear q1 q2 q3 hL hK l1 l2 p1 h1 ha hm
  generalize aD.natAbs ^ n.natAbs = e1 at *
  generalize aN.natAbs ^ n.natAbs = e2 at *
  generalize aN.natAbs = an at *
  generalize aD.natAbs = ad at *
  have hwn : IntKind.i64.wrap (-n) = -n := by rw [IntKind.wrap_i64]; omega
  go_enter Try.func23, Try.ntmps23
  go_upto_region 1 with fail
  generalize ((w.alloc (.cells #[.int .i64 aN, .int .i64 aD] 23)).alloc (.cells #[.int .i64 0, .int .i64 0] 23)) = V1 at *
  obtain ⟨x0, x1, x2, x3, x4⟩ := id X
  go_upto_region 6 with (go_at_call 13; (with_reducible refine (c1 _).mono ?_); rintro _ W1 ⟨rfl, hb1⟩; replace X := X.keep hb1; replace R := R.keep hb1; replace HB := later HB hb1; clear hb1 x0 x1 x2 x3 x4; obtain ⟨x0, x1, x2, x3, x4⟩ := id X; obtain ⟨r0, r1, r2, r3, r4⟩ := id R)
  clear x0 x1 x2 x3 x4 r0 r1 r2 r3 r4
  have HD : Below W1.heap.size W1 W1.drew := (Below.refl _ _).drew
  replace X := X.keep HD
  replace R := R.keep HD
  replace HB := later HB HD
  clear HD
  have ne1 : w.heap.size ≠ w.heap.size + 1 := by omega
  refine wp_region_held_drew (S := fun w' => w'.cell? ⟨w.heap.size, 0, none⟩ = some (.int .i64 aN) ∧ w'.cell? ⟨w.heap.size, 1, none⟩ = some (.int .i64 aD)) (by kernel_rfl) ⟨X.c0, X.c1⟩ (fun hHeld => ?_)
  simp only [List.size_toArray, List.length_cons, List.length_nil]
  refine wpAnyH_take (i := 0) (v := .pointer (some ⟨w.heap.size, 0, none⟩)) rfl (by kernel_rfl) (by kernel_rfl) (by kernel_rfl) (fun _ _ _ h => h) (Or.inl ⟨by rfl, fun w hSw => by dsimp only at hSw; go_simp⟩) hHeld ?_
  try simp only [List.getElem_toArray, List.getElem_cons_zero, Act.put, List.setIfInBounds_toArray, List.set_cons_zero, List.set_cons_succ]
  refine wpAnyH_take (i := 1) (v := .int .i64 aN) rfl (by kernel_rfl) (by kernel_rfl) (by kernel_rfl) (fun _ _ _ h => h) (Or.inl ⟨by rfl, fun w hSw => by dsimp only at hSw; go_simp⟩) hHeld ?_
  try simp only [List.getElem_toArray, List.getElem_cons_zero, List.getElem_cons_succ, Act.put, List.setIfInBounds_toArray, List.set_cons_zero, List.set_cons_succ]
  refine wpAnyH_take (i := 2) (v := .bool false) rfl (by kernel_rfl) (by kernel_rfl) (by kernel_rfl) (fun _ _ _ h => h) (Or.inl ⟨by rfl, fun w hSw => by dsimp only at hSw; go_simp⟩) hHeld ?_
  try simp only [List.getElem_toArray, List.getElem_cons_zero, List.getElem_cons_succ, Act.put, List.setIfInBounds_toArray, List.set_cons_zero, List.set_cons_succ]
  refine wpAnyH_take (i := 3) (v := .bool false) rfl (by kernel_rfl) (by kernel_rfl) (by kernel_rfl) (fun _ _ _ h => h) (Or.inl ⟨by rfl, fun w hSw => by dsimp only at hSw; go_simp⟩) hHeld ?_
  try simp only [List.getElem_toArray, List.getElem_cons_zero, List.getElem_cons_succ, Act.put, List.setIfInBounds_toArray, List.set_cons_zero, List.set_cons_succ]
  refine wpAnyH_take (i := 4) (v := undef) rfl (by kernel_rfl) (by kernel_rfl) (by kernel_rfl) (fun _ _ _ h => h) (Or.inr ⟨by rfl, rfl⟩) hHeld ?_
  try simp only [List.getElem_toArray, List.getElem_cons_zero, List.getElem_cons_succ, Act.put, List.setIfInBounds_toArray, List.set_cons_zero, List.set_cons_succ]
  refine wpAnyH_take (i := 5) (v := undef) rfl (by kernel_rfl) (by kernel_rfl) (by kernel_rfl) (fun _ _ _ h => h) (Or.inr ⟨by rfl, rfl⟩) hHeld ?_
  try simp only [List.getElem_toArray, List.getElem_cons_zero, List.getElem_cons_succ, Act.put, List.setIfInBounds_toArray, List.set_cons_zero, List.set_cons_succ]
  refine wpAnyH_take (i := 6) (v := undef) rfl (by kernel_rfl) (by kernel_rfl) (by kernel_rfl) (fun _ _ _ h => h) (Or.inr ⟨by rfl, rfl⟩) hHeld ?_
  try simp only [List.getElem_toArray, List.getElem_cons_zero, List.getElem_cons_succ, Act.put, List.setIfInBounds_toArray, List.set_cons_zero, List.set_cons_succ]
  refine wpAnyH_take (i := 7) (v := .bool false) rfl (by kernel_rfl) (by kernel_rfl) (by kernel_rfl) (fun _ _ _ h => h) (Or.inl ⟨by rfl, fun w hSw => by dsimp only at hSw; go_simp⟩) hHeld ?_
  try simp only [List.getElem_toArray, List.getElem_cons_zero, List.getElem_cons_succ, Act.put, List.setIfInBounds_toArray, List.set_cons_zero, List.set_cons_succ]
  refine wpAnyH_take (i := 8) (v := .pointer (some ⟨w.heap.size, 1, none⟩)) rfl (by kernel_rfl) (by kernel_rfl) (by kernel_rfl) (fun _ _ _ h => h) (Or.inl ⟨by rfl, fun w hSw => by dsimp only at hSw; go_simp⟩) hHeld ?_
  try simp only [List.getElem_toArray, List.getElem_cons_zero, List.getElem_cons_succ, Act.put, List.setIfInBounds_toArray, List.set_cons_zero, List.set_cons_succ]
  refine wpAnyH_take (i := 9) (v := .int .i64 aD) rfl (by kernel_rfl) (by kernel_rfl) (by kernel_rfl) (fun _ _ _ h => h) (Or.inl ⟨by rfl, fun w hSw => by dsimp only at hSw; go_simp⟩) hHeld ?_
  try simp only [List.getElem_toArray, List.getElem_cons_zero, List.getElem_cons_succ, Act.put, List.setIfInBounds_toArray, List.set_cons_zero, List.set_cons_succ]
  refine wpAnyH_take (i := 11) (v := .int .i64 n) rfl (by kernel_rfl) (by kernel_rfl) (by kernel_rfl) (fun _ _ _ h => h) (Or.inl ⟨by rfl, fun w hSw => by dsimp only at hSw; go_simp⟩) hHeld ?_
  try simp only [List.getElem_toArray, List.getElem_cons_zero, List.getElem_cons_succ, Act.put, List.setIfInBounds_toArray, List.set_cons_zero, List.set_cons_succ]
  refine wpAnyH_take (i := 12) (v := .int .i64 (-n)) rfl (by kernel_rfl) (by kernel_rfl) (by kernel_rfl) (fun _ _ _ h => h) (Or.inl ⟨by rfl, fun w hSw => by dsimp only at hSw; go_simp⟩) hHeld ?_
  try simp only [List.getElem_toArray, List.getElem_cons_zero, List.getElem_cons_succ, Act.put, List.setIfInBounds_toArray, List.set_cons_zero, List.set_cons_succ]
  refine wpAnyH_take (i := 14) (v := .pointer (some ⟨w.heap.size, 0, none⟩)) rfl (by kernel_rfl) (by kernel_rfl) (by kernel_rfl) (fun _ _ _ h => h) (Or.inl ⟨by rfl, fun w hSw => by dsimp only at hSw; go_simp⟩) hHeld ?_
  try simp only [List.getElem_toArray, List.getElem_cons_zero, List.getElem_cons_succ, Act.put, List.setIfInBounds_toArray, List.set_cons_zero, List.set_cons_succ]
  refine wpAnyH_take (i := 15) (v := .int .i64 aN) rfl (by kernel_rfl) (by kernel_rfl) (by kernel_rfl) (fun _ _ _ h => h) (Or.inl ⟨by rfl, fun w hSw => by dsimp only at hSw; go_simp⟩) hHeld ?_
  try simp only [List.getElem_toArray, List.getElem_cons_zero, List.getElem_cons_succ, Act.put, List.setIfInBounds_toArray, List.set_cons_zero, List.set_cons_succ]
  refine wpAnyH_take (i := 17) (v := .int .i64 n) rfl (by kernel_rfl) (by kernel_rfl) (by kernel_rfl) (fun _ _ _ h => h) (Or.inl ⟨by rfl, fun w hSw => by dsimp only at hSw; go_simp⟩) hHeld ?_
  try simp only [List.getElem_toArray, List.getElem_cons_zero, List.getElem_cons_succ, Act.put, List.setIfInBounds_toArray, List.set_cons_zero, List.set_cons_succ]
  refine wpAnyH_take (i := 18) (v := .int .i64 (-n)) rfl (by kernel_rfl) (by kernel_rfl) (by kernel_rfl) (fun _ _ _ h => h) (Or.inl ⟨by rfl, fun w hSw => by dsimp only at hSw; go_simp⟩) hHeld ?_
  try simp only [List.getElem_toArray, List.getElem_cons_zero, List.getElem_cons_succ, Act.put, List.setIfInBounds_toArray, List.set_cons_zero, List.set_cons_succ]
  refine wpAnyH_ready (rs := [10]) (by kernel_rfl) (by simp) ?_
  refine AllReadyH.cons rfl (fun K hK => ?_) AllReadyH.nil
  try simp only [List.getElem_toArray, List.getElem_cons_zero, List.getElem_cons_succ, Act.put, List.setIfInBounds_toArray, List.set_cons_zero, List.set_cons_succ]
  go_simp
  go_at_call 40
  (with_reducible refine (s2 _).mono ?_)
  rintro _ W2 ⟨⟨v2, rfl, A1⟩, hb1⟩
  obtain ⟨o2, k2, u2, rfl, -⟩ := A1.shape
  replace X := X.keep hb1
  replace R := R.keep hb1
  replace HB := later HB hb1
  clear hb1
  dsimp only
  refine hK.out _ _ ⟨X.c0, X.c1⟩ (fun hHeld => ?_)
  clear hK K
  try simp only [List.getElem_toArray, List.getElem_cons_zero, List.getElem_cons_succ, Act.put, List.setIfInBounds_toArray, List.set_cons_zero, List.set_cons_succ]
  refine wpAnyH_ready (rs := [13]) (by kernel_rfl) (by simp) ?_
  refine AllReadyH.cons rfl (fun K hK => ?_) AllReadyH.nil
  try simp only [List.getElem_toArray, List.getElem_cons_zero, List.getElem_cons_succ, Act.put, List.setIfInBounds_toArray, List.set_cons_zero, List.set_cons_succ]
  go_simp
  go_at_call 52
  (with_reducible refine (w2 _ _ _ _ A1).mono ?_)
  rintro _ W3 ⟨⟨v3, rfl, B1⟩, hb1⟩
  obtain ⟨o3, k3, u3, rfl, -⟩ := B1.shape
  replace X := X.keep hb1
  replace R := R.keep hb1
  replace HB := later HB hb1
  clear hb1
  dsimp only
  refine hK.out _ _ ⟨X.c0, X.c1⟩ (fun hHeld => ?_)
  clear hK K
  try simp only [List.getElem_toArray, List.getElem_cons_zero, List.getElem_cons_succ, Act.put, List.setIfInBounds_toArray, List.set_cons_zero, List.set_cons_succ]
  refine wpAnyH_ready (rs := [16]) (by kernel_rfl) (by simp) ?_
  refine AllReadyH.cons rfl (fun K hK => ?_) AllReadyH.nil
  try simp only [List.getElem_toArray, List.getElem_cons_zero, List.getElem_cons_succ, Act.put, List.setIfInBounds_toArray, List.set_cons_zero, List.set_cons_succ]
  go_simp
  go_at_call 40
  (with_reducible refine (s1 _).mono ?_)
  rintro _ W4 ⟨⟨v4, rfl, A2⟩, hb1⟩
  obtain ⟨o4, k4, u4, rfl, -⟩ := A2.shape
  replace B1 := B1.keep hb1
  replace X := X.keep hb1
  replace R := R.keep hb1
  replace HB := later HB hb1
  clear hb1
  dsimp only
  refine hK.out _ _ ⟨X.c0, X.c1⟩ (fun hHeld => ?_)
  clear hK K
  try simp only [List.getElem_toArray, List.getElem_cons_zero, List.getElem_cons_succ, Act.put, List.setIfInBounds_toArray, List.set_cons_zero, List.set_cons_succ]
  refine wpAnyH_ready (rs := [19]) (by kernel_rfl) (by simp) ?_
  refine AllReadyH.cons rfl (fun K hK => ?_) AllReadyH.nil
  try simp only [List.getElem_toArray, List.getElem_cons_zero, List.getElem_cons_succ, Act.put, List.setIfInBounds_toArray, List.set_cons_zero, List.set_cons_succ]
  go_simp
  go_at_call 52
  (with_reducible refine (w1 _ _ _ _ A2).mono ?_)
  rintro _ W5 ⟨⟨v5, rfl, B2⟩, hb1⟩
  obtain ⟨o5, k5, u5, rfl, -⟩ := B2.shape
  replace B1 := B1.keep hb1
  replace X := X.keep hb1
  replace R := R.keep hb1
  replace HB := later HB hb1
  clear hb1
  dsimp only
  refine hK.out _ _ ⟨X.c0, X.c1⟩ (fun hHeld => ?_)
  clear hK K
  try simp only [List.getElem_toArray, List.getElem_cons_zero, List.getElem_cons_succ, Act.put, List.setIfInBounds_toArray, List.set_cons_zero, List.set_cons_succ]
  refine wpAnyH_ready (rs := [20]) (by kernel_rfl) (by simp) ?_
  refine AllReadyH.cons rfl (fun K hK => ?_) AllReadyH.nil
  try simp only [List.getElem_toArray, List.getElem_cons_zero, List.getElem_cons_succ, Act.put, List.setIfInBounds_toArray, List.set_cons_zero, List.set_cons_succ]
  go_simp
  go_at_call 39
  (with_reducible refine (cf _ _ _ _ _ _ _ B1 B2).mono ?_)
  rintro _ W6 ⟨rfl, hb1⟩
  replace X := X.keep hb1
  replace R := R.keep hb1
  replace HB := later HB hb1
  clear hb1
  obtain ⟨r0, r1, r2, r3, r4⟩ := id R
  dsimp only
  refine hK.out _ _ ⟨X.c0, X.c1⟩ (fun hHeld => ?_)
  clear hK K
  try simp only [List.getElem_toArray, List.getElem_cons_zero, List.getElem_cons_succ, Act.put, List.setIfInBounds_toArray, List.set_cons_zero, List.set_cons_succ]
  refine wpAnyH_take (i := 21) (v := .agg #[.int .i64 ov.1, .int .i64 ov.2.1]) rfl (by kernel_rfl) (by kernel_rfl) (by kernel_rfl) (fun _ _ _ h => h) (Or.inl ⟨by rfl, fun w hSw => by dsimp only at hSw; go_simp⟩) hHeld ?_
  try simp only [List.getElem_toArray, List.getElem_cons_zero, List.getElem_cons_succ, Act.put, List.setIfInBounds_toArray, List.set_cons_zero, List.set_cons_succ]
  refine wpAnyH_take (i := 22) (v := .int .i64 ov.2.2) rfl (by kernel_rfl) (by kernel_rfl) (by kernel_rfl) (fun _ _ _ h => h) (Or.inl ⟨by rfl, fun w hSw => by dsimp only at hSw; go_simp⟩) hHeld ?_
  try simp only [List.getElem_toArray, List.getElem_cons_zero, List.getElem_cons_succ, Act.put, List.setIfInBounds_toArray, List.set_cons_zero, List.set_cons_succ]
  refine wpAnyH_ready (rs := [23]) (by kernel_rfl) (by simp) ?_
  refine AllReadyH.cons rfl (fun K hK => ?_) AllReadyH.nil
  try simp only [List.getElem_toArray, List.getElem_cons_zero, List.getElem_cons_succ, Act.put]
  go_simp
  refine hK.out _ _ ⟨far_rt ne1 X.c0, far_rt ne1 X.c1⟩ (fun hHeld => ?_)
  clear hK K
  try simp only [List.getElem_toArray, List.getElem_cons_zero, List.getElem_cons_succ, Act.put]
  refine wpAnyH_take (i := 24) (v := .int .i64 ov.2.2) rfl (by kernel_rfl) (by kernel_rfl) (by kernel_rfl) (fun _ _ _ h => h) (Or.inl ⟨by rfl, fun w hSw => by dsimp only at hSw; go_simp⟩) hHeld ?_
  try simp only [List.getElem_toArray, List.getElem_cons_zero, List.getElem_cons_succ, Act.put, List.setIfInBounds_toArray, List.set_cons_zero, List.set_cons_succ]
  refine wpAnyH_done (by kernel_rfl) ?_ _
  all_goals
    go_wp2_with fail
    refine bodyPost_ret (v := .tuple #[.agg #[.int .i64 ov.1, .int .i64 ov.2.1], .int .i64 ov.2.2]) (by simp [results, Try.results23, go_sem, *]) rfl ⟨rfl, ?_⟩
    repeat' (first | (with_reducible exact HB) | (with_reducible refine Below.setCell ?_ ?_ _) | go_size)

theorem pwS_cases (aN n : Int) : (aN < 0 ∧ pwS aN n = (Int.tmod n 2 != 0)) ∨ (¬ aN < 0 ∧ pwS aN n = false) := by
  unfold pwS
  by_cases c : aN < 0
  · exact Or.inl ⟨c, by rw [decide_eq_true c]; rfl⟩
  · exact Or.inr ⟨c, by rw [decide_eq_false c]; rfl⟩
theorem pow11_w (aN aD n : Int) (ha : I64 aN ∧ I64 aD) (w : World) :
    Calls Try.prog 23 #[.agg #[.int .i64 aN, .int .i64 aD], .int .i64 n] w fun r w' => r = .returned (.tuple #[.agg #[.int .i64 (powV11 aN aD n).1, .int .i64 (powV11 aN aD n).2.1], .int .i64 (powV11 aN aD n).2.2]) ∧ Below w.heap.size w w' := by
  cases h : pwB aN aD n
  · have e : powV11 aN aD n = (0, 0, 1) := by unfold powV11; rw [h]; rfl
    rw [e]
    exact pow11_bad aN aD n ha h w
  · have h' := h
    unfold pwB at h'
    simp only [Bool.and_eq_true, decide_eq_true_eq] at h'
    obtain ⟨h1, h2, h3⟩ := h'
    by_cases c : n < 0
    · by_cases z : aN = 0
      · subst z
        have e : powV11 0 aD n = (0, 0, 6) := by unfold powV11; rw [h, if_pos rfl, if_pos c, if_pos rfl]
        rw [e]
        exact pow11_zero aD n ha h1 (by omega) c w
      · have e : powV11 aN aD n = ofV (pwS aN n) (aD.natAbs ^ n.natAbs) (aN.natAbs ^ n.natAbs) := by unfold powV11; rw [h, if_pos rfl, if_pos c, if_neg z]
        rw [e]
        rcases pwS_cases aN n with ⟨ca, es⟩ | ⟨ca, es⟩
        · rw [es]; exact pow11_nn aN aD n ha h1 (by omega) (by omega) c (by simpa using z) ca w
        · rw [es]; exact pow11_np aN aD n ha h1 (by omega) (by omega) c (by simpa using z) (by omega) ca w
    · have e : powV11 aN aD n = ofV (pwS aN n) (aN.natAbs ^ n.natAbs) (aD.natAbs ^ n.natAbs) := by unfold powV11; rw [h, if_pos rfl, if_neg c]
      rw [e]
      rcases pwS_cases aN n with ⟨ca, es⟩ | ⟨ca, es⟩
      · rw [es]; exact pow11_pn aN aD n ha h1 (by omega) (by omega) c ca w
      · rw [es]; exact pow11_pp aN aD n ha h1 (by omega) (by omega) c ca w

end Go.Proofs.Ytdnpoacjamkhkaa
