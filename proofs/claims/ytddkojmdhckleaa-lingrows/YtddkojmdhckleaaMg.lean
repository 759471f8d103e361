/- Sums of products grow with what they are made of; a unit matrix changes nothing; its norm is 1; points of intervals. -/
import Derived.Test.YtddkojmdhckleaaNa
import Derived.Test.YtddkojmdhckleaaLx
namespace Go.Proofs.Ytddkojmdhckleaa
open Go.ChangeShapes Go.WideShapes Go.ChangeAt Go.RowKit

def W2 (q : Nat × Nat) : Prop := q.1 < 18446744073709551616 ∧ q.2 < 18446744073709551616
/-- It may be. -/
def Rt (q : Nat × Nat) : Prop := q = (infI 1, infI (-1)) ∨ Some2 q.1 q.2

theorem Gr.rt {p q : Nat × Nat} (h : Gr p q) : Rt p ∧ Rt q := by
  rcases h with ⟨a, b⟩ | ⟨a, b, -⟩
  · exact ⟨.inl a, b⟩
  · exact ⟨.inr a, .inr b⟩

theorem Rt.gr {q : Nat × Nat} (h : Rt q) : Gr q q := by
  rcases h with rfl | h
  · exact gr_empty
  · exact gr_some h h (Int.le_refl _) (Int.le_refl _)

theorem Gr.trans {p q r : Nat × Nat} (h : Gr p q) (k : Gr q r) : Gr p r := by
  rcases h with ⟨a, b⟩ | ⟨a, b, c, d⟩
  · exact .inl ⟨a, k.rt.2⟩
  · rcases k with ⟨e, -⟩ | ⟨-, f, g, i⟩
    · rw [e] at b
      have := hs_iff.2 b
      rw [empty_some] at this
      cases this
    · exact gr_some a f (by omega) (by omega)

theorem addP_e1 (a b : Nat) : addP (infI 1) (infI (-1)) a b = (infI 1, infI (-1)) := by
  unfold addP; rw [empty_some, Bool.false_and]; rfl
theorem addP_e2 (a b : Nat) : addP a b (infI 1) (infI (-1)) = (infI 1, infI (-1)) := by
  unfold addP; rw [empty_some, Bool.and_false]; rfl
theorem mulP_e1 (a b : Nat) : mulP (infI 1) (infI (-1)) a b = (infI 1, infI (-1)) := by
  unfold mulP; rw [empty_some, Bool.false_and]; rfl
theorem mulP_e2 (a b : Nat) : mulP a b (infI 1) (infI (-1)) = (infI 1, infI (-1)) := by
  unfold mulP; rw [empty_some, Bool.and_false]; rfl

theorem mul_gr2 {xl xh ul uh yl yh vl vh : Nat} (X : In xl xh ul uh) (Y : In yl yh vl vh) : Gr (mulP xl xh yl yh) (mulP ul uh vl vh) := by
  obtain ⟨A, k1, k2⟩ := mul_keys X.a1 X.a2 Y.a1 Y.a2 X.S Y.S
  obtain ⟨A', k3, k4⟩ := mul_keys X.b1 X.b2 Y.b1 Y.b2 X.T Y.T
  refine gr_some A A' ?_ ?_
  · rw [k1, k3]
    have a := low_grows X.b1 X.b2 X.a1 X.a2 Y.a1 Y.a2 X.T.nl X.T.nh X.S.nl X.S.nh Y.S.nl Y.S.nh X.kl X.S.le X.kh
    have b := low_grows Y.b1 Y.b2 Y.a1 Y.a2 X.b1 X.b2 Y.T.nl Y.T.nh Y.S.nl Y.S.nh X.T.nl X.T.nh Y.kl Y.S.le Y.kh
    rw [lowK_comm yl yh, lowK_comm vl vh] at b
    exact Int.le_trans b a
  · rw [k2, k4]
    have a := top_grows X.b1 X.b2 X.a1 X.a2 Y.a1 Y.a2 X.T.nl X.T.nh X.S.nl X.S.nh Y.S.nl Y.S.nh X.kl X.S.le X.kh
    have b := top_grows Y.b1 Y.b2 Y.a1 Y.a2 X.b1 X.b2 Y.T.nl Y.T.nh Y.S.nl Y.S.nh X.T.nl X.T.nh Y.kl Y.S.le Y.kh
    rw [topK_comm yl yh, topK_comm vl vh] at b
    exact Int.le_trans a b

theorem rt_add {q s : Nat × Nat} (h : Rt q) (k : Rt s) (hq : W2 q) (hs : W2 s) : Rt (addP q.1 q.2 s.1 s.2) := by
  rcases h with rfl | h
  · exact .inl (addP_e1 _ _)
  · rcases k with rfl | k
    · exact .inl (addP_e2 _ _)
    · exact (add_gr (In.refl hq.1 hq.2 h) (In.refl hs.1 hs.2 k)).rt.1
theorem rt_mul {q s : Nat × Nat} (h : Rt q) (k : Rt s) (hq : W2 q) (hs : W2 s) : Rt (mulP q.1 q.2 s.1 s.2) := by
  rcases h with rfl | h
  · exact .inl (mulP_e1 _ _)
  · rcases k with rfl | k
    · exact .inl (mulP_e2 _ _)
    · exact (mul_gr2 (In.refl hq.1 hq.2 h) (In.refl hs.1 hs.2 k)).rt.1

theorem gr_add {p q r s : Nat × Nat} (h : Gr p q) (k : Gr r s) (hp : W2 p) (hq : W2 q) (hr : W2 r) (hs : W2 s) : Gr (addP p.1 p.2 r.1 r.2) (addP q.1 q.2 s.1 s.2) := by
  have R := rt_add h.rt.2 k.rt.2 hq hs
  rcases h with ⟨rfl, -⟩ | ⟨a, b, c, d⟩
  · rw [addP_e1]; exact .inl ⟨rfl, R⟩
  · rcases k with ⟨rfl, -⟩ | ⟨e, f, g, i⟩
    · rw [addP_e2]; exact .inl ⟨rfl, R⟩
    · exact add_gr ⟨a, b, c, d, hp.1, hp.2, hq.1, hq.2⟩ ⟨e, f, g, i, hr.1, hr.2, hs.1, hs.2⟩
theorem gr_mul {p q r s : Nat × Nat} (h : Gr p q) (k : Gr r s) (hp : W2 p) (hq : W2 q) (hr : W2 r) (hs : W2 s) : Gr (mulP p.1 p.2 r.1 r.2) (mulP q.1 q.2 s.1 s.2) := by
  have R := rt_mul h.rt.2 k.rt.2 hq hs
  rcases h with ⟨rfl, -⟩ | ⟨a, b, c, d⟩
  · rw [mulP_e1]; exact .inl ⟨rfl, R⟩
  · rcases k with ⟨rfl, -⟩ | ⟨e, f, g, i⟩
    · rw [mulP_e2]; exact .inl ⟨rfl, R⟩
    · exact mul_gr2 ⟨a, b, c, d, hp.1, hp.2, hq.1, hq.2⟩ ⟨e, f, g, i, hr.1, hr.2, hs.1, hs.2⟩

theorem zero_two : Some2 0 0 := hs_iff.1 (by decide)
theorem one_two : Some2 4607182418800017408 4607182418800017408 := hs_iff.1 (by decide)
theorem make_one : makeP 4607182418800017408 4607182418800017408 = (4607182418800017408, 4607182418800017408) := by decide

theorem dot_gr {n : Nat} {X Y U V : Nat → Nat × Nat} (hx : ∀ i, i < n → Gr (X i) (U i)) (hy : ∀ i, i < n → Gr (Y i) (V i)) (wx : ∀ i, i < n → W2 (X i)) (wy : ∀ i, i < n → W2 (Y i)) (wu : ∀ i, i < n → W2 (U i)) (wv : ∀ i, i < n → W2 (V i)) :
    Gr (dotP X Y n) (dotP U V n) := by
  induction n with
  | zero => exact gr_some zero_two zero_two (Int.le_refl _) (Int.le_refl _)
  | succ n ih =>
    have a := ih (fun i hi => hx i (by omega)) (fun i hi => hy i (by omega)) (fun i hi => wx i (by omega)) (fun i hi => wy i (by omega)) (fun i hi => wu i (by omega)) (fun i hi => wv i (by omega))
    have b := gr_mul (hx n (by omega)) (hy n (by omega)) (wx n (by omega)) (wu n (by omega)) (wy n (by omega)) (wv n (by omega))
    have l1 : W2 (dotP X Y n) := dotP_lt (fun i hi => wx i (by omega)) (fun i hi => wy i (by omega))
    have l2 : W2 (dotP U V n) := dotP_lt (fun i hi => wu i (by omega)) (fun i hi => wv i (by omega))
    have l3 : W2 (mulP (X n).1 (X n).2 (Y n).1 (Y n).2) := mulP_lt (wx n (by omega)).1 (wx n (by omega)).2 (wy n (by omega)).1 (wy n (by omega)).2
    have l4 : W2 (mulP (U n).1 (U n).2 (V n).1 (V n).2) := mulP_lt (wu n (by omega)).1 (wu n (by omega)).2 (wv n (by omega)).1 (wv n (by omega)).2
    exact gr_add a b l1 l2 l3 l4

/-- What is 0 is a place of its own. -/
theorem addR_zero {a : Nat} (ha : a < 18446744073709551616) (na : nanB a = false) (d : Int) : ∃ r, addR a 0 d = some r ∧ key r = key a := by
  by_cases f : finB a = true
  · refine ⟨_, addR_fin d f (by decide), ?_⟩
    exact add_exact ha (by omega) ha f (by decide) f (by rw [show key 0 = 0 by decide, show V 0 = 0 by decide]; omega) d
  · have f' : finB a = false := by simpa using f
    refine ⟨a, ?_, rfl⟩
    unfold addR
    rw [na, f', show nanB 0 = false by decide, show finB 0 = true by decide]
    rfl
theorem addR_zero2 {a : Nat} (ha : a < 18446744073709551616) (na : nanB a = false) (d : Int) : ∃ r, addR 0 a d = some r ∧ key r = key a := by
  by_cases f : finB a = true
  · refine ⟨_, addR_fin d (by decide) f, ?_⟩
    exact add_exact (by omega) ha ha (by decide) f f (by rw [show key 0 = 0 by decide, show V 0 = 0 by decide]; omega) d
  · have f' : finB a = false := by simpa using f
    refine ⟨a, ?_, rfl⟩
    unfold addR
    rw [na, f', show nanB 0 = false by decide, show finB 0 = true by decide]
    rfl

theorem gr_add0 {q : Nat × Nat} (S : Some2 q.1 q.2) (w : W2 q) : Gr q (addP q.1 q.2 0 0) ∧ Gr q (addP 0 0 q.1 q.2) := by
  obtain ⟨l, u, e1, e2, T, -, -⟩ := add_some w.1 w.2 (by omega) (by omega) S zero_two
  obtain ⟨l', u', e1', e2', T', -, -⟩ := add_some (by omega) (by omega) w.1 w.2 zero_two S
  have p1 : addP q.1 q.2 0 0 = (l, u) := by unfold addP; rw [hs_iff.2 S, hs_iff.2 zero_two, e1, e2]; rfl
  have p2 : addP 0 0 q.1 q.2 = (l', u') := by unfold addP; rw [hs_iff.2 S, hs_iff.2 zero_two, e1', e2']; rfl
  obtain ⟨r1, f1, k1⟩ := addR_zero w.1 S.nl (-1)
  obtain ⟨r2, f2, k2⟩ := addR_zero w.2 S.nh 1
  obtain ⟨r3, f3, k3⟩ := addR_zero2 w.1 S.nl (-1)
  obtain ⟨r4, f4, k4⟩ := addR_zero2 w.2 S.nh 1
  rw [f1] at e1
  rw [f2] at e2
  rw [f3] at e1'
  rw [f4] at e2'
  have g1 := Option.some.inj e1
  have g2 := Option.some.inj e2
  have g3 := Option.some.inj e1'
  have g4 := Option.some.inj e2'
  rw [p1, p2]
  subst g1 g2 g3 g4
  exact ⟨gr_some S T (by show key r1 ≤ _; omega) (by show _ ≤ key r2; omega), gr_some S T' (by show key r3 ≤ _; omega) (by show _ ≤ key r4; omega)⟩

theorem gr_mul0 {q : Nat × Nat} (S : Some2 q.1 q.2) (w : W2 q) : Gr (0, 0) (mulP 0 0 q.1 q.2) := by
  obtain ⟨A, k1, k2⟩ := mul_keys (xl := 0) (xh := 0) (by omega) (by omega) w.1 w.2 zero_two S
  have z : ∀ d, mulV 0 q.1 d = 0 := fun d => mulV_zl d (by decide) S.nl (by decide)
  have y : ∀ d, mulV 0 q.2 d = 0 := fun d => mulV_zl d (by decide) S.nh (by decide)
  unfold lowK at k1
  unfold topK at k2
  rw [z, y, show key 0 = 0 by decide] at k1 k2
  exact gr_some zero_two A (by rw [k1]; decide) (by rw [k2]; decide)

theorem mulV_one {a : Nat} (ha : a < 18446744073709551616) (na : nanB a = false) (d : Int) : key (mulV 4607182418800017408 a d) = key a := by
  by_cases f : finB a = true
  · obtain ⟨u, hu⟩ : ∃ u : Nat, u = 1073 := ⟨_, rfl⟩
    refine mul_exact hu (by omega) ha ha (by decide) f f ?_ d
    rw [one_val (u := u + 1) (by omega), Nat.pow_succ]
    push_cast
    generalize (2 : Int) ^ u = t
    rw [Int.mul_comm t 2, Int.mul_assoc, Int.mul_assoc, Int.mul_comm t]
  · have f' : finB a = false := by simpa using f
    rcases (key_inf ha na).1 f' with k | k
    · obtain rfl := (key_word ha).1 k
      (unfold mulV mulR; rfl)
    · obtain rfl := (key_word ha).2 k
      (unfold mulV mulR; rfl)

theorem gr_mul1 {q : Nat × Nat} (S : Some2 q.1 q.2) (w : W2 q) : Gr q (mulP 4607182418800017408 4607182418800017408 q.1 q.2) := by
  obtain ⟨A, k1, k2⟩ := mul_keys (xl := 4607182418800017408) (xh := 4607182418800017408) (by omega) (by omega) w.1 w.2 one_two S
  unfold lowK at k1
  unfold topK at k2
  rw [mulV_one w.1 S.nl, mulV_one w.2 S.nh] at k1 k2
  have := S.le
  exact gr_some S A (by rw [k1]; omega) (by rw [k2]; omega)

theorem oneP_same (i : Nat) : oneP i i = (4607182418800017408, 4607182418800017408) := by unfold oneP; rw [if_pos rfl, make_one]
theorem oneP_other {i k : Nat} (h : i ≠ k) : oneP i k = (0, 0) := by unfold oneP; rw [if_neg h]
theorem oneP_w (i k : Nat) : W2 (oneP i k) := by
  by_cases h : i = k
  · subst h; rw [oneP_same]; exact ⟨by show (_ : Nat) < _; omega, by show (_ : Nat) < _; omega⟩
  · rw [oneP_other h]; exact ⟨by show (0 : Nat) < _; omega, by show (0 : Nat) < _; omega⟩

/-- A row of the unit matrix finds its own place of a column that holds nothing empty. -/
theorem one_dot {M i : Nat} {Y : Nat → Nat × Nat} (hi : i < M) (hy : ∀ k, k < M → Some2 (Y k).1 (Y k).2) (wy : ∀ k, k < M → W2 (Y k)) : Gr (Y i) (dotP (oneP i) Y M) := by
  have z0 : W2 (0, 0) := ⟨by show (0 : Nat) < _; omega, by show (0 : Nat) < _; omega⟩
  have main : ∀ k, k ≤ M → (k ≤ i → Gr (0, 0) (dotP (oneP i) Y k)) ∧ (i < k → Gr (Y i) (dotP (oneP i) Y k)) := by
    intro k
    induction k with
    | zero => exact fun _ => ⟨fun _ => gr_some zero_two zero_two (Int.le_refl _) (Int.le_refl _), fun h => absurd h (by omega)⟩
    | succ k ih =>
      intro hk
      obtain ⟨a, b⟩ := ih (by omega)
      have l2 : W2 (dotP (oneP i) Y k) := dotP_lt (fun j _ => oneP_w i j) (fun j hj => wy j (by omega))
      have l4 : W2 (mulP (oneP i k).1 (oneP i k).2 (Y k).1 (Y k).2) := mulP_lt (oneP_w i k).1 (oneP_w i k).2 (wy k (by omega)).1 (wy k (by omega)).2
      refine ⟨fun h => ?_, fun h => ?_⟩
      · have m : Gr (0, 0) (mulP (oneP i k).1 (oneP i k).2 (Y k).1 (Y k).2) := by rw [oneP_other (by omega)]; exact gr_mul0 (hy k (by omega)) (wy k (by omega))
        have r := gr_add (a (by omega)) m z0 l2 z0 l4
        have e : addP 0 0 0 0 = (0, 0) := by decide
        rw [show addP (0, 0).1 (0, 0).2 (0, 0).1 (0, 0).2 = (0, 0) from e] at r
        exact r
      · by_cases e : i = k
        · subst e
          have m : Gr (Y i) (mulP (oneP i i).1 (oneP i i).2 (Y i).1 (Y i).2) := by rw [oneP_same]; exact gr_mul1 (hy i hi) (wy i hi)
          exact (gr_add0 (hy i hi) (wy i hi)).2.trans (gr_add (a (by omega)) m z0 l2 (wy i hi) l4)
        · have m : Gr (0, 0) (mulP (oneP i k).1 (oneP i k).2 (Y k).1 (Y k).2) := by rw [oneP_other e]; exact gr_mul0 (hy k (by omega)) (wy k (by omega))
          exact (gr_add0 (hy i hi) (wy i hi)).1.trans (gr_add (b (by omega)) m (wy i hi) l2 z0 l4)
  exact (main M (Nat.le_refl _)).2 hi

/-- The norm of the unit matrix. -/
theorem sum_one (r n : Nat) : sumP (oneP r) n = if r < n then 4607182418800017408 else 0 := by
  induction n with
  | zero => rfl
  | succ n ih =>
    show (addR (sumP (oneP r) n) (magP (oneP r n).1 (oneP r n).2) 1).getD 0 = _
    rw [ih]
    by_cases e : r = n
    · subst e
      rw [if_neg (by omega), if_pos (by omega), oneP_same]
      decide
    · rw [oneP_other e]
      by_cases h : r < n
      · rw [if_pos h, if_pos (by omega)]
        decide
      · rw [if_neg h, if_neg (by omega)]
        decide

theorem norm_one (N L : Nat) (h : N ≤ L) (h1 : 1 ≤ N) : normP (fun _ => L) oneP N = 4607182418800017408 := by
  have main : ∀ k, k ≤ N → normP (fun _ => L) oneP k = if k = 0 then 0 else 4607182418800017408 := by
    intro k
    induction k with
    | zero => exact fun _ => rfl
    | succ k ih =>
      intro hk
      show (if normP (fun _ => L) oneP k < sumP (oneP k) L then sumP (oneP k) L else normP (fun _ => L) oneP k) = _
      rw [ih (by omega), sum_one, if_pos (show k < L by omega), if_neg (show ¬ k + 1 = 0 by omega)]
      by_cases e : k = 0
      · rw [if_pos e, if_pos (by omega)]
      · rw [if_neg e, if_neg (by omega)]
  rw [main N (Nat.le_refl _), if_neg (by omega)]

/-- A point of an interval, or itself. -/
def pointP (x : Nat × Nat) : Nat × Nat := if hsB x.1 x.2 && hasB x.1 x.2 (midP x.1 x.2) then makeP (midP x.1 x.2) (midP x.1 x.2) else x

theorem right_rt {x : Nat × Nat} (w : W2 x) (h : rightB x.1 x.2 = true) : Rt x := by
  unfold rightB at h
  cases c : hsB x.1 x.2
  · rw [c, Bool.or_false, Bool.and_eq_true] at h
    obtain ⟨a, b⟩ := h
    unfold eqB at a b
    simp only [Bool.and_eq_true, Bool.not_eq_true', decide_eq_true_eq] at a b
    have k1 := a.2
    have k2 := b.2
    rw [key_up] at k1
    rw [key_down] at k2
    have e1 := (key_word w.1).1 k1
    have e2 := (key_word w.2).2 k2
    left
    have i1 : infI 1 = 9218868437227405312 := by decide
    have i2 : infI (-1) = 18442240474082181120 := by decide
    rw [i1, i2, ← e1, ← e2]
  · exact .inr (hs_iff.1 c)

theorem point_gr {x : Nat × Nat} (w : W2 x) (hm : midP x.1 x.2 < 18446744073709551616) (h : Rt x) : Gr (pointP x) x ∧ W2 (pointP x) := by
  unfold pointP
  cases c : (hsB x.1 x.2 && hasB x.1 x.2 (midP x.1 x.2))
  · exact ⟨by simpa using h.gr, by simpa using w⟩
  · rw [if_pos rfl]
    rw [Bool.and_eq_true] at c
    obtain ⟨S, i, nn, k1, k2⟩ := has_iff.1 c.2
    generalize midP x.1 x.2 = m at *
    have kf : -9218868437227405312 < key m ∧ key m < 9218868437227405312 := by
      have : finB m = true := by
        unfold infB at i; unfold nanB at nn; unfold finB
        simp at i nn
        simp
        omega
      have := fin_key hm this
      omega
    have T : Some2 (pz m) (pz m) := by
      refine ⟨?_, ?_, Int.le_refl _, ?_, ?_, pz_ne m, pz_ne m⟩
      · unfold pz; split
        · decide
        · exact nn
      · unfold pz; split
        · decide
        · exact nn
      · rw [key_pz]; omega
      · rw [key_pz]; omega
    have e : makeP m m = (pz m, pz m) := by unfold makeP; rw [hs_iff.2 T, if_pos rfl]
    rw [e]
    exact ⟨gr_some T S (by show _ ≤ key (pz m); rw [key_pz]; exact k1) (by show key (pz m) ≤ _; rw [key_pz]; exact k2), pz_lt hm, pz_lt hm⟩

end Go.Proofs.Ytddkojmdhckleaa
