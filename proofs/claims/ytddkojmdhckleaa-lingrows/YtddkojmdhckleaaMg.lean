/- Sums of products grow with what they are made of; a unit matrix changes nothing; its norm is 1; points of intervals. LinGrows: its closure, and the column that holds nothing. LinGrows: the law's walk. -/
import Derived.Test.YtddkojmdhckleaaKi
import Derived.Test.YtddkojmdhckleaaLx
import Derived.Test.YtddkojmdhckleaaLk
namespace Go.Proofs.Ytddkojmdhckleaa
open Go.ChangeShapes Go.WideShapes Go.ChangeAt Go.RowKit

def W2 (q : Nat × Nat) : Prop := q.1 < 18446744073709551616 ∧ q.2 < 18446744073709551616
/-- It may be. -/
def Rt (q : Nat × Nat) : Prop := q = (infI 1, infI (-1)) ∨ Some2 q.1 q.2

theorem Gr.rt {p q : Nat × Nat} (h : Gr p q) : Rt p ∧ Rt q := by
  rcases h with ⟨a, b⟩ | ⟨a, b, -⟩
  · exact ⟨.inl a, b⟩
  · exact ⟨.inr a, .inr b⟩

theorem Rt.gr {q : Nat × Nat} (h : Rt q) : Gr q q := by
  rcases h with rfl | h
  · exact gr_empty
  · exact gr_some h h (Int.le_refl _) (Int.le_refl _)

theorem Gr.trans {p q r : Nat × Nat} (h : Gr p q) (k : Gr q r) : Gr p r := by
  rcases h with ⟨a, b⟩ | ⟨a, b, c, d⟩
  · exact .inl ⟨a, k.rt.2⟩
  · rcases k with ⟨e, -⟩ | ⟨-, f, g, i⟩
    · rw [e] at b
      have := hs_iff.2 b
      rw [empty_some] at this
      cases this
    · exact gr_some a f (by omega) (by omega)

theorem addP_e1 (a b : Nat) : addP (infI 1) (infI (-1)) a b = (infI 1, infI (-1)) := by
  unfold addP; rw [empty_some, Bool.false_and]; rfl
theorem addP_e2 (a b : Nat) : addP a b (infI 1) (infI (-1)) = (infI 1, infI (-1)) := by
  unfold addP; rw [empty_some, Bool.and_false]; rfl
theorem mulP_e1 (a b : Nat) : mulP (infI 1) (infI (-1)) a b = (infI 1, infI (-1)) := by
  unfold mulP; rw [empty_some, Bool.false_and]; rfl
theorem mulP_e2 (a b : Nat) : mulP a b (infI 1) (infI (-1)) = (infI 1, infI (-1)) := by
  unfold mulP; rw [empty_some, Bool.and_false]; rfl

theorem mul_gr2 {xl xh ul uh yl yh vl vh : Nat} (X : In xl xh ul uh) (Y : In yl yh vl vh) : Gr (mulP xl xh yl yh) (mulP ul uh vl vh) := by
  obtain ⟨A, k1, k2⟩ := mul_keys X.a1 X.a2 Y.a1 Y.a2 X.S Y.S
  obtain ⟨A', k3, k4⟩ := mul_keys X.b1 X.b2 Y.b1 Y.b2 X.T Y.T
  refine gr_some A A' ?_ ?_
  · rw [k1, k3]
    have a := low_grows X.b1 X.b2 X.a1 X.a2 Y.a1 Y.a2 X.T.nl X.T.nh X.S.nl X.S.nh Y.S.nl Y.S.nh X.kl X.S.le X.kh
    have b := low_grows Y.b1 Y.b2 Y.a1 Y.a2 X.b1 X.b2 Y.T.nl Y.T.nh Y.S.nl Y.S.nh X.T.nl X.T.nh Y.kl Y.S.le Y.kh
    rw [lowK_comm yl yh, lowK_comm vl vh] at b
    exact Int.le_trans b a
  · rw [k2, k4]
    have a := top_grows X.b1 X.b2 X.a1 X.a2 Y.a1 Y.a2 X.T.nl X.T.nh X.S.nl X.S.nh Y.S.nl Y.S.nh X.kl X.S.le X.kh
    have b := top_grows Y.b1 Y.b2 Y.a1 Y.a2 X.b1 X.b2 Y.T.nl Y.T.nh Y.S.nl Y.S.nh X.T.nl X.T.nh Y.kl Y.S.le Y.kh
    rw [topK_comm yl yh, topK_comm vl vh] at b
    exact Int.le_trans a b

theorem rt_add {q s : Nat × Nat} (h : Rt q) (k : Rt s) (hq : W2 q) (hs : W2 s) : Rt (addP q.1 q.2 s.1 s.2) := by
  rcases h with rfl | h
  · exact .inl (addP_e1 _ _)
  · rcases k with rfl | k
    · exact .inl (addP_e2 _ _)
    · exact (add_gr (In.refl hq.1 hq.2 h) (In.refl hs.1 hs.2 k)).rt.1
theorem rt_mul {q s : Nat × Nat} (h : Rt q) (k : Rt s) (hq : W2 q) (hs : W2 s) : Rt (mulP q.1 q.2 s.1 s.2) := by
  rcases h with rfl | h
  · exact .inl (mulP_e1 _ _)
  · rcases k with rfl | k
    · exact .inl (mulP_e2 _ _)
    · exact (mul_gr2 (In.refl hq.1 hq.2 h) (In.refl hs.1 hs.2 k)).rt.1

theorem gr_add {p q r s : Nat × Nat} (h : Gr p q) (k : Gr r s) (hp : W2 p) (hq : W2 q) (hr : W2 r) (hs : W2 s) : Gr (addP p.1 p.2 r.1 r.2) (addP q.1 q.2 s.1 s.2) := by
  have R := rt_add h.rt.2 k.rt.2 hq hs
  rcases h with ⟨rfl, -⟩ | ⟨a, b, c, d⟩
  · rw [addP_e1]; exact .inl ⟨rfl, R⟩
  · rcases k with ⟨rfl, -⟩ | ⟨e, f, g, i⟩
    · rw [addP_e2]; exact .inl ⟨rfl, R⟩
    · exact add_gr ⟨a, b, c, d, hp.1, hp.2, hq.1, hq.2⟩ ⟨e, f, g, i, hr.1, hr.2, hs.1, hs.2⟩
theorem gr_mul {p q r s : Nat × Nat} (h : Gr p q) (k : Gr r s) (hp : W2 p) (hq : W2 q) (hr : W2 r) (hs : W2 s) : Gr (mulP p.1 p.2 r.1 r.2) (mulP q.1 q.2 s.1 s.2) := by
  have R := rt_mul h.rt.2 k.rt.2 hq hs
  rcases h with ⟨rfl, -⟩ | ⟨a, b, c, d⟩
  · rw [mulP_e1]; exact .inl ⟨rfl, R⟩
  · rcases k with ⟨rfl, -⟩ | ⟨e, f, g, i⟩
    · rw [mulP_e2]; exact .inl ⟨rfl, R⟩
    · exact mul_gr2 ⟨a, b, c, d, hp.1, hp.2, hq.1, hq.2⟩ ⟨e, f, g, i, hr.1, hr.2, hs.1, hs.2⟩

theorem zero_two : Some2 0 0 := hs_iff.1 (by decide)
theorem one_two : Some2 4607182418800017408 4607182418800017408 := hs_iff.1 (by decide)
theorem make_one : makeP 4607182418800017408 4607182418800017408 = (4607182418800017408, 4607182418800017408) := by decide

theorem dot_gr {n : Nat} {X Y U V : Nat → Nat × Nat} (hx : ∀ i, i < n → Gr (X i) (U i)) (hy : ∀ i, i < n → Gr (Y i) (V i)) (wx : ∀ i, i < n → W2 (X i)) (wy : ∀ i, i < n → W2 (Y i)) (wu : ∀ i, i < n → W2 (U i)) (wv : ∀ i, i < n → W2 (V i)) :
    Gr (dotP X Y n) (dotP U V n) := by
  induction n with
  | zero => exact gr_some zero_two zero_two (Int.le_refl _) (Int.le_refl _)
  | succ n ih =>
    have a := ih (fun i hi => hx i (by omega)) (fun i hi => hy i (by omega)) (fun i hi => wx i (by omega)) (fun i hi => wy i (by omega)) (fun i hi => wu i (by omega)) (fun i hi => wv i (by omega))
    have b := gr_mul (hx n (by omega)) (hy n (by omega)) (wx n (by omega)) (wu n (by omega)) (wy n (by omega)) (wv n (by omega))
    have l1 : W2 (dotP X Y n) := dotP_lt (fun i hi => wx i (by omega)) (fun i hi => wy i (by omega))
    have l2 : W2 (dotP U V n) := dotP_lt (fun i hi => wu i (by omega)) (fun i hi => wv i (by omega))
    have l3 : W2 (mulP (X n).1 (X n).2 (Y n).1 (Y n).2) := mulP_lt (wx n (by omega)).1 (wx n (by omega)).2 (wy n (by omega)).1 (wy n (by omega)).2
    have l4 : W2 (mulP (U n).1 (U n).2 (V n).1 (V n).2) := mulP_lt (wu n (by omega)).1 (wu n (by omega)).2 (wv n (by omega)).1 (wv n (by omega)).2
    exact gr_add a b l1 l2 l3 l4

/-- What is 0 is a place of its own. -/
theorem addR_zero {a : Nat} (ha : a < 18446744073709551616) (na : nanB a = false) (d : Int) : ∃ r, addR a 0 d = some r ∧ key r = key a := by
  by_cases f : finB a = true
  · refine ⟨_, addR_fin d f (by decide), ?_⟩
    exact add_exact ha (by omega) ha f (by decide) f (by rw [show key 0 = 0 by decide, show V 0 = 0 by decide]; omega) d
  · have f' : finB a = false := by simpa using f
    refine ⟨a, ?_, rfl⟩
    unfold addR
    rw [na, f', show nanB 0 = false by decide, show finB 0 = true by decide]
    rfl
theorem addR_zero2 {a : Nat} (ha : a < 18446744073709551616) (na : nanB a = false) (d : Int) : ∃ r, addR 0 a d = some r ∧ key r = key a := by
  by_cases f : finB a = true
  · refine ⟨_, addR_fin d (by decide) f, ?_⟩
    exact add_exact (by omega) ha ha (by decide) f f (by rw [show key 0 = 0 by decide, show V 0 = 0 by decide]; omega) d
  · have f' : finB a = false := by simpa using f
    refine ⟨a, ?_, rfl⟩
    unfold addR
    rw [na, f', show nanB 0 = false by decide, show finB 0 = true by decide]
    rfl

theorem gr_add0 {q : Nat × Nat} (S : Some2 q.1 q.2) (w : W2 q) : Gr q (addP q.1 q.2 0 0) ∧ Gr q (addP 0 0 q.1 q.2) := by
  obtain ⟨l, u, e1, e2, T, -, -⟩ := add_some w.1 w.2 (by omega) (by omega) S zero_two
  obtain ⟨l', u', e1', e2', T', -, -⟩ := add_some (by omega) (by omega) w.1 w.2 zero_two S
  have p1 : addP q.1 q.2 0 0 = (l, u) := by unfold addP; rw [hs_iff.2 S, hs_iff.2 zero_two, e1, e2]; rfl
  have p2 : addP 0 0 q.1 q.2 = (l', u') := by unfold addP; rw [hs_iff.2 S, hs_iff.2 zero_two, e1', e2']; rfl
  obtain ⟨r1, f1, k1⟩ := addR_zero w.1 S.nl (-1)
  obtain ⟨r2, f2, k2⟩ := addR_zero w.2 S.nh 1
  obtain ⟨r3, f3, k3⟩ := addR_zero2 w.1 S.nl (-1)
  obtain ⟨r4, f4, k4⟩ := addR_zero2 w.2 S.nh 1
  rw [f1] at e1
  rw [f2] at e2
  rw [f3] at e1'
  rw [f4] at e2'
  have g1 := Option.some.inj e1
  have g2 := Option.some.inj e2
  have g3 := Option.some.inj e1'
  have g4 := Option.some.inj e2'
  rw [p1, p2]
  subst g1 g2 g3 g4
  exact ⟨gr_some S T (by show key r1 ≤ _; omega) (by show _ ≤ key r2; omega), gr_some S T' (by show key r3 ≤ _; omega) (by show _ ≤ key r4; omega)⟩

theorem gr_mul0 {q : Nat × Nat} (S : Some2 q.1 q.2) (w : W2 q) : Gr (0, 0) (mulP 0 0 q.1 q.2) := by
  obtain ⟨A, k1, k2⟩ := mul_keys (xl := 0) (xh := 0) (by omega) (by omega) w.1 w.2 zero_two S
  have z : ∀ d, mulV 0 q.1 d = 0 := fun d => mulV_zl d (by decide) S.nl (by decide)
  have y : ∀ d, mulV 0 q.2 d = 0 := fun d => mulV_zl d (by decide) S.nh (by decide)
  unfold lowK at k1
  unfold topK at k2
  rw [z, y, show key 0 = 0 by decide] at k1 k2
  exact gr_some zero_two A (by rw [k1]; decide) (by rw [k2]; decide)

theorem mulV_one {a : Nat} (ha : a < 18446744073709551616) (na : nanB a = false) (d : Int) : key (mulV 4607182418800017408 a d) = key a := by
  by_cases f : finB a = true
  · obtain ⟨u, hu⟩ : ∃ u : Nat, u = 1073 := ⟨_, rfl⟩
    refine mul_exact hu (by omega) ha ha (by decide) f f ?_ d
    rw [one_val (u := u + 1) (by omega), Nat.pow_succ]
    push_cast
    generalize (2 : Int) ^ u = t
    rw [Int.mul_comm t 2, Int.mul_assoc, Int.mul_assoc, Int.mul_comm t]
  · have f' : finB a = false := by simpa using f
    rcases (key_inf ha na).1 f' with k | k
    · obtain rfl := (key_word ha).1 k
      (unfold mulV mulR; rfl)
    · obtain rfl := (key_word ha).2 k
      (unfold mulV mulR; rfl)

theorem gr_mul1 {q : Nat × Nat} (S : Some2 q.1 q.2) (w : W2 q) : Gr q (mulP 4607182418800017408 4607182418800017408 q.1 q.2) := by
  obtain ⟨A, k1, k2⟩ := mul_keys (xl := 4607182418800017408) (xh := 4607182418800017408) (by omega) (by omega) w.1 w.2 one_two S
  unfold lowK at k1
  unfold topK at k2
  rw [mulV_one w.1 S.nl, mulV_one w.2 S.nh] at k1 k2
  have := S.le
  exact gr_some S A (by rw [k1]; omega) (by rw [k2]; omega)

theorem oneP_same (i : Nat) : oneP i i = (4607182418800017408, 4607182418800017408) := by unfold oneP; rw [if_pos rfl, make_one]
theorem oneP_other {i k : Nat} (h : i ≠ k) : oneP i k = (0, 0) := by unfold oneP; rw [if_neg h]
theorem oneP_w (i k : Nat) : W2 (oneP i k) := by
  by_cases h : i = k
  · subst h; rw [oneP_same]; exact ⟨by show (_ : Nat) < _; omega, by show (_ : Nat) < _; omega⟩
  · rw [oneP_other h]; exact ⟨by show (0 : Nat) < _; omega, by show (0 : Nat) < _; omega⟩

/-- A row of the unit matrix finds its own place of a column that holds nothing empty. -/
theorem one_dot {M i : Nat} {Y : Nat → Nat × Nat} (hi : i < M) (hy : ∀ k, k < M → Some2 (Y k).1 (Y k).2) (wy : ∀ k, k < M → W2 (Y k)) : Gr (Y i) (dotP (oneP i) Y M) := by
  have z0 : W2 (0, 0) := ⟨by show (0 : Nat) < _; omega, by show (0 : Nat) < _; omega⟩
  have main : ∀ k, k ≤ M → (k ≤ i → Gr (0, 0) (dotP (oneP i) Y k)) ∧ (i < k → Gr (Y i) (dotP (oneP i) Y k)) := by
    intro k
    induction k with
    | zero => exact fun _ => ⟨fun _ => gr_some zero_two zero_two (Int.le_refl _) (Int.le_refl _), fun h => absurd h (by omega)⟩
    | succ k ih =>
      intro hk
      obtain ⟨a, b⟩ := ih (by omega)
      have l2 : W2 (dotP (oneP i) Y k) := dotP_lt (fun j _ => oneP_w i j) (fun j hj => wy j (by omega))
      have l4 : W2 (mulP (oneP i k).1 (oneP i k).2 (Y k).1 (Y k).2) := mulP_lt (oneP_w i k).1 (oneP_w i k).2 (wy k (by omega)).1 (wy k (by omega)).2
      refine ⟨fun h => ?_, fun h => ?_⟩
      · have m : Gr (0, 0) (mulP (oneP i k).1 (oneP i k).2 (Y k).1 (Y k).2) := by rw [oneP_other (by omega)]; exact gr_mul0 (hy k (by omega)) (wy k (by omega))
        have r := gr_add (a (by omega)) m z0 l2 z0 l4
        have e : addP 0 0 0 0 = (0, 0) := by decide
        rw [show addP (0, 0).1 (0, 0).2 (0, 0).1 (0, 0).2 = (0, 0) from e] at r
        exact r
      · by_cases e : i = k
        · subst e
          have m : Gr (Y i) (mulP (oneP i i).1 (oneP i i).2 (Y i).1 (Y i).2) := by rw [oneP_same]; exact gr_mul1 (hy i hi) (wy i hi)
          exact (gr_add0 (hy i hi) (wy i hi)).2.trans (gr_add (a (by omega)) m z0 l2 (wy i hi) l4)
        · have m : Gr (0, 0) (mulP (oneP i k).1 (oneP i k).2 (Y k).1 (Y k).2) := by rw [oneP_other e]; exact gr_mul0 (hy k (by omega)) (wy k (by omega))
          exact (gr_add0 (hy i hi) (wy i hi)).1.trans (gr_add (b (by omega)) m (wy i hi) l2 z0 l4)
  exact (main M (Nat.le_refl _)).2 hi

/-- The norm of the unit matrix. -/
theorem sum_one (r n : Nat) : sumP (oneP r) n = if r < n then 4607182418800017408 else 0 := by
  induction n with
  | zero => rfl
  | succ n ih =>
    show (addR (sumP (oneP r) n) (magP (oneP r n).1 (oneP r n).2) 1).getD 0 = _
    rw [ih]
    by_cases e : r = n
    · subst e
      rw [if_neg (by omega), if_pos (by omega), oneP_same]
      decide
    · rw [oneP_other e]
      by_cases h : r < n
      · rw [if_pos h, if_pos (by omega)]
        decide
      · rw [if_neg h, if_neg (by omega)]
        decide

theorem norm_one (N L : Nat) (h : N ≤ L) (h1 : 1 ≤ N) : normP (fun _ => L) oneP N = 4607182418800017408 := by
  have main : ∀ k, k ≤ N → normP (fun _ => L) oneP k = if k = 0 then 0 else 4607182418800017408 := by
    intro k
    induction k with
    | zero => exact fun _ => rfl
    | succ k ih =>
      intro hk
      show (if normP (fun _ => L) oneP k < sumP (oneP k) L then sumP (oneP k) L else normP (fun _ => L) oneP k) = _
      rw [ih (by omega), sum_one, if_pos (show k < L by omega), if_neg (show ¬ k + 1 = 0 by omega)]
      by_cases e : k = 0
      · rw [if_pos e, if_pos (by omega)]
      · rw [if_neg e, if_neg (by omega)]
  rw [main N (Nat.le_refl _), if_neg (by omega)]

/-- A point of an interval, or itself. -/
def pointP (x : Nat × Nat) : Nat × Nat := if hsB x.1 x.2 && hasB x.1 x.2 (midP x.1 x.2) then makeP (midP x.1 x.2) (midP x.1 x.2) else x

theorem right_rt {x : Nat × Nat} (w : W2 x) (h : rightB x.1 x.2 = true) : Rt x := by
  unfold rightB at h
  cases c : hsB x.1 x.2
  · rw [c, Bool.or_false, Bool.and_eq_true] at h
    obtain ⟨a, b⟩ := h
    unfold eqB at a b
    simp only [Bool.and_eq_true, Bool.not_eq_true', decide_eq_true_eq] at a b
    have k1 := a.2
    have k2 := b.2
    rw [key_up] at k1
    rw [key_down] at k2
    have e1 := (key_word w.1).1 k1
    have e2 := (key_word w.2).2 k2
    left
    have i1 : infI 1 = 9218868437227405312 := by decide
    have i2 : infI (-1) = 18442240474082181120 := by decide
    rw [i1, i2, ← e1, ← e2]
  · exact .inr (hs_iff.1 c)

theorem point_gr {x : Nat × Nat} (w : W2 x) (hm : midP x.1 x.2 < 18446744073709551616) (h : Rt x) : Gr (pointP x) x ∧ W2 (pointP x) := by
  unfold pointP
  cases c : (hsB x.1 x.2 && hasB x.1 x.2 (midP x.1 x.2))
  · exact ⟨by simpa using h.gr, by simpa using w⟩
  · rw [if_pos rfl]
    rw [Bool.and_eq_true] at c
    obtain ⟨S, i, nn, k1, k2⟩ := has_iff.1 c.2
    generalize midP x.1 x.2 = m at *
    have kf : -9218868437227405312 < key m ∧ key m < 9218868437227405312 := by
      have : finB m = true := by
        unfold infB at i; unfold nanB at nn; unfold finB
        simp at i nn
        simp
        omega
      have := fin_key hm this
      omega
    have T : Some2 (pz m) (pz m) := by
      refine ⟨?_, ?_, Int.le_refl _, ?_, ?_, pz_ne m, pz_ne m⟩
      · unfold pz; split
        · decide
        · exact nn
      · unfold pz; split
        · decide
        · exact nn
      · rw [key_pz]; omega
      · rw [key_pz]; omega
    have e : makeP m m = (pz m, pz m) := by unfold makeP; rw [hs_iff.2 T, if_pos rfl]
    rw [e]
    exact ⟨gr_some T S (by show _ ≤ key (pz m); rw [key_pz]; exact k1) (by show key (pz m) ≤ _; rw [key_pz]; exact k2), pz_lt hm, pz_lt hm⟩

theorem midP_lt {lo hi : Nat} (hl : lo < 18446744073709551616) (hh : hi < 18446744073709551616) : midP lo hi < 18446744073709551616 := by
  unfold midP
  cases h : hsB lo hi
  · rw [if_neg (by simp)]; omega
  · rw [if_pos rfl]
    have E := mid_ends hl hh (hs_iff.1 h)
    have A := midM_facts lo hi
    split
    · exact E.2.2.2.2.1
    · split
      · exact E.2.2.2.2.2.1
      · exact A.2.2

theorem point_core (lo hi c : Nat) (p : Nat × Nat) (b1 b2 : Bool)
    (cm : ∀ w, Calls Try.prog 25 #[.agg #[.float .f64 lo, .float .f64 hi]] w fun e w' => e = .returned (.float .f64 c) ∧ Below w.heap.size w w')
    (cn : ∀ w, Calls Try.prog 26 #[.agg #[.float .f64 lo, .float .f64 hi]] w fun e w' => e = .returned (.bool b1) ∧ Below w.heap.size w w')
    (ch : ∀ w, Calls Try.prog 27 #[.agg #[.float .f64 lo, .float .f64 hi], .float .f64 c] w fun e w' => e = .returned (.bool b2) ∧ Below w.heap.size w w')
    (ck : ∀ w, Calls Try.prog 28 #[.float .f64 c, .float .f64 c] w fun e w' => e = .returned (.agg #[.float .f64 p.1, .float .f64 p.2]) ∧ Below w.heap.size w w') (w : World) :
    Calls Try.prog 24 #[.agg #[.float .f64 lo, .float .f64 hi]] w fun e w' => e = .returned (.agg #[.float .f64 (if !b1 && b2 then p else (lo, hi)).1, .float .f64 (if !b1 && b2 then p else (lo, hi)).2]) ∧ Below w.heap.size w w' := by
  have X : Has2 ((w.alloc (.cells #[.float .f64 lo, .float .f64 hi] 26)).alloc (.cells #[.float .f64 0, .float .f64 0] 26)) w.heap.size (.float .f64 lo) (.float .f64 hi) := (has2_new _ _ _ _).alloc _
  have R : Has2 ((w.alloc (.cells #[.float .f64 lo, .float .f64 hi] 26)).alloc (.cells #[.float .f64 0, .float .f64 0] 26)) (w.heap.size + 1) (.float .f64 0) (.float .f64 0) := has2_new1 _ _ _ _ _
  have HB : Below w.heap.size w ((w.alloc (.cells #[.float .f64 lo, .float .f64 hi] 26)).alloc (.cells #[.float .f64 0, .float .f64 0] 26)) := below_alloc (below_alloc (Below.refl _ _) _) _
  cases b1
  case' false => cases b2
  all_goals
    go_enter Try.func24, Try.ntmps24
    go_wp2_with fail
    generalize (w.alloc (.cells #[.float .f64 lo, .float .f64 hi] 26)).alloc (.cells #[.float .f64 0, .float .f64 0] 26) = V0 at *
    obtain ⟨x0, x1, x2, x3, x4⟩ := id X
    obtain ⟨r0, r1, r2, r3, r4⟩ := id R
    go_wp2_with (first
      | (go_at_call 25; with_reducible refine (cm _).mono ?_; rintro _ w1 ⟨rfl, hb1⟩; replace X := X.keep hb1; replace R := R.keep hb1; replace HB := later HB hb1; clear hb1; clear x0 x1 x2 x3 x4 r0 r1 r2 r3 r4
         obtain ⟨x0, x1, x2, x3, x4⟩ := id X
         obtain ⟨r0, r1, r2, r3, r4⟩ := id R)
      | (go_at_call 26; with_reducible refine (cn _).mono ?_; rintro _ w1 ⟨rfl, hb1⟩; replace X := X.keep hb1; replace R := R.keep hb1; replace HB := later HB hb1; clear hb1; clear x0 x1 x2 x3 x4 r0 r1 r2 r3 r4
         obtain ⟨x0, x1, x2, x3, x4⟩ := id X
         obtain ⟨r0, r1, r2, r3, r4⟩ := id R)
      | (go_at_call 27; with_reducible refine (ch _).mono ?_; rintro _ w1 ⟨rfl, hb1⟩; replace X := X.keep hb1; replace R := R.keep hb1; replace HB := later HB hb1; clear hb1; clear x0 x1 x2 x3 x4 r0 r1 r2 r3 r4
         obtain ⟨x0, x1, x2, x3, x4⟩ := id X
         obtain ⟨r0, r1, r2, r3, r4⟩ := id R)
      | (go_at_call 28; with_reducible refine (ck _).mono ?_; rintro _ w1 ⟨rfl, hb1⟩; replace X := X.keep hb1; replace R := R.keep hb1; replace HB := later HB hb1; clear hb1; clear x0 x1 x2 x3 x4 r0 r1 r2 r3 r4
         obtain ⟨x0, x1, x2, x3, x4⟩ := id X
         obtain ⟨r0, r1, r2, r3, r4⟩ := id R))
    first
      | refine bodyPost_ret (v := .agg #[.float .f64 lo, .float .f64 hi]) (by simp [results, Try.results24, go_sem, *]) rfl ⟨rfl, ?_⟩
      | refine bodyPost_ret (v := .agg #[.float .f64 p.1, .float .f64 p.2]) (by simp [results, Try.results24, go_sem, *]) rfl ⟨rfl, ?_⟩
    repeat' (first | (with_reducible exact HB) | (with_reducible refine Below.setCell ?_ ?_ _) | omega | go_size)

theorem point_c (x : Nat × Nat) (hx : W2 x) (w : World) :
    Calls Try.prog 24 #[.agg #[.float .f64 x.1, .float .f64 x.2]] w fun e w' => e = .returned (.agg #[.float .f64 (pointP x).1, .float .f64 (pointP x).2]) ∧ Below w.heap.size w w' := by
  have h := point_core x.1 x.2 (midP x.1 x.2) (makeP (midP x.1 x.2) (midP x.1 x.2)) _ _ (fun w => rMid_w x.1 x.2 hx.1 hx.2 w) (fun w => none_w x.1 x.2 hx.1 hx.2 w) (fun w => rhas_w x.1 x.2 (midP x.1 x.2) hx.1 hx.2 (midP_lt hx.1 hx.2) w) (fun w => rmake_w _ _ (midP_lt hx.1 hx.2) (midP_lt hx.1 hx.2) w) w
  have e : pointP x = (if (!!hsB x.1 x.2) && hasB x.1 x.2 (midP x.1 x.2) then makeP (midP x.1 x.2) (midP x.1 x.2) else (x.1, x.2)) := by
    unfold pointP
    rw [Bool.not_not]
  rw [e]
  exact h

/-- Does a column hold an empty interval? -/
def hollowB (N : Nat) (X : Nat → Nat → Nat × Nat) (j : Nat) : Bool := !(List.range N).all fun r => hsB (X r j).1 (X r j).2

set_option maxHeartbeats 2000000 in
theorem hollow_w (A : Option Addr) (N C j : Nat) (RA : Nat → Option Addr) (RL RC : Nat → Nat) (X : Nat → Nat → Nat × Nat) (hN : N ≤ 9223372036854775807) (hj : ∀ r, r < N → j < RL r) (w : World) (V : Rws w A N RA RL RC X) :
    Calls Try.prog 30 #[.slice A N C, .int .i64 (j : Int)] w fun e w' => e = .returned (.bool (hollowB N X j)) ∧ Below w.heap.size w w' := by
  have HJ : Hid (∀ r, r < N → j < RL r) := hj
  have hd : Hid (hollowB N X j = !(List.range N).all fun r => hsB (X r j).1 (X r j).2) := Eq.refl _
  clear hj
  go_enter Try.func30, Try.ntmps30
  go_wp2_with fail
  go_loopg [9] N (fun G s9 wx => Below w.heap.size w wx ∧ ∃ r : Nat, r + G = N ∧ s9 = .int .i64 (r : Int) ∧ Hid (∀ q, q < r → hsB (X q j).1 (X q j).2 = true))
  case atStart => exact ⟨Below.refl _ _, 0, by omega, rfl, fun q hq => absurd hq (by omega)⟩
  case round =>
    obtain ⟨HB, r, hr, rfl, hall⟩ := hrel
    by_cases cr : r = N
    · subst cr
      have ee : Hid (hollowB r X j = false) := Eq.trans hd (congrArg (fun q => !q) (all_upto.2 hall))
      clear hd
      go_wp2_with fail
      go_ret
      exact ⟨congrArg (fun q => Ending.returned (Value.bool q)) (Eq.symm ee), HB⟩
    · have hlt : (r : Int) < (N : Int) := by omega
      obtain ⟨b, o, hA, hb, x0, l0, I⟩ := (V.keep HB) r (by omega)
      have hjr : (j : Int) < (RL r : Int) := by have := HJ r (by omega); omega
      obtain ⟨b', o', hA', hb', z0, z1, y0, y1⟩ := I j (by omega)
      have c := fun w => none_w (X r j).1 (X r j).2 y0 y1 w
      have hcase : hsB (X r j).1 (X r j).2 = true ∨ hsB (X r j).1 (X r j).2 = false := by cases hsB (X r j).1 (X r j).2 <;> simp
      clear l0 I HJ V
      generalize RA r = P at *
      generalize RL r = L at *
      generalize RC r = Q at *
      subst hA hA'
      rcases hcase with hq | hq
      · rw [hq] at c
        replace hq : Hid _ := hq
        go_wp2_with (go_at_call 26; with_reducible refine (c _).mono ?_; rintro _ w1 ⟨rfl, hb1⟩; replace HB := later (by first | exact HB | exact below_alloc HB _) hb1)
        go_roundg (N - r - 1)
        case measure => omega
        case rel => exact ⟨HB, r + 1, by omega, by go_num, fun q hq' => by rcases Nat.lt_or_ge q r with h | h; exact hall q h; rw [show q = r by omega]; exact hq⟩
      · rw [hq] at c
        have ee : Hid (hollowB N X j = true) := Eq.trans hd (congrArg (fun q => !q) (all_not (i := r) (by omega) hq))
        clear hd hq
        go_wp2_with (go_at_call 26; with_reducible refine (c _).mono ?_; rintro _ w1 ⟨rfl, hb1⟩; replace HB := later (by first | exact HB | exact below_alloc HB _) hb1)
        go_ret
        exact ⟨congrArg (fun q => Ending.returned (Value.bool q)) (Eq.symm ee), HB⟩

def thinZ (X : Nat → Nat → Nat × Nat) (r c : Nat) : Nat × Nat := pointP (X r c)

theorem pt_all {x : Nat × Nat} (w : W2 x) (h : rightB x.1 x.2 = true) : Gr (pointP x) x ∧ W2 (pointP x) := point_gr w (midP_lt w.1 w.2) (right_rt w h)

theorem vec_of {k : Nat} {Z : Nat → Nat × Nat} (h0 : 0 < k) (hk : k ≤ 24) (h : ∀ c, c < k → rightB (Z c).1 (Z c).2 = true) : vecB k Z = true := by
  unfold vecB
  rw [all_upto.2 h, Bool.true_and]
  exact dim_yes h0 hk

theorem mat_of {N k : Nat} {Z : Nat → Nat → Nat × Nat} (n0 : 0 < N) (hN : N ≤ 24) (h0 : 0 < k) (hk : k ≤ 24) (h : ∀ r, r < N → ∀ c, c < k → rightB (Z r c).1 (Z r c).2 = true) : matB N (fun _ => k) Z = true := by
  have e : matB N (fun _ => k) Z = dimB N := matB_all fun j hj => by rw [vec_of h0 hk (h j hj)]; simp
  rw [e]
  exact dim_yes n0 hN

theorem one_right (r c : Nat) : rightB (oneP r c).1 (oneP r c).2 = true := by
  by_cases h : r = c
  · subst h; rw [oneP_same]; decide
  · rw [oneP_other h]; decide

/-- A row of points that was made, as it lies in memory. -/
theorem ivs_of {B k : Nat} {w : World} {v : Value} {Z : Nat → Nat × Nat} (h : OwnI B w v (rowZ (fun _ => Z) 0 k)) (hz : ∀ c, c < k → W2 (Z c)) : ∃ A C, v = .slice A k C ∧ Ivs w A k Z := by
  obtain ⟨A, C, e, J⟩ := ownI_ivs h (fun p hp => by
    simp only [rowZ, List.mem_map, List.mem_range] at hp
    obtain ⟨t, ht, rfl⟩ := hp
    exact hz t ht)
  rw [rowZ_len] at e J
  refine ⟨A, C, e, fun i hi => ?_⟩
  have e : (rowZ (fun _ => Z) 0 k).getD i (0, 0) = Z i := rowZ_at (fun _ => Z) 0 k i hi
  rw [← e]
  exact J i hi

set_option maxHeartbeats 8000000 in
set_option maxRecDepth 100000 in
theorem linGrows_good (A E : Option Addr) (N C k F : Nat) (RA : Nat → Option Addr) (RL RC : Nat → Nat) (X : Nat → Nat → Nat × Nat) (Y : Nat → Nat × Nat) (w : World)
    (h0 : 0 < N) (hN : N ≤ 24) (hk0 : 0 < k) (hk : k ≤ 24) (hR : ∀ r, r < N → RL r = k) (qX : ∀ r, r < N → ∀ c, c < k → W2 (X r c) ∧ rightB (X r c).1 (X r c).2 = true) (qY : ∀ c, c < k → W2 (Y c) ∧ rightB (Y c).1 (Y c).2 = true) (UA : Rws w A N RA RL RC X) (UE : Ivs w E k Y)
    (cmm : ∀ w2, Below w.heap.size w w2 → Calls Try.prog 37 #[.slice A N C] w2 fun e w' => e = .returned (.bool true) ∧ Below w2.heap.size w2 w')
    (cvv : ∀ w2, Below w.heap.size w w2 → Calls Try.prog 31 #[.slice E k F] w2 fun e w' => e = .returned (.bool true) ∧ Below w2.heap.size w2 w')
    (c3 : ∀ w2, Below w.heap.size w w2 → Calls Try.prog 12 #[.slice A N C] w2 fun e w' => e = .returned (.bool true) ∧ Below w2.heap.size w2 w')
    (c1 : ∀ w2, Below w.heap.size w w2 → Calls Try.prog 8 #[.slice E k F] w2 fun e w' => e = .returned (.bool true) ∧ Below w2.heap.size w2 w') :
    Calls Try.prog 5 #[.slice A N C, .slice E k F] w fun e w' => e = .returned (.bool true) ∧ Below w.heap.size w w' := by
  have HB : Below w.heap.size w w := Below.refl _ _
  have HR : Hid (∀ r, r < N → RL r = k) := hR
  have QX : Hid (∀ r, r < N → ∀ c, c < k → W2 (X r c) ∧ rightB (X r c).1 (X r c).2 = true) := qX
  have QY : Hid (∀ c, c < k → W2 (Y c) ∧ rightB (Y c).1 (Y c).2 = true) := qY
  clear hR qX qY
  obtain ⟨b, o, hA, hb, x0, l0, -⟩ := UA 0 h0
  rw [HR 0 h0, Nat.add_zero] at x0
  have hlt0 : (0 : Int) < (N : Int) := by omega
  subst hA
  go_enter Try.func5, Try.ntmps5
  go_wp2_with (first
    | (go_at_call 12; with_reducible refine (c3 _ HB).mono ?_; rintro _ w1 ⟨rfl, hb1⟩; replace x0 := keepsC hb1 x0 hb; replace hb := Nat.lt_of_lt_of_le hb hb1.size; replace HB := later HB hb1; clear hb1)
    | (go_at_call 8; with_reducible refine (c1 _ HB).mono ?_; rintro _ w2 ⟨rfl, hb1⟩; replace x0 := keepsC hb1 x0 hb; replace hb := Nat.lt_of_lt_of_le hb hb1.size; replace HB := later HB hb1; clear hb1))
  have HC : Hid (∀ x, W2 x → ∀ w, Calls Try.prog 24 #[.agg #[.float .f64 x.1, .float .f64 x.2]] w fun e w' => e = .returned (.agg #[.float .f64 (pointP x).1, .float .f64 (pointP x).2]) ∧ Below w.heap.size w w') := fun x hx w => point_c x hx w
  have VA := UA.keep HB
  have E0 : OwnR w2.heap.size w2 (.slice none 0 0) [] := World.ownsRow_nil _ _ _ _
  go_loopg [6, 44] N (fun G s6 s44 wx => Below w2.heap.size w2 wx ∧ w2.heap.size ≤ wx.heap.size ∧ ∃ (i : Nat) (vs : List Value), i + G = N ∧ s44 = .int .i64 (i : Int) ∧ OwnR w2.heap.size wx s6 vs ∧ RowG w2.heap.size wx (thinZ X) k i vs)
  case atStart => exact ⟨Below.refl _ _, Nat.le_refl _, 0, [], by omega, rfl, E0, rfl, fun r hr => absurd hr (by omega)⟩
  case round =>
    clear E0
    obtain ⟨HW, hSz, i, vs, hi, rfl, hown, hrow⟩ := hrel
    by_cases ci : i = N
    · subst ci
      clear VA
      have HB0 := later HB HW
      have VE := UE.keep HB0
      have QT : Hid (∀ r, r < i → ∀ c, c < k → Gr (thinZ X r c) (X r c) ∧ W2 (thinZ X r c)) := fun r hr c hc => pt_all (QX r hr c hc).1 (QX r hr c hc).2
      have QW : Hid (∀ c, c < k → Gr (pointP (Y c)) (Y c) ∧ W2 (pointP (Y c))) := fun c hc => pt_all (QY c hc).1 (QY c hc).2
      obtain ⟨TA, TC, TRA, TRC, eT, T⟩ := hrow.rws hown (by omega) (fun r hr c hc => (QT r hr c hc).2)
      subst eT
      clear hown hrow HW hSz
      obtain ⟨w4, rfl⟩ : ∃ w4, w4 = wr := ⟨_, rfl⟩
      have E1 : OwnI w4.heap.size w4 (.slice none 0 0) [] := World.ownsRow_nil _ _ _ _
      go_wp2_with fail
      go_loopg [12, 68] k (fun G s12 s68 wy => Below w4.heap.size w4 wy ∧ w4.heap.size ≤ wy.heap.size ∧ ∃ j : Nat, j + G = k ∧ s68 = .int .i64 (j : Int) ∧ OwnI w4.heap.size wy s12 (rowZ (fun _ c => pointP (Y c)) 0 j))
      case atStart => exact ⟨Below.refl _ _, Nat.le_refl _, 0, by omega, rfl, E1⟩
      case round =>
        clear E1
        obtain ⟨HY, hSy, j, hj, rfl, hownI⟩ := hrel
        by_cases cj : j = k
        · subst cj
          obtain ⟨WA, WC, eW, U⟩ := ivs_of hownI (fun c hc => (QW c hc).2)
          subst eW
          replace T := T.keep HY
          have HBW := later HB0 HY
          clear hownI HY hSy VE HB0 x0 hb l0 c3 c1
          have cA : ∀ w2, Below w.heap.size w w2 → Calls Try.prog 11 #[.slice (some ⟨b, o, none⟩) i C, .slice E j F] w2 fun e w' => ∃ g, e = .returned (.tuple #[.slice (some ⟨g, 0, none⟩) i i, .int .i64 0]) ∧ Img w' g i (fun r => dotP (X r) Y j) ∧ Below w2.heap.size w2 w' := fun w2 q =>
            apply_good (some ⟨b, o, none⟩) E i C j F RA RL RC X Y hN h0 hk HR w2 (UA.keep q) (UE.keep q) (fun w3 q3 => cmm w3 (later q q3)) (fun w3 q3 => cvv w3 (later q q3))
          have cT : ∀ w2, Below wr.heap.size wr w2 → Calls Try.prog 11 #[.slice TA i TC, .slice WA j WC] w2 fun e w' => ∃ g, e = .returned (.tuple #[.slice (some ⟨g, 0, none⟩) i i, .int .i64 0]) ∧ Img w' g i (fun r => dotP (thinZ X r) (fun c => pointP (Y c)) j) ∧ Below w2.heap.size w2 w' := fun w2 q =>
            apply_good TA WA i TC j WC TRA (fun _ => j) TRC (thinZ X) (fun c => pointP (Y c)) hN h0 hk (fun _ _ => rfl) w2 (T.keep q) (U.keep q)
              (fun w3 q3 => by have := matMay_w TA i TC TRA (fun _ => j) TRC (thinZ X) (by omega) w3 (T.keep (later q q3)); rw [mat_of h0 hN hk0 hk (fun r hr c hc => (QT r hr c hc).1.told.2.1)] at this; exact this)
              (fun w3 q3 => by have := vecMay_w WA j WC (fun c => pointP (Y c)) (by omega) w3 (U.keep (later q q3)); rw [vec_of hk0 hk (fun c hc => (QW c hc).1.told.2.1)] at this; exact this)
          have cO := fun w => One_rws i h0 hN w
          have cM : ∀ OA OC OSA OSC w2, Rws w2 OA i OSA (fun _ => i) OSC oneP → Below w.heap.size w w2 → Calls Try.prog 15 #[.slice OA i OC, .slice (some ⟨b, o, none⟩) i C] w2 fun e w' => ∃ g h, e = .returned (.tuple #[.slice (some ⟨g, 0, none⟩) i i, .int .i64 0]) ∧ Grd w' g i j h (prodI oneP X i) ∧ Below w2.heap.size w2 w' := fun OA OC OSA OSC w2 O q =>
            Mul_good OA (some ⟨b, o, none⟩) i i j OC C OSA RA (fun _ => i) OSC RL RC oneP X hN h0 hN h0 hk (fun _ _ => rfl) HR w2 O (UA.keep q)
              (fun w3 q3 => by have := matMay_w OA i OC OSA (fun _ => i) OSC oneP (by omega) w3 (O.keep q3); rw [mat_of h0 hN h0 hN (fun r _ c _ => one_right r c)] at this; exact this)
              (fun w3 q3 => cmm w3 (later q q3))
          have cN : ∀ OA OC OSA OSC w2, Rws w2 OA i OSA (fun _ => i) OSC oneP → Calls Try.prog 18 #[.slice OA i OC] w2 fun e w' => e = .returned (.tuple #[.float .f64 4607182418800017408, .int .i64 0]) ∧ Below w2.heap.size w2 w' := fun OA OC OSA OSC w2 O => by
            have := Norm_w OA i OC OSA (fun _ => i) OSC oneP (by omega) w2 O
            rw [mat_of h0 hN h0 hN (fun r _ c _ => one_right r c), if_pos rfl, if_pos rfl, norm_one i i (Nat.le_refl _) h0] at this
            exact this
          have oo : (FloatKind.f64.format.order 4607182418800017408 4607182418800017408 != some .eq) = false := by decide
          have HW := Below.refl wr.heap.size wr
          clear cmm cvv UE
          go_wp2_with (first
            | (go_at_call_of 11 (Value.slice (some ⟨b, o, none⟩) i C); with_reducible refine (cA _ HBW).mono ?_; rintro _ wA ⟨gA, rfl, IA, hb1⟩; replace HBW := later HBW hb1; replace HW := later HW hb1; clear hb1 cA)
            | (go_at_call 11; with_reducible refine (cT _ HW).mono ?_; rintro _ wB ⟨gB, rfl, IB, hb1⟩; replace IA := IA.keep hb1; replace HBW := later HBW hb1; clear hb1 cT HW)
            | (go_at_call 20; with_reducible refine (cO _).mono ?_; rintro _ wC ⟨OA, OC, OSA, OSC, rfl, JO, hb1⟩; replace IA := IA.keep hb1; replace IB := IB.keep hb1; replace HBW := later HBW hb1; (try replace GM := GM.keep hb1); clear hb1)
            | (go_at_call 15; with_reducible refine (cM _ _ _ _ _ JO HBW).mono ?_; rintro _ wD ⟨gM, hM, rfl, GM, hb1⟩; replace IA := IA.keep hb1; replace IB := IB.keep hb1; replace HBW := later HBW hb1; clear hb1 JO cM)
            | (go_at_call 18; with_reducible refine (cN _ _ _ _ _ JO).mono ?_; rintro _ wE ⟨rfl, hb1⟩; replace IA := IA.keep hb1; replace IB := IB.keep hb1; replace HBW := later HBW hb1; replace GM := GM.keep hb1; clear hb1 JO cN))
          have FI : Hid (∀ p, p < i → insideB (dotP (thinZ X p) (fun c => pointP (Y c)) j).1 (dotP (thinZ X p) (fun c => pointP (Y c)) j).2 (dotP (X p) Y j).1 (dotP (X p) Y j).2 = true) := fun p hp =>
            (dot_gr (fun c hc => (QT p hp c hc).1) (fun c hc => (QW c hc).1) (fun c hc => (QT p hp c hc).2) (fun c hc => (QW c hc).2) (fun c hc => (QX p hp c hc).1) (fun c hc => (QY c hc).1)).told.1
          have FA : Hid (∀ p, p < i → W2 (dotP (X p) Y j)) := fun p hp => dotP_lt (fun c hc => (QX p hp c hc).1) (fun c hc => (QY c hc).1)
          have FB : Hid (∀ p, p < i → W2 (dotP (thinZ X p) (fun c => pointP (Y c)) j)) := fun p hp => dotP_lt (fun c hc => (QT p hp c hc).2) (fun c hc => (QW c hc).2)
          have FP : Hid (∀ p, p < i → ∀ q, q < j → W2 (prodI oneP X i p q)) := fun p _ q hq => dotP_lt (fun s _ => oneP_w p s) (fun s hs => (QX s hs q hq).1)
          have FM : Hid (∀ p, p < i → ∀ q, q < j → hollowB i X q = false → insideB (X p q).1 (X p q).2 (prodI oneP X i p q).1 (prodI oneP X i p q).2 = true) := fun p hp q hq hh => by
            have al : (List.range i).all (fun r => hsB (X r q).1 (X r q).2) = true := by
              unfold hollowB at hh
              simpa using hh
            exact (one_dot (Y := fun s => X s q) hp (fun s hs => hs_iff.1 (all_upto.1 al s hs)) (fun s hs => (QX s hs q hq).1)).told.1
          have RM := GM.rws (by omega) FP
          have UM := UA.keep HBW
          have FV : Hid (∀ p, p < i → vecB j (X p) = true) := fun p hp => vec_of hk0 hk (fun c hc => (QX p hp c hc).2)
          clear QT QW QX QY T U UA HC GM h0
          go_loopg [140] i (fun G s140 wx => Below wE.heap.size wE wx ∧ ∃ p : Nat, p + G = i ∧ s140 = .int .i64 (p : Int))
          case atStart => exact ⟨Below.refl _ _, 0, by omega, rfl⟩
          case round =>
            obtain ⟨HX, p, hp, rfl⟩ := hrel
            by_cases cp : p = i
            · subst cp
              go_wp2_with fail
              go_ret
              exact ⟨rfl, later HBW HX⟩
            · have hltp : (p : Int) < (i : Int) := by omega
              have hpi : p < i := by omega
              obtain ⟨-, aa⟩ := IA.keep HX
              obtain ⟨a0, a1, -, -⟩ := aa p hpi
              have aS : gA < wr.heap.size := (IA.keep HX).1
              obtain ⟨-, bb⟩ := IB.keep HX
              obtain ⟨b0, b1, -, -⟩ := bb p hpi
              have bS : gB < wr.heap.size := (IB.keep HX).1
              have cI := fun w => rinside_w _ _ _ _ (FB p hpi).1 (FB p hpi).2 (FA p hpi).1 (FA p hpi).2 w
              rw [FI p hpi] at cI
              clear aa bb
              dsimp only at a0 a1 b0 b1
              generalize dotP (X p) Y j = dA at a0 a1 cI
              generalize dotP (thinZ X p) (fun c => pointP (Y c)) j = dB at b0 b1 cI
              go_wp2_with fail
              have ka0 := fun n : Behind wr => n.cell a0 aS
              have ka1 := fun n : Behind wr => n.cell a1 aS
              have kb0 := fun n : Behind wr => n.cell b0 bS
              have kb1 := fun n : Behind wr => n.cell b1 bS
              refine region_behind (by kernel_rfl) (by kernel_rfl) ?_
              repeat (go_big_quiet_step (first | (go_at_call 29; with_reducible refine Behind.call (cI _))))
              refine wpQuiet_nil ?_
              rintro _ ⟨n, rfl⟩
              obtain ⟨W, hb1⟩ := n
              dsimp only
              replace HX := later HX hb1
              clear ka0 ka1 kb0 kb1 a0 a1 b0 b1 aS bS cI hb1
              obtain ⟨b', o', hA', hb', y0, l0', I⟩ := (UM.keep HX) p hpi
              rw [HR p hpi] at y0 I
              clear l0'
              obtain ⟨rfl, rfl⟩ : b = b' ∧ o = o' := by
                simp only [Option.some.injEq, Addr.mk.injEq] at hA'
                exact ⟨hA'.1, hA'.2.1⟩
              obtain ⟨P, hP⟩ : ∃ P, P = RA p := ⟨_, rfl⟩
              obtain ⟨Q, hQ⟩ : ∃ Q, Q = RC p := ⟨_, rfl⟩
              rw [← hP] at I
              rw [← hP, ← hQ] at y0
              clear hP hQ
              obtain ⟨W0, rfl⟩ : ∃ W0, W0 = W := ⟨_, rfl⟩
              go_wp2_with fail
              go_loopg [158] j (fun G s158 wy => Below W0.heap.size W0 wy ∧ ∃ q : Nat, q + G = j ∧ s158 = .int .i64 (q : Int))
              case atStart => exact ⟨Below.refl _ _, 0, by omega, rfl⟩
              case round =>
                obtain ⟨HQ, q, hq, rfl⟩ := hrel
                by_cases cq : q = j
                · subst cq
                  go_wp2_with fail
                  go_roundg (i - p - 1)
                  case measure => omega
                  case rel => exact ⟨later HX HQ, p + 1, by omega, by go_num⟩
                · have hltq : (q : Int) < (j : Int) := by omega
                  have hqj : q < j := by omega
                  replace y0 := keepsC HQ y0 hb'
                  replace hb' := Nat.lt_of_lt_of_le hb' HQ.size
                  replace I := I.keep HQ
                  replace HX := later HX HQ
                  obtain ⟨b2, o2, hA2, hb2, z0, z1, k0, k1⟩ := I q hqj
                  obtain ⟨b3, o3, hA3, hb3, t0, -, J⟩ := (RM.keep HX) p hpi
                  obtain ⟨b4, o4, hA4, hb4, u0, u1, m0, m1⟩ := J q hqj
                  obtain ⟨rfl, rfl⟩ : gM = b3 ∧ 0 = o3 := by
                    simp only [Option.some.injEq, Addr.mk.injEq] at hA3
                    exact ⟨hA3.1, hA3.2.1⟩
                  obtain ⟨rfl, rfl⟩ : hM p = b4 ∧ 0 = o4 := by
                    simp only [Option.some.injEq, Addr.mk.injEq] at hA4
                    exact ⟨hA4.1, hA4.2.1⟩
                  have cV : ∀ n : Behind wr, Calls Try.prog 8 #[.slice P j Q] n.W fun e w' => e = .returned (.bool true) ∧ Below n.W.heap.size n.W w' := fun n => by
                    have := rvec_w P j Q (X p) (by omega) n.W (I.keep n.bel)
                    rw [FV p hpi] at this
                    exact this
                  have cH : ∀ n : Behind wr, Calls Try.prog 30 #[.slice (some ⟨b, o, none⟩) i C, .int .i64 (q : Int)] n.W fun e w' => e = .returned (.bool (hollowB i X q)) ∧ Below n.W.heap.size n.W w' := fun n =>
                    hollow_w (some ⟨b, o, none⟩) i C q RA RL RC X (by omega) (fun r hr => by rw [HR r hr]; exact hqj) n.W (UM.keep (later HX n.bel))
                  have cI := fun w => rinside_w (X p q).1 (X p q).2 (prodI oneP X i p q).1 (prodI oneP X i p q).2 k0 k1 m0 m1 w
                  have hc : hollowB i X q = true ∨ hollowB i X q = false := by cases hollowB i X q <;> simp
                  have FQ : Hid (hollowB i X q = false → insideB (X p q).1 (X p q).2 (prodI oneP X i p q).1 (prodI oneP X i p q).2 = true) := FM p hpi q hqj
                  dsimp only at t0
                  rw [Nat.zero_add] at t0 u0 u1
                  clear FI FA FB FP FM FV I J
                  clear hA3 hA4
                  subst hA2
                  generalize prodI oneP X i p q = pr at *
                  have ky := fun n : Behind wr => n.cell y0 hb'
                  have kz0 := fun n : Behind wr => n.cell z0 hb2
                  have kz1 := fun n : Behind wr => n.cell z1 hb2
                  have kt := fun n : Behind wr => n.cell t0 hb3
                  have ku0 := fun n : Behind wr => n.cell u0 hb4
                  have ku1 := fun n : Behind wr => n.cell u1 hb4
                  rcases hc with hc | hc
                  · rw [hc] at cH
                    clear FQ hc
                    go_wp2_with fail
                    refine region_behind (by kernel_rfl) (by kernel_rfl) ?_
                    repeat (go_big_quiet_step (first | (go_at_call 8; with_reducible refine Behind.call (cV _)) | (go_at_call 30; with_reducible refine Behind.call (cH _)) | (go_at_call 29; with_reducible refine Behind.call (cI _))))
                    refine wpQuiet_nil ?_
                    rintro _ ⟨n, rfl⟩
                    obtain ⟨W, hb1⟩ := n
                    dsimp only
                    go_wp2_with fail
                    go_roundg (j - q - 1)
                    case measure => omega
                    case rel => exact ⟨later HQ hb1, q + 1, by omega, by go_num⟩
                  · rw [hc] at cH
                    rw [FQ hc] at cI
                    clear FQ hc
                    go_wp2_with fail
                    refine region_behind (by kernel_rfl) (by kernel_rfl) ?_
                    repeat (go_big_quiet_step (first | (go_at_call 8; with_reducible refine Behind.call (cV _)) | (go_at_call 30; with_reducible refine Behind.call (cH _)) | (go_at_call 29; with_reducible refine Behind.call (cI _))))
                    refine wpQuiet_nil ?_
                    rintro _ ⟨n, rfl⟩
                    obtain ⟨W, hb1⟩ := n
                    dsimp only
                    go_wp2_with fail
                    go_roundg (j - q - 1)
                    case measure => omega
                    case rel => exact ⟨later HQ hb1, q + 1, by omega, by go_num⟩
        · have hltj : (j : Int) < (k : Int) := by omega
          have hlen : (rowZ (fun _ c => pointP (Y c)) 0 j).length ≤ 2000000 := by rw [rowZ_len]; omega
          obtain ⟨b2, o2, hA2, hb2, z0, z1, k0, k1⟩ := (VE.keep HY) j (by omega)
          have cm : ∀ w, Calls Try.prog 24 #[.agg #[.float .f64 (Y j).1, .float .f64 (Y j).2]] w fun e w' => e = .returned (.agg #[.float .f64 (pointP (Y j)).1, .float .f64 (pointP (Y j)).2]) ∧ Below w.heap.size w w' := HC (Y j) ⟨k0, k1⟩
          subst hA2
          go_wp2_with (first
            | (go_at_call 24; refine (cm _).mono ?_; rintro _ w3 ⟨rfl, hb1⟩; replace hownI := OwnI.keep (hownI.alloc _) hb1; replace HY := later (below_alloc HY _) hb1; have hS1 := HY.size)
            | (at_builtin; refine wpList_pushI (by rfl) _ _ (by rfl) _ (rowZ (fun _ c => pointP (Y c)) 0 j) (pointP (Y j)).1 (pointP (Y j)).2 (by rfl) (by rfl) hownI hlen hS1 HY ?_; intro v' w' hown' hB' hS'))
          go_roundg (k - j - 1)
          case measure => omega
          case rel => exact ⟨hB', hS', j + 1, by omega, by go_num, by rw [rowZ_step]; exact hown'⟩
    · have hlti : (i : Int) < (N : Int) := by omega
      obtain ⟨b', o', hA', hb', y0, l0', I⟩ := (VA.keep HW) i (by omega)
      rw [HR i (by omega)] at y0 I
      clear l0'
      obtain ⟨rfl, rfl⟩ : b = b' ∧ o = o' := by
        simp only [Option.some.injEq, Addr.mk.injEq] at hA'
        exact ⟨hA'.1, hA'.2.1⟩
      generalize RA i = P at *
      obtain ⟨w1, rfl⟩ : ∃ w1, w1 = wr := ⟨_, rfl⟩
      have E1 : OwnI w1.heap.size w1 (.slice none 0 0) [] := World.ownsRow_nil _ _ _ _
      go_wp2_with fail
      go_loopg [9, 50] k (fun G s9 s50 wy => Below w1.heap.size w1 wy ∧ w1.heap.size ≤ wy.heap.size ∧ ∃ j : Nat, j + G = k ∧ s50 = .int .i64 (j : Int) ∧ OwnI w1.heap.size wy s9 (rowZ (thinZ X) i j))
      case atStart => exact ⟨Below.refl _ _, Nat.le_refl _, 0, by omega, rfl, E1⟩
      case round =>
        clear E1
        obtain ⟨HY, hSy, j, hj, rfl, hownI⟩ := hrel
        by_cases cj : j = k
        · subst cj
          obtain ⟨A', C', hv⟩ := hownI.form
          rw [rowZ_len] at hv
          subst hv
          have hlen : vs.length ≤ 2000000 := by rw [hrow.1]; omega
          have hownR := hown.keep HY
          have hrow1 := hrow.keep fun u xs q => q.keep HY
          have HB1 := later HW HY
          have hS1 := HB1.size
          go_wp2_with (at_builtin; refine wpList_pushR (by rfl) _ _ (by rfl) _ vs A' j C' (by rfl) (by rfl) hownR hlen hS1 HB1 ?_; intro v' w' hown' hB' hS' hkeep)
          go_roundg (N - i - 1)
          case measure => omega
          case rel => exact ⟨hB', hS', i + 1, _, by omega, by go_num, hown', (hrow1.keep hkeep).push (hkeep _ _ (hownI.base hSz))⟩
        · have hltj : (j : Int) < (k : Int) := by omega
          have hlen : (rowZ (thinZ X) i j).length ≤ 2000000 := by rw [rowZ_len]; omega
          obtain ⟨b2, o2, hA2, hb2, z0, z1, k0, k1⟩ := (I.keep HY) j (by omega)
          have cm : ∀ w, Calls Try.prog 24 #[.agg #[.float .f64 (X i j).1, .float .f64 (X i j).2]] w fun e w' => e = .returned (.agg #[.float .f64 (thinZ X i j).1, .float .f64 (thinZ X i j).2]) ∧ Below w.heap.size w w' := HC (X i j) ⟨k0, k1⟩
          subst hA2
          go_wp2_with (first
            | (go_at_call 24; refine (cm _).mono ?_; rintro _ w3 ⟨rfl, hb1⟩; replace hownI := OwnI.keep (hownI.alloc _) hb1; replace HY := later (below_alloc HY _) hb1; have hS1 := HY.size)
            | (at_builtin; refine wpList_pushI (by rfl) _ _ (by rfl) _ (rowZ (thinZ X) i j) (thinZ X i j).1 (thinZ X i j).2 (by rfl) (by rfl) hownI hlen hS1 HY ?_; intro v' w' hown' hB' hS'))
          go_roundg (k - j - 1)
          case measure => omega
          case rel => exact ⟨hB', hS', j + 1, by omega, by go_num, by rw [rowZ_step]; exact hown'⟩

end Go.Proofs.Ytddkojmdhckleaa
