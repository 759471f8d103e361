/- The walks of the reference's Same, Has, Inside and Strict: they answer as the program's. -/
import Derived.Test.YtmdhgaiklgmmpaaIh
namespace Go.Proofs.Ytmdhgaiklgmmpaa
open Go.ChangeShapes Go.WideShapes Go.ChangeAt Go.RowKit

theorem rsame_w (a b c d : Nat) (ha : a < 18446744073709551616) (hb : b < 18446744073709551616) (hc : c < 18446744073709551616) (hd : d < 18446744073709551616) (w : World) :
    Calls Try.prog 17 #[.agg #[.float .f64 a, .float .f64 b], .agg #[.float .f64 c, .float .f64 d]] w fun e w' => e = .returned (.bool (sameB a c && sameB b d)) ∧ Below w.heap.size w w' := by
  have s1 := fun w => same_w a c ha hc w
  have s2 := fun w => same_w b d hb hd w
  generalize sameB a c = b1 at *
  generalize sameB b d = b2 at *
  cases b1
  all_goals
    go_enter Try.func17, Try.ntmps17
    go_wp2_with (first
      | (go_at_call_of 60 (Value.float .f64 a); refine (s1 _).mono ?_; rintro _ _ ⟨rfl, rfl⟩)
      | (go_at_call_of 60 (Value.float .f64 b); refine (s2 _).mono ?_; rintro _ _ ⟨rfl, rfl⟩))
    go_ret
    exact ⟨rfl, by go_grown⟩

theorem has_eq {lo hi v : Nat} (hv : v < 18446744073709551616) : (hsB lo hi && leB lo v && leB v hi && !eqB v (infI 1) && !eqB v (infI (-1))) = hasB lo hi v := by
  unfold hasB
  cases hsB lo hi
  · rfl
  · cases n : nanB v
    · have e : infB v = (eqB v (infI 1) || eqB v (infI (-1))) := by
        unfold infB eqB
        rw [nan_inf, nan_inf, key_up, key_down, n]
        rw [Bool.eq_iff_iff]
        simp only [Bool.not_false, Bool.true_and, Bool.or_eq_true, decide_eq_true_eq]
        unfold key
        split <;> omega
      rw [e]
      cases leB lo v <;> cases leB v hi <;> cases eqB v (infI 1) <;> cases eqB v (infI (-1)) <;> rfl
    · have e1 : leB lo v = false := by unfold leB; rw [n]; simp
      rw [e1]; simp

set_option maxHeartbeats 400000 in
theorem rhas_w (lo hi v : Nat) (hl : lo < 18446744073709551616) (hh : hi < 18446744073709551616) (hv : v < 18446744073709551616) (w : World) :
    Calls Try.prog 26 #[.agg #[.float .f64 lo, .float .f64 hi], .float .f64 v] w fun e w' => e = .returned (.bool (hasB lo hi v)) ∧ Below w.heap.size w w' := by
  have c1 := fun w => none_w lo hi hl hh w
  have o1 := o_ge hv hl
  have o2 := o_le hv hh
  have o3 := o_eq hv (infI_lt 1)
  have o4 := o_eq hv (infI_lt (-1))
  rw [← has_eq hv]
  generalize hsB lo hi = b1 at *
  generalize leB lo v = b2 at *
  generalize leB v hi = b3 at *
  generalize eqB v (infI 1) = b4 at *
  generalize eqB v (infI (-1)) = b5 at *
  have p4 : (FloatKind.f64.format.order v (infI 1) != some .eq) = !b4 := by rw [← o3]; rfl
  have p5 : (FloatKind.f64.format.order v (infI (-1)) != some .eq) = !b5 := by rw [← o4]; rfl
  cases b1
  case' true => cases b2
  case' true.true => cases b3
  case' true.true.true => cases b4
  case' true.true.true.false => cases b5
  all_goals
    try simp only [Bool.not_true, Bool.not_false] at p4 p5
    go_enter Try.func26, Try.ntmps26
    go_wp2_with (first
     | (go_at_call 41; refine (c1 _).mono ?_; rintro _ w1 ⟨rfl, hb1⟩
        have s0 : w1.cell? ⟨w.heap.size, 0, none⟩ = some (.float .f64 lo) := (hb1.cell (by simp <;> omega)).trans (by go_simp)
        have s1 : w1.cell? ⟨w.heap.size, 1, none⟩ = some (.float .f64 hi) := (hb1.cell (by simp <;> omega)).trans (by go_simp))
     | (go_at_call 58; refine (rinf_w _ _).mono ?_; rintro _ _ ⟨rfl, rfl⟩))
    go_ret
    exact ⟨rfl, later (by go_grown) hb1⟩

set_option maxHeartbeats 800000 in
theorem rinside_w (xl xh yl yh : Nat) (h1 : xl < 18446744073709551616) (h2 : xh < 18446744073709551616) (h3 : yl < 18446744073709551616) (h4 : yh < 18446744073709551616) (w : World) :
    Calls Try.prog 28 #[.agg #[.float .f64 xl, .float .f64 xh], .agg #[.float .f64 yl, .float .f64 yh]] w fun e w' => e = .returned (.bool (insideB xl xh yl yh)) ∧ Below w.heap.size w w' := by
  have c1 := fun W => none_w xl xh h1 h2 W
  have c2 := fun W => none_w yl yh h3 h4 W
  have o1 := o_ge h1 h3
  have o2 := o_le h2 h4
  unfold insideB
  generalize hsB xl xh = b1 at *
  generalize hsB yl yh = b2 at *
  generalize leB yl xl = b3 at *
  generalize leB xh yh = b4 at *
  clear h1 h2 h3 h4
  cases b1
  · go_enter Try.func28, Try.ntmps28
    go_wp2_with (go_at_call 41; refine (c1 _).mono ?_; rintro _ w1 ⟨rfl, hb1⟩)
    go_ret
    exact ⟨rfl, later (by go_grown) hb1⟩
  case' true => cases b2
  case' true.true => cases b3
  case' true.true.true => cases b4
  all_goals
    go_enter Try.func28, Try.ntmps28
    go_upto_region 3 with
     (go_at_call 41; refine (c1 _).mono ?_; rintro _ w1 ⟨rfl, hb1⟩
      have s0 : w1.cell? ⟨w.heap.size, 0, none⟩ = some (.float .f64 xl) := (hb1.cell (by simp <;> omega)).trans (by go_simp)
      have s1 : w1.cell? ⟨w.heap.size, 1, none⟩ = some (.float .f64 xh) := (hb1.cell (by simp <;> omega)).trans (by go_simp)
      have s2 : w1.cell? ⟨w.heap.size + 1, 0, none⟩ = some (.float .f64 yl) := (hb1.cell (by simp <;> omega)).trans (by go_simp)
      have s3 : w1.cell? ⟨w.heap.size + 1, 1, none⟩ = some (.float .f64 yh) := (hb1.cell (by simp <;> omega)).trans (by go_simp)
      have hz : w.heap.size + 1 < w1.heap.size := by have := hb1.size; simp only [World.size_alloc] at this; omega
      have hB : Below w.heap.size w w1 := later (by go_grown) hb1)
    go_wp2_with
     (go_at_call 41; refine (c2 _).mono ?_; rintro _ w2 ⟨rfl, hb2⟩
      have t0 : w2.cell? ⟨w.heap.size, 0, none⟩ = some (.float .f64 xl) := keepsC hb2 s0 (by omega)
      have t1 : w2.cell? ⟨w.heap.size, 1, none⟩ = some (.float .f64 xh) := keepsC hb2 s1 (by omega)
      have t2 : w2.cell? ⟨w.heap.size + 1, 0, none⟩ = some (.float .f64 yl) := keepsC hb2 s2 (by omega)
      have t3 : w2.cell? ⟨w.heap.size + 1, 1, none⟩ = some (.float .f64 yh) := keepsC hb2 s3 (by omega))
    go_ret
    exact ⟨rfl, later hB hb2⟩

theorem room_eq {x y : Nat} (hx : x < 18446744073709551616) (hy : y < 18446744073709551616) (nx : nanB x = false) (ny : nanB y = false) :
    (eqB y (infI (-1)) || ltB y x) = roomB x y ∧ (eqB y (infI 1) || ltB x y) = roomB (negB x) (negB y) := by
  unfold roomB eqB ltB
  rw [nan_inf, nan_inf, nanB_negB hx, nanB_negB hy, key_negB hx, key_negB hy, key_up, key_down, nx, ny]
  have e1 := key_word hy
  have e2 : y = 18442240474082181120 → key y = -9218868437227405312 := by rintro rfl; rfl
  have e3 : negB y = 18442240474082181120 ↔ y = 9218868437227405312 := by unfold negB; split <;> omega
  have e4 : y = 9218868437227405312 → key y = 9218868437227405312 := by rintro rfl; rfl
  simp only [Bool.not_false, Bool.true_and, e3]
  constructor
  · rw [Bool.eq_iff_iff]; simp only [Bool.or_eq_true, decide_eq_true_eq]
    constructor
    · rintro (h | h)
      · exact Or.inl (e1.2 h)
      · exact Or.inr h
    · rintro (h | h)
      · exact Or.inl (e2 h)
      · exact Or.inr h
  · rw [Bool.eq_iff_iff]; simp only [Bool.or_eq_true, decide_eq_true_eq]
    constructor
    · rintro (h | h)
      · exact Or.inl (e1.1 h)
      · exact Or.inr (by omega)
    · rintro (h | h)
      · exact Or.inl (e4 h)
      · exact Or.inr (by omega)

end Go.Proofs.Ytmdhgaiklgmmpaa
