/- The walks of the reference's small functions on intervals: what may be, what holds nothing. The walks of the reference's Right, None, Make, Has, Inside, Strict, Same: they answer as the program's. The walks of the reference's Same, Has, Inside and Strict: they answer as the program's. -/
import Derived.Test.YtfhccdpdjadepaaIf
namespace Go.Proofs.Ytfhccdpdjadepaa
open Go.ChangeShapes Go.WideShapes Go.ChangeAt Go.RowKit

theorem rinf_w (s : Int) (w : World) : Calls Try.prog 28 #[.int .i64 s] w fun e w' => e = .returned (.float .f64 (infI s)) ∧ w = w' := by
  go_enter Try.func28, Try.ntmps28
  go_wp2_with (go_at_call 35; refine (inf_w _ _).mono ?_; rintro _ _ ⟨rfl, rfl⟩)
  all_goals (go_ret; exact ⟨rfl, rfl⟩)
theorem rinf_q (s : Int) (w : World) : Calls Try.prog 28 #[.int .i64 s] w fun e w' => e = .returned (.float .f64 (infI s)) ∧ w' = w := turn (rinf_w s w)

theorem minus0_w (x : Nat) (hx : x < 18446744073709551616) (w : World) : Calls Try.prog 29 #[.float .f64 x] w fun e w' => e = .returned (.bool (mz x)) ∧ w = w' := by
  rcases cases0 x hx with ⟨hn, ho, hc⟩ | ⟨hn, ho, hc⟩ | ⟨hn, ho, hc⟩ | ⟨hn, ho, hc⟩
  · have e : mz x = false := by unfold mz; simp; omega
    rw [e]
    go_enter Try.func29, Try.ntmps29
    go_wp2
    all_goals (go_ret; exact ⟨rfl, rfl⟩)
  · have e : mz x = ((x : Int) != 0) := by
      unfold mz
      rw [Bool.eq_iff_iff]; simp only [decide_eq_true_eq, bne_iff_ne, ne_eq]; omega
    rw [e]
    go_enter Try.func29, Try.ntmps29
    go_wp2
    all_goals (go_ret; exact ⟨rfl, rfl⟩)
  · have e : mz x = false := by unfold mz; simp; omega
    rw [e]
    go_enter Try.func29, Try.ntmps29
    go_wp2
    all_goals (go_ret; exact ⟨rfl, rfl⟩)
  · have e : mz x = false := by unfold mz; simp; omega
    rw [e]
    go_enter Try.func29, Try.ntmps29
    go_wp2
    all_goals (go_ret; exact ⟨rfl, rfl⟩)
theorem minus0_q (x : Nat) (hx : x < 18446744073709551616) (w : World) : Calls Try.prog 29 #[.float .f64 x] w fun e w' => e = .returned (.bool (mz x)) ∧ w' = w := turn (minus0_w x hx w)

set_option maxHeartbeats 800000 in
theorem refRight_core (lo hi : Nat) (hl : lo < 18446744073709551616) (hh : hi < 18446744073709551616) (b1 b2 b3 b4 b5 : Bool)
    (o1 : (FloatKind.f64.format.order lo hi == some .lt || FloatKind.f64.format.order lo hi == some .eq) = b1) (o2 : (FloatKind.f64.format.order lo (infI 1) == some .eq) = b2) (o3 : (FloatKind.f64.format.order hi (infI (-1)) == some .eq) = b3)
    (o4 : mz lo = b4) (o5 : mz hi = b5) (w : World) :
    Calls Try.prog 23 #[.agg #[.float .f64 lo, .float .f64 hi]] w fun e w' => e = .returned (.bool (b2 && b3 || b1 && !b2 && !b3 && !b4 && !b5)) ∧ Below w.heap.size w w' := by
  have p2 : (FloatKind.f64.format.order lo (infI 1) != some .eq) = !b2 := by rw [← o2]; rfl
  have p3 : (FloatKind.f64.format.order hi (infI (-1)) != some .eq) = !b3 := by rw [← o3]; rfl
  cases b2
  case' false => cases b1
  case' false.true => cases b3
  case' false.true.false => cases b4
  case' false.true.false.false => cases b5
  case' true => cases b3
  case' true.false => cases b1
  all_goals
    try simp only [Bool.not_true, Bool.not_false] at p2 p3
    go_enter Try.func23, Try.ntmps23
    go_wp2_with fail
    go_quiet (first | (go_at_call 28; refine Calls.quiet_of_same (rinf_q _ _)) | (go_at_call 29; refine Calls.quiet_of_same (minus0_q _ (by assumption) _)))
    go_wp2
    have k0 : ((w.alloc (Obj.cells #[Value.float FloatKind.f64 lo, Value.float FloatKind.f64 hi] 35)).drewN nq).cell? ⟨w.heap.size, 0, none⟩ = some (.float .f64 lo) := by go_simp
    have k1 : ((w.alloc (Obj.cells #[Value.float FloatKind.f64 lo, Value.float FloatKind.f64 hi] 35)).drewN nq).cell? ⟨w.heap.size, 1, none⟩ = some (.float .f64 hi) := by go_simp
    have kb : Below w.heap.size w ((w.alloc (Obj.cells #[Value.float FloatKind.f64 lo, Value.float FloatKind.f64 hi] 35)).drewN nq) := below_drewN (by go_grown) _
    generalize (w.alloc (Obj.cells #[Value.float FloatKind.f64 lo, Value.float FloatKind.f64 hi] 35)).drewN nq = W at *
    try (go_quiet (first | (go_at_call 28; refine Calls.quiet_of_same (rinf_q _ _)) | (go_at_call 29; refine Calls.quiet_of_same (minus0_q _ (by assumption) _))))
    try go_wp2
    go_ret
    first | exact ⟨rfl, kb⟩ | exact ⟨rfl, below_drewN kb _⟩

theorem right_eq {lo hi : Nat} (hl : lo < 18446744073709551616) (hh : hi < 18446744073709551616) :
    (eqB lo (infI 1) && eqB hi (infI (-1)) || leB lo hi && !eqB lo (infI 1) && !eqB hi (infI (-1)) && !mz lo && !mz hi) = rightB lo hi := by
  unfold rightB leB eqB hsB
  rw [nan_inf, nan_inf, key_up, key_down]
  cases n1 : nanB lo
  · cases n2 : nanB hi
    · have k1 := nanB_key hl n1
      have k2 := nanB_key hh n2
      rw [Bool.eq_iff_iff]
      simp only [Bool.not_false, Bool.true_and, Bool.or_eq_true, Bool.and_eq_true, decide_eq_true_eq, Bool.not_eq_true', decide_eq_false_iff_not]
      constructor
      · rintro (h | ⟨⟨⟨⟨h1, h2⟩, h3⟩, h4⟩, h5⟩)
        · exact Or.inl h
        · exact Or.inr ⟨⟨⟨⟨h1, by omega⟩, by omega⟩, h4⟩, h5⟩
      · rintro (h | ⟨⟨⟨⟨h1, h2⟩, h3⟩, h4⟩, h5⟩)
        · exact Or.inl h
        · exact Or.inr ⟨⟨⟨⟨h1, by omega⟩, by omega⟩, h4⟩, h5⟩
    · simp
  · simp

theorem refRight_w (lo hi : Nat) (hl : lo < 18446744073709551616) (hh : hi < 18446744073709551616) (w : World) :
    Calls Try.prog 23 #[.agg #[.float .f64 lo, .float .f64 hi]] w fun e w' => e = .returned (.bool (rightB lo hi)) ∧ Below w.heap.size w w' := by
  have h := refRight_core lo hi hl hh _ _ _ _ _ (o_le hl hh) (o_eq hl (infI_lt 1)) (o_eq hh (infI_lt (-1))) rfl rfl w
  rw [right_eq hl hh] at h
  exact h

theorem none_eq {lo hi : Nat} : (!rightB lo hi || ltB hi lo) = !hsB lo hi := by
  unfold rightB ltB eqB hsB
  rw [nan_inf, nan_inf, key_up, key_down]
  cases nanB lo
  · cases nanB hi
    · rw [Bool.eq_iff_iff]
      simp only [Bool.not_false, Bool.true_and, Bool.or_eq_true, decide_eq_true_eq, Bool.not_eq_true', Bool.or_eq_false_iff, Bool.and_eq_false_iff, decide_eq_false_iff_not]
      constructor
      · rintro (⟨-, h⟩ | h)
        · exact h
        · exact Or.inl (Or.inl (Or.inl (Or.inl (by omega))))
      · intro h
        by_cases c : key lo = 9218868437227405312 ∧ key hi = -9218868437227405312
        · right; omega
        · left
          refine ⟨?_, h⟩
          by_cases c1 : key lo = 9218868437227405312
          · right; intro c2; exact c ⟨c1, c2⟩
          · left; exact c1
    · simp
  · simp

set_option maxHeartbeats 400000 in
theorem none_w (lo hi : Nat) (hl : lo < 18446744073709551616) (hh : hi < 18446744073709551616) (w : World) :
    Calls Try.prog 14 #[.agg #[.float .f64 lo, .float .f64 hi]] w fun e w' => e = .returned (.bool (!hsB lo hi)) ∧ Below w.heap.size w w' := by
  have c1 := fun w => refRight_w lo hi hl hh w
  have o1 := o_gt hl hh
  rw [← none_eq]
  generalize rightB lo hi = b1 at *
  generalize ltB hi lo = b2 at *
  cases b1
  case' true => cases b2
  all_goals
    go_enter Try.func14, Try.ntmps14
    go_wp2_with
     (go_at_call 23; refine (c1 _).mono ?_; rintro _ w1 ⟨rfl, hb1⟩
      have s0 : w1.cell? ⟨w.heap.size, 0, none⟩ = some (.float .f64 lo) := (hb1.cell (by simp <;> omega)).trans (by go_simp)
      have s1 : w1.cell? ⟨w.heap.size, 1, none⟩ = some (.float .f64 hi) := (hb1.cell (by simp <;> omega)).trans (by go_simp))
    go_ret
    exact ⟨rfl, later (by go_grown) hb1⟩

theorem key_word {x : Nat} (hx : x < 18446744073709551616) : (key x = 9218868437227405312 → x = 9218868437227405312) ∧ (key x = -9218868437227405312 → x = 18442240474082181120) := by
  unfold key; split <;> omega
theorem makeP_right (lo hi : Nat) (hl : lo < 18446744073709551616) (hh : hi < 18446744073709551616) : makeP lo hi = if rightB (pz lo) (pz hi) then (pz lo, pz hi) else (infI 1, infI (-1)) := by
  unfold makeP rightB
  cases h : hsB (pz lo) (pz hi)
  · simp only [Bool.or_false]
    split
    · rename_i h1
      split
      · rename_i h2; cases h1
      · rename_i h2
        cases h1
    · rename_i h1
      split
      · rename_i h2
        unfold eqB at h2
        rw [nan_inf, nan_inf, key_up, key_down] at h2
        simp only [Bool.not_false, Bool.and_true, Bool.and_eq_true, decide_eq_true_eq] at h2
        have e1 := (key_word (pz_lt hl)).1 h2.1.2
        have e2 := (key_word (pz_lt hh)).2 h2.2.2
        rw [e1, e2]; rfl
      · rfl
  · simp

end Go.Proofs.Ytfhccdpdjadepaa

namespace Go.Proofs.Ytfhccdpdjadepaa
open Go.ChangeShapes Go.WideShapes Go.ChangeAt Go.RowKit

theorem rsame_w (a b c d : Nat) (ha : a < 18446744073709551616) (hb : b < 18446744073709551616) (hc : c < 18446744073709551616) (hd : d < 18446744073709551616) (w : World) :
    Calls Try.prog 17 #[.agg #[.float .f64 a, .float .f64 b], .agg #[.float .f64 c, .float .f64 d]] w fun e w' => e = .returned (.bool (sameB a c && sameB b d)) ∧ Below w.heap.size w w' := by
  have s1 := fun w => same_w a c ha hc w
  have s2 := fun w => same_w b d hb hd w
  generalize sameB a c = b1 at *
  generalize sameB b d = b2 at *
  cases b1
  all_goals
    go_enter Try.func17, Try.ntmps17
    go_wp2_with (first
      | (go_at_call_of 26 (Value.float .f64 a); refine (s1 _).mono ?_; rintro _ _ ⟨rfl, rfl⟩)
      | (go_at_call_of 26 (Value.float .f64 b); refine (s2 _).mono ?_; rintro _ _ ⟨rfl, rfl⟩))
    go_ret
    exact ⟨rfl, by go_grown⟩

theorem has_eq {lo hi v : Nat} (hv : v < 18446744073709551616) : (hsB lo hi && leB lo v && leB v hi && !eqB v (infI 1) && !eqB v (infI (-1))) = hasB lo hi v := by
  unfold hasB
  cases hsB lo hi
  · rfl
  · cases n : nanB v
    · have e : infB v = (eqB v (infI 1) || eqB v (infI (-1))) := by
        unfold infB eqB
        rw [nan_inf, nan_inf, key_up, key_down, n]
        rw [Bool.eq_iff_iff]
        simp only [Bool.not_false, Bool.true_and, Bool.or_eq_true, decide_eq_true_eq]
        unfold key
        split <;> omega
      rw [e]
      cases leB lo v <;> cases leB v hi <;> cases eqB v (infI 1) <;> cases eqB v (infI (-1)) <;> rfl
    · have e1 : leB lo v = false := by unfold leB; rw [n]; simp
      rw [e1]; simp

theorem room_eq {x y : Nat} (hx : x < 18446744073709551616) (hy : y < 18446744073709551616) (nx : nanB x = false) (ny : nanB y = false) :
    (eqB y (infI (-1)) || ltB y x) = roomB x y ∧ (eqB y (infI 1) || ltB x y) = roomB (negB x) (negB y) := by
  unfold roomB eqB ltB
  rw [nan_inf, nan_inf, nanB_negB hx, nanB_negB hy, key_negB hx, key_negB hy, key_up, key_down, nx, ny]
  have e1 := key_word hy
  have e2 : y = 18442240474082181120 → key y = -9218868437227405312 := by rintro rfl; rfl
  have e3 : negB y = 18442240474082181120 ↔ y = 9218868437227405312 := by unfold negB; split <;> omega
  have e4 : y = 9218868437227405312 → key y = 9218868437227405312 := by rintro rfl; rfl
  simp only [Bool.not_false, Bool.true_and, e3]
  constructor
  · rw [Bool.eq_iff_iff]; simp only [Bool.or_eq_true, decide_eq_true_eq]
    constructor
    · rintro (h | h)
      · exact Or.inl (e1.2 h)
      · exact Or.inr h
    · rintro (h | h)
      · exact Or.inl (e2 h)
      · exact Or.inr h
  · rw [Bool.eq_iff_iff]; simp only [Bool.or_eq_true, decide_eq_true_eq]
    constructor
    · rintro (h | h)
      · exact Or.inl (e1.1 h)
      · exact Or.inr (by omega)
    · rintro (h | h)
      · exact Or.inl (e4 h)
      · exact Or.inr (by omega)

end Go.Proofs.Ytfhccdpdjadepaa
