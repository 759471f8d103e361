/- The walk of the reference's Strict: it answers as the program's. -/
import Derived.Test.YtmdhgaiklgmmpaaIi
namespace Go.Proofs.Ytmdhgaiklgmmpaa
open Go.ChangeShapes Go.WideShapes Go.ChangeAt Go.RowKit

set_option maxHeartbeats 1600000 in
theorem rstrict_core (xl xh yl yh : Nat) (b1 b2 p1 p2 q1 q2 : Bool) (c1 : ∀ w, Calls Try.prog 41 #[.agg #[.float .f64 xl, .float .f64 xh]] w fun e w' => e = .returned (.bool (!b1)) ∧ Below w.heap.size w w')
    (c2 : ∀ w, Calls Try.prog 41 #[.agg #[.float .f64 yl, .float .f64 yh]] w fun e w' => e = .returned (.bool (!b2)) ∧ Below w.heap.size w w')
    (o1 : (FloatKind.f64.format.order yl (infI (-1)) == some .eq) = p1) (o2 : (FloatKind.f64.format.order yl xl == some .lt) = p2) (o3 : (FloatKind.f64.format.order yh (infI 1) == some .eq) = q1) (o4 : (FloatKind.f64.format.order yh xh == some .gt) = q2) (w : World) :
    Calls Try.prog 30 #[.agg #[.float .f64 xl, .float .f64 xh], .agg #[.float .f64 yl, .float .f64 yh]] w fun e w' => e = .returned (.bool (!b1 || (b2 && (p1 || p2) && (q1 || q2)))) ∧ Below w.heap.size w w' := by
  cases b1
  · go_enter Try.func30, Try.ntmps30
    go_wp2_with (go_at_call 41; refine (c1 _).mono ?_; rintro _ w1 ⟨rfl, hb1⟩)
    go_ret
    exact ⟨rfl, later (by go_grown) hb1⟩
  cases b2
  · go_enter Try.func30, Try.ntmps30
    go_upto_region 3 with
     (go_at_call 41; refine (c1 _).mono ?_; rintro _ w1 ⟨rfl, hb1⟩
      have s2 : w1.cell? ⟨w.heap.size + 1, 0, none⟩ = some (.float .f64 yl) := (hb1.cell (by simp <;> omega)).trans (by go_simp)
      have s3 : w1.cell? ⟨w.heap.size + 1, 1, none⟩ = some (.float .f64 yh) := (hb1.cell (by simp <;> omega)).trans (by go_simp)
      have hB : Below w.heap.size w w1 := later (by go_grown) hb1)
    go_wp2_with (go_at_call 41; refine (c2 _).mono ?_; rintro _ w2 ⟨rfl, hb2⟩)
    go_ret
    exact ⟨rfl, later hB hb2⟩
  cases p1
  case' false => cases p2
  all_goals cases q1
  case' false.true.false => cases q2
  case' false.false.false => cases q2
  case' true.false => cases q2
  all_goals
    go_enter Try.func30, Try.ntmps30
    go_upto_region 3 with
     (go_at_call 41; refine (c1 _).mono ?_; rintro _ w1 ⟨rfl, hb1⟩
      have s0 : w1.cell? ⟨w.heap.size, 0, none⟩ = some (.float .f64 xl) := (hb1.cell (by simp <;> omega)).trans (by go_simp)
      have s1 : w1.cell? ⟨w.heap.size, 1, none⟩ = some (.float .f64 xh) := (hb1.cell (by simp <;> omega)).trans (by go_simp)
      have s2 : w1.cell? ⟨w.heap.size + 1, 0, none⟩ = some (.float .f64 yl) := (hb1.cell (by simp <;> omega)).trans (by go_simp)
      have s3 : w1.cell? ⟨w.heap.size + 1, 1, none⟩ = some (.float .f64 yh) := (hb1.cell (by simp <;> omega)).trans (by go_simp)
      have hz : w.heap.size + 1 < w1.heap.size := by have := hb1.size; simp only [World.size_alloc] at this; omega
      have hB : Below w.heap.size w w1 := later (by go_grown) hb1)
    go_wp2_with
     (go_at_call 41; refine (c2 _).mono ?_; rintro _ w2 ⟨rfl, hb2⟩
      have t0 : w2.cell? ⟨w.heap.size, 0, none⟩ = some (.float .f64 xl) := keepsC hb2 s0 (by omega)
      have t1 : w2.cell? ⟨w.heap.size, 1, none⟩ = some (.float .f64 xh) := keepsC hb2 s1 (by omega)
      have t2 : w2.cell? ⟨w.heap.size + 1, 0, none⟩ = some (.float .f64 yl) := keepsC hb2 s2 (by omega)
      have t3 : w2.cell? ⟨w.heap.size + 1, 1, none⟩ = some (.float .f64 yh) := keepsC hb2 s3 (by omega)
      have hB2 : Below w.heap.size w w2 := later hB hb2)
    clear c1 c2 s0 s1 s2 s3 hb1 hb2 hB hz
    go_quiet ((go_at_call 58; refine Calls.quiet_of_same (rinf_q _ _)))
    go_wp2
    have u0 : (w2.drewN nq).cell? ⟨w.heap.size, 0, none⟩ = some (.float .f64 xl) := by go_simp
    have u1 : (w2.drewN nq).cell? ⟨w.heap.size, 1, none⟩ = some (.float .f64 xh) := by go_simp
    have u2 : (w2.drewN nq).cell? ⟨w.heap.size + 1, 0, none⟩ = some (.float .f64 yl) := by go_simp
    have u3 : (w2.drewN nq).cell? ⟨w.heap.size + 1, 1, none⟩ = some (.float .f64 yh) := by go_simp
    replace hB2 := below_drewN hB2 nq
    generalize w2.drewN nq = W at *
    go_quiet ((go_at_call 58; refine Calls.quiet_of_same (rinf_q _ _)))
    go_wp2
    go_ret
    exact ⟨rfl, below_drewN hB2 _⟩

theorem rstrict_w (xl xh yl yh : Nat) (h1 : xl < 18446744073709551616) (h2 : xh < 18446744073709551616) (h3 : yl < 18446744073709551616) (h4 : yh < 18446744073709551616) (w : World) :
    Calls Try.prog 30 #[.agg #[.float .f64 xl, .float .f64 xh], .agg #[.float .f64 yl, .float .f64 yh]] w fun e w' => e = .returned (.bool (strictB xl xh yl yh)) ∧ Below w.heap.size w w' := by
  have h := rstrict_core xl xh yl yh _ _ _ _ _ _ (fun w => none_w xl xh h1 h2 w) (fun w => none_w yl yh h3 h4 w) (o_eq h3 (infI_lt (-1))) (o_lt h3 h1) (o_eq h4 (infI_lt 1)) (o_gt h4 h2) w
  have e : (!hsB xl xh || (hsB yl yh && (eqB yl (infI (-1)) || ltB yl xl) && (eqB yh (infI 1) || ltB xh yh))) = strictB xl xh yl yh := by
    unfold strictB
    cases c1 : hsB xl xh
    · rfl
    · cases c2 : hsB yl yh
      · rfl
      · unfold hsB at c1 c2
        simp only [Bool.and_eq_true, Bool.not_eq_true'] at c1 c2
        rw [(room_eq h1 h3 c1.1.1.1.1.1.1 c2.1.1.1.1.1.1).1, (room_eq h2 h4 c1.1.1.1.1.1.2 c2.1.1.1.1.1.2).2]
  rw [e] at h
  exact h

end Go.Proofs.Ytmdhgaiklgmmpaa
