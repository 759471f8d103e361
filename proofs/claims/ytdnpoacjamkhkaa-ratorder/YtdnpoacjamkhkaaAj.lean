/- The reference's numbers of stage 11: Add and Sub, whole. -/
import Derived.Test.YtdnpoacjamkhkaaAg
namespace Go.Proofs.Ytdnpoacjamkhkaa
open Go.ChangeShapes Go.WideShapes Go.ChangeAt Go.RowKit

theorem add11_w (aN aD bN bD : Int) (ha : I64 aN ∧ I64 aD) (hb : I64 bN ∧ I64 bD) (w : World) :
    Calls Try.prog 15 #[.agg #[.int .i64 aN, .int .i64 aD], .agg #[.int .i64 bN, .int .i64 bD]] w fun r w' => r = .returned (.tuple #[.agg #[.int .i64 (addV11 aN aD bN bD).1, .int .i64 (addV11 aN aD bN bD).2.1], .int .i64 (addV11 aN aD bN bD).2.2]) ∧ Below w.heap.size w w' := by
  cases h : (rightR aN aD && rightR bN bD)
  · have e : addV11 aN aD bN bD = (0, 0, 1) := by unfold addV11; rw [h]; rfl
    rw [e]
    exact add11_bad aN aD bN bD ha hb h w
  · have e : addV11 aN aD bN bD = ofV (decide (aN * bD + bN * aD < 0)) (aN * bD + bN * aD).natAbs (aD.natAbs * bD.natAbs) := by unfold addV11; rw [h]; rfl
    rw [e]
    obtain ⟨h1, h2⟩ := Bool.and_eq_true_iff.1 h
    refine (add11_good aN aD bN bD ha hb h1 h2 w).mono ?_
    rintro _ w' ⟨⟨ov, rfl, rfl⟩, hb1⟩
    exact ⟨rfl, hb1⟩

def subV11 (aN aD bN bD : Int) : Int × Int × Int := if rightR bN bD then addV11 aN aD (-bN) bD else (0, 0, 1)
theorem rightR_N {N D : Int} (h : rightR N D = true) : N ≠ -9223372036854775808 := by
  unfold rightR at h
  simp only [Bool.and_eq_true, decide_eq_true_eq] at h
  exact h.2.1

set_option maxHeartbeats 4000000 in
theorem sub11_w (aN aD bN bD : Int) (ha : I64 aN ∧ I64 aD) (hb : I64 bN ∧ I64 bD) (w : World) :
    Calls Try.prog 17 #[.agg #[.int .i64 aN, .int .i64 aD], .agg #[.int .i64 bN, .int .i64 bD]] w fun r w' => r = .returned (.tuple #[.agg #[.int .i64 (subV11 aN aD bN bD).1, .int .i64 (subV11 aN aD bN bD).2.1], .int .i64 (subV11 aN aD bN bD).2.2]) ∧ Below w.heap.size w w' := by
  have X : Rt2 (((w.alloc (.cells #[.int .i64 aN, .int .i64 aD] 23)).alloc (.cells #[.int .i64 bN, .int .i64 bD] 23)).alloc (.cells #[.int .i64 0, .int .i64 0] 23)) w.heap.size (.int .i64 aN) (.int .i64 aD) := ⟨by go_simp, by go_simp, by go_simp, by go_simp, by go_size⟩
  have Y : Rt2 (((w.alloc (.cells #[.int .i64 aN, .int .i64 aD] 23)).alloc (.cells #[.int .i64 bN, .int .i64 bD] 23)).alloc (.cells #[.int .i64 0, .int .i64 0] 23)) (w.heap.size + 1) (.int .i64 bN) (.int .i64 bD) := ⟨by go_simp, by go_simp, by go_simp, by go_simp, by go_size⟩
  have R : Rt2 (((w.alloc (.cells #[.int .i64 aN, .int .i64 aD] 23)).alloc (.cells #[.int .i64 bN, .int .i64 bD] 23)).alloc (.cells #[.int .i64 0, .int .i64 0] 23)) (w.heap.size + 1 + 1) (.int .i64 0) (.int .i64 0) := ⟨by go_simp, by go_simp, by go_simp, by go_simp, by go_size⟩
  have HB : Below w.heap.size w (((w.alloc (.cells #[.int .i64 aN, .int .i64 aD] 23)).alloc (.cells #[.int .i64 bN, .int .i64 bD] 23)).alloc (.cells #[.int .i64 0, .int .i64 0] 23)) := by go_grown
  have c2 := fun W => right11_w bN bD hb.1 hb.2 W
  cases h : rightR bN bD
  · have e : subV11 aN aD bN bD = (0, 0, 1) := by unfold subV11; rw [h]; rfl
    rw [e]
    rw [h] at c2
    clear e h ha hb
    go_enter Try.func17, Try.ntmps17
    go_upto_region 1 with fail
    generalize (((w.alloc (.cells #[.int .i64 aN, .int .i64 aD] 23)).alloc (.cells #[.int .i64 bN, .int .i64 bD] 23)).alloc (.cells #[.int .i64 0, .int .i64 0] 23)) = V1 at *
    obtain ⟨y0, y1, y2, y3, y4⟩ := id Y
    go_wp2_with (go_at_call 13; (with_reducible refine (c2 _).mono ?_); rintro _ W2 ⟨rfl, hb1⟩; replace R := R.keep hb1; replace HB := later HB hb1; clear hb1; obtain ⟨r0, r1, r2, r3, r4⟩ := id R)
    refine bodyPost_ret (v := .tuple #[.agg #[.int .i64 0, .int .i64 0], .int .i64 1]) (by simp [results, Try.results17, go_sem, *]) rfl ⟨rfl, ?_⟩
    repeat' (first | (with_reducible exact HB) | (with_reducible refine Below.setCell ?_ ?_ _) | go_size)
  · have e : subV11 aN aD bN bD = addV11 aN aD (-bN) bD := by unfold subV11; rw [h]; rfl
    rw [e]
    rw [h] at c2
    have hne := rightR_N h
    have hm : I64 (-bN) := ⟨by have := hb.1.2; omega, by have := hb.1.1; omega⟩
    have hw : IntKind.i64.wrap (-bN) = -bN := by rw [IntKind.wrap_i64]; have := hm.1; have := hm.2; omega
    have ca := fun W => add11_w aN aD (-bN) bD ha ⟨hm, hb.2⟩ W
    clear e h ha hb hne hm
    generalize addV11 aN aD (-bN) bD = ov at *
    go_enter Try.func17, Try.ntmps17
    go_upto_region 1 with fail
    generalize (((w.alloc (.cells #[.int .i64 aN, .int .i64 aD] 23)).alloc (.cells #[.int .i64 bN, .int .i64 bD] 23)).alloc (.cells #[.int .i64 0, .int .i64 0] 23)) = V1 at *
    obtain ⟨y0, y1, y2, y3, y4⟩ := id Y
    go_wp2_with (first
      | (go_at_call 13; (with_reducible refine (c2 _).mono ?_); rintro _ W2 ⟨rfl, hb1⟩; replace X := X.keep hb1; replace Y := Y.keep hb1; replace R := R.keep hb1; replace HB := later HB hb1; clear hb1 y0 y1 y2 y3 y4; obtain ⟨x0, x1, x2, x3, x4⟩ := id X; obtain ⟨y0, y1, y2, y3, y4⟩ := id Y)
      | (go_at_call 15; (with_reducible refine (ca _).mono ?_); rintro _ W3 ⟨rfl, hb1⟩; replace R := R.keep hb1; replace HB := later HB hb1; clear hb1; obtain ⟨r0, r1, r2, r3, r4⟩ := id R))
    refine bodyPost_ret (v := .tuple #[.agg #[.int .i64 (ov).1, .int .i64 (ov).2.1], .int .i64 (ov).2.2]) (by simp [results, Try.results17, go_sem, *]) rfl ⟨rfl, ?_⟩
    repeat' (first | (with_reducible exact HB) | (with_reducible refine Below.setCell ?_ ?_ _) | go_size)

end Go.Proofs.Ytdnpoacjamkhkaa
