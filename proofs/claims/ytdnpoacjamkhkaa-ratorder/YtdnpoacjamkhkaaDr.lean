/- The statement RatOrder: the order of quotients is a total one, and goes with sums. -/
import Derived.Test.YtdnpoacjamkhkaaDq
namespace Go.Proofs.Ytdnpoacjamkhkaa
open Go.ChangeShapes Go.WideShapes Go.ChangeAt Go.RowKit

theorem triple {v : Int × Int × Int} {a b c : Int} (h1 : v.1 = a) (h2 : v.2.1 = b) (h3 : v.2.2 = c) : v = (a, b, c) := by
  obtain ⟨x, y, z⟩ := v
  simp only at h1 h2 h3
  rw [h1, h2, h3]
theorem ratOrder_w (aN aD bN bD cN cD : Int) (w0 : (Lit.int .i64 aN).wf = true) (w1 : (Lit.int .i64 aD).wf = true) (w2 : (Lit.int .i64 bN).wf = true) (w3 : (Lit.int .i64 bD).wf = true) (w4 : (Lit.int .i64 cN).wf = true) (w5 : (Lit.int .i64 cD).wf = true) (w : World) :
    Calls Try.prog 7 #[.agg #[.int .i64 aN, .int .i64 aD], .agg #[.int .i64 bN, .int .i64 bD], .agg #[.int .i64 cN, .int .i64 cD]] w fun r w' => r = .returned (.bool true) ∧ Below w.heap.size w w' := by
  have ha : I64 aN ∧ I64 aD := ⟨i64_wfI w0, i64_wfI w1⟩
  have hb : I64 bN ∧ I64 bD := ⟨i64_wfI w2, i64_wfI w3⟩
  have hc : I64 cN ∧ I64 cD := ⟨i64_wfI w4, i64_wfI w5⟩
  have r1 := fun W => right11_w aN aD ha.1 ha.2 W
  have r2 := fun W => right11_w bN bD hb.1 hb.2 W
  have r3 := fun W => right11_w cN cD hc.1 hc.2 W
  by_cases c : (rightR aN aD && rightR bN bD && rightR cN cD) = true
  · obtain ⟨c', q3⟩ := Bool.and_eq_true_iff.1 c
    obtain ⟨q1, q2⟩ := Bool.and_eq_true_iff.1 c'
    rw [q1] at r1
    rw [q2] at r2
    rw [q3] at r3
    have d1 : 0 < aD := by have := rightR_D q1; omega
    have d2 : 0 < bD := by have := rightR_D q2; omega
    have d3 : 0 < cD := by have := rightR_D q3; omega
    refine order_good aN aD bN bD cN cD (cmpV11 aN aD bN bD) (cmpV11 bN bD cN cD) (cmpV11 aN aD cN cD) (cmpV11 bN bD aN aD) _ _ _ _ _ _ r1 r2 r3 (fun W => cmpRat_w aN aD bN bD ha hb W) (fun W => cmpRat_w bN bD cN cD hb hc W) (fun W => cmpRat_w aN aD cN cD ha hc W) (fun W => cmpRat_w bN bD aN aD hb ha W)
      (fun W => addRat_w aN aD cN cD ha hc W) (fun W => addRat_w bN bD cN cD hb hc W) (fun e1 e2 W => ?_) ?_ ?_ w
    · obtain ⟨s1, s2, s3⟩ := addV11_ok q1 q3 (triple (v := addV11 aN aD cN cD) rfl rfl e1)
      obtain ⟨t1, t2, t3⟩ := addV11_ok q2 q3 (triple (v := addV11 bN bD cN cD) rfl rfl e2)
      have k := cmpRat_w _ _ _ _ s3 t3 W
      have e : cmpV11 (addV11 aN aD cN cD).1 (addV11 aN aD cN cD).2.1 (addV11 bN bD cN cD).1 (addV11 bN bD cN cD).2.1 = cmpV11 aN aD bN bD := by
        rw [cmpV11_is s1 t1, cmpV11_is q1 q2]
        exact rat_add d1 d2 d3 (by have := rightR_D s1; omega) (by have := rightR_D t1; omega) s2 t2
      rw [e] at k
      exact k
    · rw [cmpV11_is q1 q2, cmpV11_is q2 q1]
      exact cmpZ_neg _ _
    · rw [cmpV11_is q1 q2, cmpV11_is q2 q3, cmpV11_is q1 q3]
      have zx := cmpZ_cases (aN * bD) (bN * aD)
      have zy := cmpZ_cases (bN * cD) (cN * bD)
      have zz := cmpZ_cases (aN * cD) (cN * aD)
      have same := fun h : aN * bD = bN * aD => rat_same q1 q2 ha hb h
      have ne : aN * bD ≠ bN * aD → (¬ aN = bN ∨ (aN = bN ∧ ¬ aD = bD)) := fun h => by
        by_cases k : aN = bN
        · refine Or.inr ⟨k, fun k2 => h ?_⟩
          rw [k, k2]
        · exact Or.inl k
      have le := fun h1 h2 => rat_le (aN := aN) (bN := bN) (cN := cN) d1 d2 d3 h1 h2
      generalize aN * bD = p at *
      generalize bN * aD = q at *
      generalize bN * cD = r at *
      generalize cN * bD = s at *
      generalize aN * cD = t at *
      generalize cN * aD = u at *
      rcases zx with ⟨h1, e1⟩ | ⟨h1, e1⟩ | ⟨h1, e1⟩ <;> rw [e1]
      · left
        refine ⟨?_, ne (by omega)⟩
        by_cases k : r ≤ s
        · have l := (le (by omega) k).2 h1
          have l2 : cmpZ t u = -1 := by rcases zz with ⟨h, e⟩ | ⟨h, e⟩ | ⟨h, e⟩ <;> omega
          have l3 : cmpZ r s ≤ 0 := by rcases zy with ⟨h, e⟩ | ⟨h, e⟩ | ⟨h, e⟩ <;> omega
          exact Or.inl ⟨rfl, l3, by omega⟩
        · have l3 : cmpZ r s = 1 := by rcases zy with ⟨h, e⟩ | ⟨h, e⟩ | ⟨h, e⟩ <;> omega
          exact Or.inr (Or.inl ⟨rfl, by omega⟩)
      · right
        obtain ⟨k1, k2⟩ := same h1
        refine ⟨?_, k1, k2⟩
        by_cases k : r ≤ s
        · have l := (le (by omega) k).1
          have l2 : ¬ 0 < cmpZ t u := by rcases zz with ⟨h, e⟩ | ⟨h, e⟩ | ⟨h, e⟩ <;> omega
          have l3 : cmpZ r s ≤ 0 := by rcases zy with ⟨h, e⟩ | ⟨h, e⟩ | ⟨h, e⟩ <;> omega
          exact Or.inl ⟨rfl, l3, l2⟩
        · have l3 : cmpZ r s = 1 := by rcases zy with ⟨h, e⟩ | ⟨h, e⟩ | ⟨h, e⟩ <;> omega
          exact Or.inr ⟨rfl, by omega⟩
      · left
        exact ⟨Or.inr (Or.inr rfl), ne (by omega)⟩
  · exact order_bad aN aD bN bD cN cD _ _ _ (by simpa using c) r1 r2 r3 w

end Go.Proofs.Ytdnpoacjamkhkaa
