/- Tapes: which tapes may be, as the reference tells. -/
import Derived.Test.YtnchhfhoaepjnaaGreatTc
namespace Go.Proofs.YtnchhfhoaepjnaaGreat
open Go.ChangeShapes Go.WideShapes Go.ChangeAt Go.RowKit

def rarI (k : Int) : Int := if 1 ≤ k ∧ k ≤ 14 then arI k else -1

theorem rarI_eq (k : Int) : (k < 1 ∧ rarI k = -1) ∨ (k = 1 ∧ rarI k = 0) ∨ (k = 2 ∧ rarI k = 0) ∨ (k ≠ 1 ∧ k ≠ 2 ∧ 3 ≤ k ∧ k ≤ 6 ∧ rarI k = 2) ∨ (k ≠ 1 ∧ k ≠ 2 ∧ 3 ≤ k ∧ 6 < k ∧ 7 ≤ k ∧ k ≤ 14 ∧ rarI k = 1) ∨ (k ≠ 1 ∧ k ≠ 2 ∧ 3 ≤ k ∧ 6 < k ∧ 7 ≤ k ∧ 14 < k ∧ rarI k = -1) := by
  unfold rarI arI
  by_cases h : 1 ≤ k ∧ k ≤ 14
  · rw [if_pos h]
    by_cases h1 : k = 1 ∨ k = 2
    · rw [if_pos h1]; omega
    · rw [if_neg h1]
      by_cases h2 : 3 ≤ k ∧ k ≤ 6
      · rw [if_pos h2]; omega
      · rw [if_neg h2]; omega
  · rw [if_neg h]; omega

theorem args_w (k : Int) (w : World) : Calls Tryz.prog 38 #[.int .i64 k] w fun e w' => e = .returned (.int .i64 (rarI k)) ∧ w = w' := by
  rcases rarI_eq k with ⟨h1, e⟩ | ⟨rfl, e⟩ | ⟨rfl, e⟩ | ⟨h1, h2, h3, h4, e⟩ | ⟨h1, h2, h3, h4, h5, h6, e⟩ | ⟨h1, h2, h3, h4, h5, h6, e⟩
  · have g1 : (k == 1) = false := by simp; omega
    have g2 : (k == 2) = false := by simp; omega
    have g3 : ¬ 3 ≤ k := by omega
    have g4 : ¬ 7 ≤ k := by omega
    rw [e]
    go_enter Tryz.func38, Tryz.ntmps38
    go_wp2_with fail
    go_ret
    exact ⟨rfl, rfl⟩
  all_goals
    try replace h1 : (k == 1) = false := by simpa using h1
    try replace h2 : (k == 2) = false := by simpa using h2
    try replace h4 : ¬ k ≤ 6 := by omega
    try replace h6 : ¬ k ≤ 14 := by omega
    rw [e]
    go_enter Tryz.func38, Tryz.ntmps38
    go_wp2_with fail
    go_ret
    exact ⟨rfl, rfl⟩

theorem opd0 {o : Opw} {i : Int} (h : rarI o.k = 0) : opdB o i = true := by
  have e : o.ar = 0 := by
    unfold rarI at h
    split at h
    · unfold Opw.ar; omega
    · omega
  unfold opdB
  rw [e]
  rfl
theorem opd1 {o : Opw} {i : Int} (h : rarI o.k = 1) : opdB o i = oneOf o.a i := by
  have e : o.ar = 1 := by
    unfold rarI at h
    split at h
    · unfold Opw.ar; omega
    · omega
  unfold opdB
  rw [e]
  simp [List.range_succ, Opw.at]
theorem opd2 {o : Opw} {i : Int} (h : rarI o.k = 2) : opdB o i = (oneOf o.a i && oneOf o.b i) := by
  have e : o.ar = 2 := by
    unfold rarI at h
    split at h
    · unfold Opw.ar; omega
    · omega
  unfold opdB
  rw [e]
  simp [List.range_succ, Opw.at]

theorem one_yes {n m : Int} (h : oneOf n m = true) : ¬ n < 0 ∧ ¬ n ≥ m := by
  have := of_decide_eq_true h
  omega
theorem one_no {n m : Int} (h : oneOf n m = false) : n < 0 ∨ (¬ n < 0 ∧ n ≥ m) := by
  have := of_decide_eq_false h
  omega

theorem op_kinds (k : Int) : rarI k = -1 ∨ (k = 1 ∧ rarI k = 0) ∨ (k = 2 ∧ rarI k = 0) ∨ (rarI k = 2 ∧ (k == 1) = false ∧ (k == 2) = false ∧ (k == 8) = false) ∨ (k = 8 ∧ rarI k = 1) ∨ (rarI k = 1 ∧ (k == 1) = false ∧ (k == 2) = false ∧ (k == 8) = false) := by
  simp only [beq_eq_false_iff_ne]
  rcases rarI_eq k with h | h | h | h | h | h <;> omega

theorem op_in {k : Int} (h : rarI k ≠ -1) : decide (1 ≤ k ∧ k ≤ 14) = true := by
  unfold rarI at h
  split at h
  · exact decide_eq_true (by assumption)
  · exact absurd rfl h

theorem op_false {o : Opw} {i v : Int} (h : opB o i v = false) : rarI o.k = -1 ∨ (o.k = 1 ∧ rarI o.k = 0 ∧ hsB o.lo o.hi = false) ∨ (o.k = 2 ∧ rarI o.k = 0 ∧ o.n < 0) ∨ (o.k = 2 ∧ rarI o.k = 0 ∧ ¬ o.n < 0 ∧ o.n ≥ v)
    ∨ (rarI o.k = 1 ∧ o.a < 0) ∨ (rarI o.k = 1 ∧ ¬ o.a < 0 ∧ o.a ≥ i) ∨ (rarI o.k = 2 ∧ o.a < 0) ∨ (rarI o.k = 2 ∧ ¬ o.a < 0 ∧ o.a ≥ i) ∨ (rarI o.k = 2 ∧ (¬ o.a < 0 ∧ ¬ o.a ≥ i) ∧ o.b < 0) ∨ (rarI o.k = 2 ∧ (¬ o.a < 0 ∧ ¬ o.a ≥ i) ∧ ¬ o.b < 0 ∧ o.b ≥ i)
    ∨ (rarI o.k = 1 ∧ (¬ o.a < 0 ∧ ¬ o.a ≥ i) ∧ o.k = 8 ∧ o.n < -64) ∨ (rarI o.k = 1 ∧ (¬ o.a < 0 ∧ ¬ o.a ≥ i) ∧ o.k = 8 ∧ ¬ o.n < -64 ∧ o.n > 64) := by
  unfold opB at h
  rcases op_kinds o.k with q | ⟨q, r⟩ | ⟨q, r⟩ | ⟨r, q1, q2, q8⟩ | ⟨q, r⟩ | ⟨r, q1, q2, q8⟩
  · exact .inl q
  · rw [op_in (by omega), opd0 r] at h
    unfold restB at h
    rw [if_pos q] at h
    exact .inr (.inl ⟨q, r, by simpa using h⟩)
  · rw [op_in (by omega), opd0 r] at h
    unfold restB at h
    rw [if_neg (by omega), if_pos q] at h
    rcases one_no (n := o.n) (m := v) (by simpa using h) with g | g
    · exact .inr (.inr (.inl ⟨q, r, g⟩))
    · exact .inr (.inr (.inr (.inl ⟨q, r, g⟩)))
  · rw [op_in (by omega), opd2 r] at h
    unfold restB at h
    simp only [beq_eq_false_iff_ne] at q1 q2 q8
    rw [if_neg q1, if_neg q2, if_neg q8] at h
    cases ha : oneOf o.a i
    · rcases one_no ha with g | g
      · exact .inr (.inr (.inr (.inr (.inr (.inr (.inl ⟨r, g⟩))))))
      · exact .inr (.inr (.inr (.inr (.inr (.inr (.inr (.inl ⟨r, g⟩)))))))
    · have t := one_yes ha
      rcases one_no (n := o.b) (m := i) (by rw [ha] at h; simpa using h) with g | g
      · exact .inr (.inr (.inr (.inr (.inr (.inr (.inr (.inr (.inl ⟨r, t, g⟩))))))))
      · exact .inr (.inr (.inr (.inr (.inr (.inr (.inr (.inr (.inr (.inl ⟨r, t, g⟩)))))))))
  · rw [op_in (by omega), opd1 r] at h
    unfold restB at h
    rw [if_neg (by omega), if_neg (by omega), if_pos q] at h
    cases ha : oneOf o.a i
    · rcases one_no ha with g | g
      · exact .inr (.inr (.inr (.inr (.inl ⟨r, g⟩))))
      · exact .inr (.inr (.inr (.inr (.inr (.inl ⟨r, g⟩)))))
    · have t := one_yes ha
      have g := of_decide_eq_false (show decide (-64 ≤ o.n ∧ o.n ≤ 64) = false by rw [ha] at h; exact h)
      by_cases g1 : o.n < -64
      · exact .inr (.inr (.inr (.inr (.inr (.inr (.inr (.inr (.inr (.inr (.inl ⟨r, t, q, g1⟩))))))))))
      · have g2 : o.n > 64 := by clear h t; omega
        exact .inr (.inr (.inr (.inr (.inr (.inr (.inr (.inr (.inr (.inr (.inr ⟨r, t, q, g1, g2⟩))))))))))
  · rw [op_in (by omega), opd1 r] at h
    unfold restB at h
    simp only [beq_eq_false_iff_ne] at q1 q2 q8
    rw [if_neg q1, if_neg q2, if_neg q8] at h
    rcases one_no (n := o.a) (m := i) (by simpa using h) with g | g
    · exact .inr (.inr (.inr (.inr (.inl ⟨r, g⟩))))
    · exact .inr (.inr (.inr (.inr (.inr (.inl ⟨r, g⟩)))))

theorem op_true {o : Opw} {i v : Int} (h : opB o i v = true) : (o.k = 1 ∧ rarI o.k = 0 ∧ hsB o.lo o.hi = true) ∨ (o.k = 2 ∧ rarI o.k = 0 ∧ ¬ o.n < 0 ∧ ¬ o.n ≥ v)
    ∨ (rarI o.k = 1 ∧ (¬ o.a < 0 ∧ ¬ o.a ≥ i) ∧ o.k = 8 ∧ ¬ o.n < -64 ∧ ¬ o.n > 64) ∨ (rarI o.k = 1 ∧ (¬ o.a < 0 ∧ ¬ o.a ≥ i) ∧ (o.k == 1) = false ∧ (o.k == 2) = false ∧ (o.k == 8) = false) ∨ (rarI o.k = 2 ∧ (¬ o.a < 0 ∧ ¬ o.a ≥ i) ∧ (¬ o.b < 0 ∧ ¬ o.b ≥ i) ∧ (o.k == 1) = false ∧ (o.k == 2) = false ∧ (o.k == 8) = false) := by
  unfold opB at h
  simp only [Bool.and_eq_true] at h
  obtain ⟨⟨h0, h1⟩, h2⟩ := h
  rcases op_kinds o.k with q | ⟨q, r⟩ | ⟨q, r⟩ | ⟨r, q1, q2, q8⟩ | ⟨q, r⟩ | ⟨r, q1, q2, q8⟩
  · have := of_decide_eq_true h0
    unfold rarI at q
    rw [if_pos this] at q
    have := ar_le o.k
    omega
  · unfold restB at h2
    rw [if_pos q] at h2
    exact .inl ⟨q, r, h2⟩
  · unfold restB at h2
    rw [if_neg (by omega), if_pos q] at h2
    exact .inr (.inl ⟨q, r, one_yes h2⟩)
  · rw [opd2 r, Bool.and_eq_true] at h1
    exact .inr (.inr (.inr (.inr ⟨r, one_yes h1.1, one_yes h1.2, q1, q2, q8⟩)))
  · rw [opd1 r] at h1
    unfold restB at h2
    rw [if_neg (by omega), if_neg (by omega), if_pos q] at h2
    have g := of_decide_eq_true h2
    exact .inr (.inr (.inl ⟨r, one_yes h1, q, by omega, by omega⟩))
  · rw [opd1 r] at h1
    exact .inr (.inr (.inr (.inl ⟨r, one_yes h1, q1, q2, q8⟩)))

end Go.Proofs.YtnchhfhoaepjnaaGreat
