/- The walks of the reference's small functions on intervals: what may be, what holds nothing. The walks of the reference's Right, None, Make, Has, Inside, Strict, Same: they answer as the program's. The walks of the reference's Same, Has, Inside and Strict: they answer as the program's. -/
import Derived.Test.YtdnpoacjamkhkaaIf
namespace Go.Proofs.Ytdnpoacjamkhkaa
open Go.ChangeShapes Go.WideShapes Go.ChangeAt Go.RowKit

theorem right_eq {lo hi : Nat} (hl : lo < 18446744073709551616) (hh : hi < 18446744073709551616) :
    (eqB lo (infI 1) && eqB hi (infI (-1)) || leB lo hi && !eqB lo (infI 1) && !eqB hi (infI (-1)) && !mz lo && !mz hi) = rightB lo hi := by
  unfold rightB leB eqB hsB
  rw [nan_inf, nan_inf, key_up, key_down]
  cases n1 : nanB lo
  · cases n2 : nanB hi
    · have k1 := nanB_key hl n1
      have k2 := nanB_key hh n2
      rw [Bool.eq_iff_iff]
      simp only [Bool.not_false, Bool.true_and, Bool.or_eq_true, Bool.and_eq_true, decide_eq_true_eq, Bool.not_eq_true', decide_eq_false_iff_not]
      constructor
      · rintro (h | ⟨⟨⟨⟨h1, h2⟩, h3⟩, h4⟩, h5⟩)
        · exact Or.inl h
        · exact Or.inr ⟨⟨⟨⟨h1, by omega⟩, by omega⟩, h4⟩, h5⟩
      · rintro (h | ⟨⟨⟨⟨h1, h2⟩, h3⟩, h4⟩, h5⟩)
        · exact Or.inl h
        · exact Or.inr ⟨⟨⟨⟨h1, by omega⟩, by omega⟩, h4⟩, h5⟩
    · simp
  · simp

theorem none_eq {lo hi : Nat} : (!rightB lo hi || ltB hi lo) = !hsB lo hi := by
  unfold rightB ltB eqB hsB
  rw [nan_inf, nan_inf, key_up, key_down]
  cases nanB lo
  · cases nanB hi
    · rw [Bool.eq_iff_iff]
      simp only [Bool.not_false, Bool.true_and, Bool.or_eq_true, decide_eq_true_eq, Bool.not_eq_true', Bool.or_eq_false_iff, Bool.and_eq_false_iff, decide_eq_false_iff_not]
      constructor
      · rintro (⟨-, h⟩ | h)
        · exact h
        · exact Or.inl (Or.inl (Or.inl (Or.inl (by omega))))
      · intro h
        by_cases c : key lo = 9218868437227405312 ∧ key hi = -9218868437227405312
        · right; omega
        · left
          refine ⟨?_, h⟩
          by_cases c1 : key lo = 9218868437227405312
          · right; intro c2; exact c ⟨c1, c2⟩
          · left; exact c1
    · simp
  · simp

theorem key_word {x : Nat} (hx : x < 18446744073709551616) : (key x = 9218868437227405312 → x = 9218868437227405312) ∧ (key x = -9218868437227405312 → x = 18442240474082181120) := by
  unfold key; split <;> omega
theorem makeP_right (lo hi : Nat) (hl : lo < 18446744073709551616) (hh : hi < 18446744073709551616) : makeP lo hi = if rightB (pz lo) (pz hi) then (pz lo, pz hi) else (infI 1, infI (-1)) := by
  unfold makeP rightB
  cases h : hsB (pz lo) (pz hi)
  · simp only [Bool.or_false]
    split
    · rename_i h1
      split
      · rename_i h2; cases h1
      · rename_i h2
        cases h1
    · rename_i h1
      split
      · rename_i h2
        unfold eqB at h2
        rw [nan_inf, nan_inf, key_up, key_down] at h2
        simp only [Bool.not_false, Bool.and_true, Bool.and_eq_true, decide_eq_true_eq] at h2
        have e1 := (key_word (pz_lt hl)).1 h2.1.2
        have e2 := (key_word (pz_lt hh)).2 h2.2.2
        rw [e1, e2]; rfl
      · rfl
  · simp

end Go.Proofs.Ytdnpoacjamkhkaa

namespace Go.Proofs.Ytdnpoacjamkhkaa
open Go.ChangeShapes Go.WideShapes Go.ChangeAt Go.RowKit

theorem has_eq {lo hi v : Nat} (hv : v < 18446744073709551616) : (hsB lo hi && leB lo v && leB v hi && !eqB v (infI 1) && !eqB v (infI (-1))) = hasB lo hi v := by
  unfold hasB
  cases hsB lo hi
  · rfl
  · cases n : nanB v
    · have e : infB v = (eqB v (infI 1) || eqB v (infI (-1))) := by
        unfold infB eqB
        rw [nan_inf, nan_inf, key_up, key_down, n]
        rw [Bool.eq_iff_iff]
        simp only [Bool.not_false, Bool.true_and, Bool.or_eq_true, decide_eq_true_eq]
        unfold key
        split <;> omega
      rw [e]
      cases leB lo v <;> cases leB v hi <;> cases eqB v (infI 1) <;> cases eqB v (infI (-1)) <;> rfl
    · have e1 : leB lo v = false := by unfold leB; rw [n]; simp
      rw [e1]; simp

theorem room_eq {x y : Nat} (hx : x < 18446744073709551616) (hy : y < 18446744073709551616) (nx : nanB x = false) (ny : nanB y = false) :
    (eqB y (infI (-1)) || ltB y x) = roomB x y ∧ (eqB y (infI 1) || ltB x y) = roomB (negB x) (negB y) := by
  unfold roomB eqB ltB
  rw [nan_inf, nan_inf, nanB_negB hx, nanB_negB hy, key_negB hx, key_negB hy, key_up, key_down, nx, ny]
  have e1 := key_word hy
  have e2 : y = 18442240474082181120 → key y = -9218868437227405312 := by rintro rfl; rfl
  have e3 : negB y = 18442240474082181120 ↔ y = 9218868437227405312 := by unfold negB; split <;> omega
  have e4 : y = 9218868437227405312 → key y = 9218868437227405312 := by rintro rfl; rfl
  simp only [Bool.not_false, Bool.true_and, e3]
  constructor
  · rw [Bool.eq_iff_iff]; simp only [Bool.or_eq_true, decide_eq_true_eq]
    constructor
    · rintro (h | h)
      · exact Or.inl (e1.2 h)
      · exact Or.inr h
    · rintro (h | h)
      · exact Or.inl (e2 h)
      · exact Or.inr h
  · rw [Bool.eq_iff_iff]; simp only [Bool.or_eq_true, decide_eq_true_eq]
    constructor
    · rintro (h | h)
      · exact Or.inl (e1.1 h)
      · exact Or.inr (by omega)
    · rintro (h | h)
      · exact Or.inl (e4 h)
      · exact Or.inr (by omega)

end Go.Proofs.Ytdnpoacjamkhkaa
