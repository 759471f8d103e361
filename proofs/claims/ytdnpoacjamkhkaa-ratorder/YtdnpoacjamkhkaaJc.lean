/- The walks of counted, Hull and Meet. The walks of Meet, of the laws' hull, and of Add and Mul with an interval that holds nothing. Plain facts: hulls hold both, meets lie in both and hold just what both hold. What is taken off itself holds nought, what is divided by itself one; negatives twice; the least amount is not above the greatest. A region that draws its order, whose callees make memory of their own but change none: one walk, in the text's order, over all worlds that are as the first one was below its end. The walk of the statement IvalLattice: its two variables. IvalLattice: for every two intervals and every float64 the statement's answer is true. -/
import Derived.Test.YtdnpoacjamkhkaaIo
import Derived.Test.YtdnpoacjamkhkaaRr
import Derived.Test.YtdnpoacjamkhkaaIy
import Derived.Test.YtdnpoacjamkhkaaWx
import Derived.Test.YtdnpoacjamkhkaaWg
import Derived.BigQuiet
import Derived.Test.YtdnpoacjamkhkaaIi
import Derived.Test.YtdnpoacjamkhkaaIs
import Derived.Deep.RegionWith
namespace Go.Proofs.Ytdnpoacjamkhkaa
open Go.ChangeShapes Go.WideShapes Go.ChangeAt Go.RowKit

/-- What an interval counts as. -/
def cntP (lo hi : Nat) : Nat × Nat := if hsB lo hi then (lo, hi) else (infI 1, infI (-1))

theorem Has2.put {w : World} {b : Nat} {x y : Value} (h : Has2 w b x y) (x' y' : Value) : Has2 ((w.setCell ⟨b, 0, none⟩ x').setCell ⟨b, 1, none⟩ y') b x' y' := by
  obtain ⟨h0, h1, f0, f1, hl⟩ := h
  refine ⟨by go_simp, by go_simp, by go_simp, by go_simp, ?_⟩
  simp only [World.size_setCell]; exact hl
theorem Has2.far {w : World} {b c : Nat} {x y : Value} (h : Has2 w b x y) (hne : c ≠ b) (x' y' : Value) : Has2 ((w.setCell ⟨c, 0, none⟩ x').setCell ⟨c, 1, none⟩ y') b x y := by
  obtain ⟨h0, h1, f0, f1, hl⟩ := h
  have hne' : b ≠ c := fun e => hne e.symm
  refine ⟨by simp [World.cell?_setCell_far, *], by simp [World.cell?_setCell_far, *], by go_simp, by go_simp, ?_⟩
  simp only [World.size_setCell]; exact hl

/-- The hull and the meet of two intervals. -/
def hullP (xl xh yl yh : Nat) : Nat × Nat := (minW (cntP xl xh).1 (cntP yl yh).1, maxW (cntP xl xh).2 (cntP yl yh).2)
def meetP (xl xh yl yh : Nat) : Nat × Nat := if hsB xl xh && hsB yl yh then makeP (maxW xl yl) (minW xh yh) else (infI 1, infI (-1))

theorem hs_num {lo hi : Nat} (h : hsB lo hi = true) : nanB lo = false ∧ nanB hi = false := by
  unfold hsB at h
  simp only [Bool.and_eq_true, Bool.not_eq_true'] at h
  exact ⟨h.1.1.1.1.1.1, h.1.1.1.1.1.2⟩
theorem cntP_num {lo hi : Nat} (hl : lo < 18446744073709551616) (hh : hi < 18446744073709551616) : (cntP lo hi).1 < 18446744073709551616 ∧ (cntP lo hi).2 < 18446744073709551616 ∧ nanB (cntP lo hi).1 = false ∧ nanB (cntP lo hi).2 = false := by
  unfold cntP
  split
  · rename_i h
    exact ⟨hl, hh, (hs_num h).1, (hs_num h).2⟩
  · exact ⟨infI_lt 1, infI_lt (-1), nan_inf 1, nan_inf (-1)⟩

set_option maxHeartbeats 1000000 in
theorem add_none (xl xh yl yh : Nat) (h1 : xl < 18446744073709551616) (h2 : xh < 18446744073709551616) (h3 : yl < 18446744073709551616) (h4 : yh < 18446744073709551616) (hs : (hsB xl xh && hsB yl yh) = false) (w : World) :
    Calls Try.prog 28 #[.agg #[.float .f64 xl, .float .f64 xh], .agg #[.float .f64 yl, .float .f64 yh]] w fun e w' => e = .returned (.agg #[.float .f64 (infI 1), .float .f64 (infI (-1))]) ∧ Below w.heap.size w w' := by
  have c1 := fun b W hlt c0 c1 c2 c3 => someEmpty2_w b xl xh yl yh h1 h2 h3 h4 W hlt c0 c1 c2 c3
  rw [hs] at c1
  clear hs h1 h2 h3 h4
  go_enter Try.func28, Try.ntmps28
  go_wp2_with (first
    | (go_at_call 58; refine (c1 (w.heap.size + 1 + 1 + 1) _ (by go_size) (by go_simp) (by go_simp) (by go_simp) (by go_simp)).mono ?_; rintro _ w1 ⟨rfl, hb1⟩
       have R : Has2 w1 (w.heap.size + 1 + 1) (.float .f64 0) (.float .f64 0) := Has2.keep ⟨by go_simp, by go_simp, by go_simp, by go_simp, by go_size⟩ hb1
       have HB : Below w.heap.size w w1 := later (by go_grown) hb1)
    | (go_at_call 59; refine (empty_w _).mono ?_; rintro _ w2 ⟨rfl, hb2⟩; replace HB := later HB hb2; obtain ⟨d0, d1, d2, d3, d4⟩ := R.keep hb2))
  refine bodyPost_ret (v := .agg #[.float .f64 (infI 1), .float .f64 (infI (-1))]) (by simp [results, Try.results28, go_sem, *]) rfl ⟨rfl, ?_⟩
  repeat' (first | (with_reducible exact HB) | (with_reducible refine Below.setCell ?_ ?_ _) | go_size)

set_option maxHeartbeats 1000000 in
theorem mul_none (xl xh yl yh : Nat) (h1 : xl < 18446744073709551616) (h2 : xh < 18446744073709551616) (h3 : yl < 18446744073709551616) (h4 : yh < 18446744073709551616) (hs : (hsB xl xh && hsB yl yh) = false) (w : World) :
    Calls Try.prog 29 #[.agg #[.float .f64 xl, .float .f64 xh], .agg #[.float .f64 yl, .float .f64 yh]] w fun e w' => e = .returned (.agg #[.float .f64 (infI 1), .float .f64 (infI (-1))]) ∧ Below w.heap.size w w' := by
  have c1 := fun b W hlt c0 c1 c2 c3 => someEmpty2_w b xl xh yl yh h1 h2 h3 h4 W hlt c0 c1 c2 c3
  rw [hs] at c1
  clear hs h1 h2 h3 h4
  go_enter Try.func29, Try.ntmps29
  go_wp2_with (first
    | (go_at_call 58; refine (c1 (w.heap.size + 1 + 1 + 1) _ (by go_size) (by go_simp) (by go_simp) (by go_simp) (by go_simp)).mono ?_; rintro _ w1 ⟨rfl, hb1⟩
       have R : Has2 w1 (w.heap.size + 1 + 1) (.float .f64 0) (.float .f64 0) := Has2.keep ⟨by go_simp, by go_simp, by go_simp, by go_simp, by go_size⟩ hb1
       have HB : Below w.heap.size w w1 := later (by go_grown) hb1)
    | (go_at_call 59; refine (empty_w _).mono ?_; rintro _ w2 ⟨rfl, hb2⟩; replace HB := later HB hb2; obtain ⟨d0, d1, d2, d3, d4⟩ := R.keep hb2))
  refine bodyPost_ret (v := .agg #[.float .f64 (infI 1), .float .f64 (infI (-1))]) (by simp [results, Try.results29, go_sem, *]) rfl ⟨rfl, ?_⟩
  repeat' (first | (with_reducible exact HB) | (with_reducible refine Below.setCell ?_ ?_ _) | go_size)

theorem pick_nan {z a b : Nat} (h : z = a ∨ z = b) (ha : nanB a = false) (hb : nanB b = false) : nanB z = false := by
  rcases h with rfl | rfl
  · exact ha
  · exact hb
theorem pick_ne {z a b : Nat} (h : z = a ∨ z = b) (ha : a ≠ 9223372036854775808) (hb : b ≠ 9223372036854775808) : z ≠ 9223372036854775808 := by
  rcases h with rfl | rfl
  · exact ha
  · exact hb

structure Some2 (lo hi : Nat) : Prop where
  nl : nanB lo = false
  nh : nanB hi = false
  le : key lo ≤ key hi
  lt : key lo < 9218868437227405312
  gt : -9218868437227405312 < key hi
  zl : lo ≠ 9223372036854775808
  zh : hi ≠ 9223372036854775808

theorem hs_iff {lo hi : Nat} : hsB lo hi = true ↔ Some2 lo hi := by
  unfold hsB mz
  simp only [Bool.and_eq_true, Bool.not_eq_true', decide_eq_true_eq, decide_eq_false_iff_not]
  constructor
  · rintro ⟨⟨⟨⟨⟨⟨a, b⟩, c⟩, d⟩, e⟩, f⟩, g⟩
    exact ⟨a, b, c, d, e, f, g⟩
  · rintro ⟨a, b, c, d, e, f, g⟩
    exact ⟨⟨⟨⟨⟨⟨a, b⟩, c⟩, d⟩, e⟩, f⟩, g⟩

theorem le_iff {a b : Nat} : leB a b = true ↔ nanB a = false ∧ nanB b = false ∧ key a ≤ key b := by
  unfold leB
  simp only [Bool.and_eq_true, Bool.not_eq_true', decide_eq_true_eq]
  constructor
  · rintro ⟨⟨a, b⟩, c⟩; exact ⟨a, b, c⟩
  · rintro ⟨a, b, c⟩; exact ⟨⟨a, b⟩, c⟩

theorem inside_iff {xl xh yl yh : Nat} : insideB xl xh yl yh = true ↔ (Some2 xl xh → Some2 yl yh ∧ key yl ≤ key xl ∧ key xh ≤ key yh) := by
  unfold insideB
  cases h : hsB xl xh
  · simp only [Bool.not_false, Bool.true_or, true_iff]
    intro s
    rw [hs_iff.2 s] at h
    cases h
  · have X := hs_iff.1 h
    simp only [Bool.not_true, Bool.false_or, Bool.and_eq_true, hs_iff, le_iff]
    constructor
    · rintro ⟨⟨a, b⟩, c⟩ _
      exact ⟨a, b.2.2, c.2.2⟩
    · intro f
      obtain ⟨a, b, c⟩ := f X
      exact ⟨⟨a, a.nl, X.nl, b⟩, X.nh, a.nh, c⟩

/-- The ends that an interval counts with. -/
theorem cnt_ends (lo hi : Nat) : (Some2 lo hi ∧ cntP lo hi = (lo, hi)) ∨ (¬ Some2 lo hi ∧ cntP lo hi = (infI 1, infI (-1))) := by
  unfold cntP
  cases h : hsB lo hi
  · right
    exact ⟨(fun s => by rw [hs_iff.2 s] at h; cases h), by simp⟩
  · left
    exact ⟨hs_iff.1 h, by simp⟩

theorem inside_hull (xl xh yl yh : Nat) : insideB xl xh (hullP xl xh yl yh).1 (hullP xl xh yl yh).2 = true ∧ insideB yl yh (hullP xl xh yl yh).1 (hullP xl xh yl yh).2 = true := by
  have q1 := minW_key (cntP xl xh).1 (cntP yl yh).1
  have q2 := maxW_key (cntP xl xh).2 (cntP yl yh).2
  have main : (Some2 xl xh ∨ Some2 yl yh) → Some2 (hullP xl xh yl yh).1 (hullP xl xh yl yh).2 := by
    intro s
    unfold hullP
    simp only
    rcases cnt_ends xl xh with ⟨X, ex⟩ | ⟨X, ex⟩ <;> rcases cnt_ends yl yh with ⟨Y, ey⟩ | ⟨Y, ey⟩
    · rw [ex, ey] at q1 q2 ⊢
      simp only at q1 q2 ⊢
      have := X.le; have := Y.le; have := X.lt; have := Y.lt; have := X.gt; have := Y.gt
      refine ⟨?_, ?_, by omega, by omega, by omega, ?_, ?_⟩
      · exact pick_nan q1.2 X.nl Y.nl
      · exact pick_nan q2.2 X.nh Y.nh
      · exact pick_ne q1.2 X.zl Y.zl
      · exact pick_ne q2.2 X.zh Y.zh
    · rw [ex, ey] at q1 q2 ⊢
      simp only [key_up, key_down] at q1 q2 ⊢
      have := X.le; have := X.lt; have := X.gt
      refine ⟨?_, ?_, by omega, by omega, by omega, ?_, ?_⟩
      · exact pick_nan q1.2 X.nl (nan_inf 1)
      · exact pick_nan q2.2 X.nh (nan_inf (-1))
      · exact pick_ne q1.2 X.zl (by decide)
      · exact pick_ne q2.2 X.zh (by decide)
    · rw [ex, ey] at q1 q2 ⊢
      simp only [key_up, key_down] at q1 q2 ⊢
      have := Y.le; have := Y.lt; have := Y.gt
      refine ⟨?_, ?_, by omega, by omega, by omega, ?_, ?_⟩
      · exact pick_nan q1.2 (nan_inf 1) Y.nl
      · exact pick_nan q2.2 (nan_inf (-1)) Y.nh
      · exact pick_ne q1.2 (by decide) Y.zl
      · exact pick_ne q2.2 (by decide) Y.zh
    · rcases s with s | s
      · exact absurd s X
      · exact absurd s Y
  refine ⟨inside_iff.2 fun X => ⟨main (Or.inl X), ?_, ?_⟩, inside_iff.2 fun Y => ⟨main (Or.inr Y), ?_, ?_⟩⟩
  · show key (minW _ _) ≤ _
    rw [q1.1]
    rcases cnt_ends xl xh with ⟨-, ex⟩ | ⟨n, -⟩
    · rw [ex]; exact Int.min_le_left _ _
    · exact absurd X n
  · show _ ≤ key (maxW _ _)
    rw [q2.1]
    rcases cnt_ends xl xh with ⟨-, ex⟩ | ⟨n, -⟩
    · rw [ex]; exact Int.le_max_left _ _
    · exact absurd X n
  · show key (minW _ _) ≤ _
    rw [q1.1]
    rcases cnt_ends yl yh with ⟨-, ex⟩ | ⟨n, -⟩
    · rw [ex]; exact Int.min_le_right _ _
    · exact absurd Y n
  · show _ ≤ key (maxW _ _)
    rw [q2.1]
    rcases cnt_ends yl yh with ⟨-, ex⟩ | ⟨n, -⟩
    · rw [ex]; exact Int.le_max_right _ _
    · exact absurd Y n

theorem not_some_empty : ¬ Some2 (infI 1) (infI (-1)) := fun s => by have := s.lt; rw [key_up] at this; omega

/-- A meet is empty, or both hold some number and its ends are the inner ones. -/
theorem meet_ends (xl xh yl yh : Nat) : (¬ Some2 (meetP xl xh yl yh).1 (meetP xl xh yl yh).2 ∧ (Some2 xl xh → Some2 yl yh → key yh < key xl ∨ key xh < key yl)) ∨
    (Some2 (meetP xl xh yl yh).1 (meetP xl xh yl yh).2 ∧ Some2 xl xh ∧ Some2 yl yh ∧ key (meetP xl xh yl yh).1 = max (key xl) (key yl) ∧ key (meetP xl xh yl yh).2 = min (key xh) (key yh)) := by
  have q1 := maxW_key xl yl
  have q2 := minW_key xh yh
  unfold meetP
  by_cases h : (hsB xl xh && hsB yl yh) = true
  · obtain ⟨hx, hy⟩ := Bool.and_eq_true_iff.1 h
    have X := hs_iff.1 hx
    have Y := hs_iff.1 hy
    rw [if_pos h]
    unfold makeP
    by_cases g : hsB (pz (maxW xl yl)) (pz (minW xh yh)) = true
    · right
      rw [if_pos g]
      exact ⟨hs_iff.1 g, X, Y, by rw [key_pz]; exact q1.1, by rw [key_pz]; exact q2.1⟩
    · left
      rw [if_neg g]
      refine ⟨not_some_empty, fun _ _ => ?_⟩
      have a1 := X.le; have a2 := Y.le; have a3 := X.lt; have a4 := Y.lt; have a5 := X.gt; have a6 := Y.gt
      rcases Int.lt_or_le (min (key xh) (key yh)) (max (key xl) (key yl)) with c | c
      · omega
      · exfalso
        apply g
        refine hs_iff.2 ⟨?_, ?_, by rw [key_pz, key_pz, q1.1, q2.1]; exact c, by rw [key_pz, q1.1]; omega, by rw [key_pz, q2.1]; omega, pz_ne _, pz_ne _⟩
        · rw [nan_pz]; exact pick_nan q1.2 X.nl Y.nl
        · rw [nan_pz]; exact pick_nan q2.2 X.nh Y.nh
  · left
    rw [if_neg h]
    refine ⟨not_some_empty, fun X Y => ?_⟩
    rw [hs_iff.2 X, hs_iff.2 Y] at h
    exact absurd rfl h

theorem meet_inside (xl xh yl yh : Nat) : insideB (meetP xl xh yl yh).1 (meetP xl xh yl yh).2 xl xh = true ∧ insideB (meetP xl xh yl yh).1 (meetP xl xh yl yh).2 yl yh = true := by
  rcases meet_ends xl xh yl yh with ⟨n, -⟩ | ⟨s, X, Y, k1, k2⟩
  · exact ⟨inside_iff.2 fun s => absurd s n, inside_iff.2 fun s => absurd s n⟩
  · exact ⟨inside_iff.2 fun _ => ⟨X, by rw [k1]; omega, by rw [k2]; omega⟩, inside_iff.2 fun _ => ⟨Y, by rw [k1]; omega, by rw [k2]; omega⟩⟩

theorem has_iff {lo hi v : Nat} : hasB lo hi v = true ↔ Some2 lo hi ∧ infB v = false ∧ nanB v = false ∧ key lo ≤ key v ∧ key v ≤ key hi := by
  unfold hasB
  simp only [Bool.and_eq_true, Bool.not_eq_true', hs_iff, le_iff]
  constructor
  · rintro ⟨⟨⟨a, b⟩, c⟩, d⟩; exact ⟨a, b, c.2.1, c.2.2, d.2.2⟩
  · rintro ⟨a, b, c, d, e⟩; exact ⟨⟨⟨a, b⟩, a.nl, c, d⟩, c, a.nh, e⟩

theorem has_meet (xl xh yl yh v : Nat) : hasB (meetP xl xh yl yh).1 (meetP xl xh yl yh).2 v = (hasB xl xh v && hasB yl yh v) := by
  rw [Bool.eq_iff_iff, Bool.and_eq_true, has_iff, has_iff, has_iff]
  rcases meet_ends xl xh yl yh with ⟨n, h⟩ | ⟨s, X, Y, k1, k2⟩
  · constructor
    · intro g; exact absurd g.1 n
    · rintro ⟨⟨X, -, -, a, b⟩, ⟨Y, -, -, c, d⟩⟩
      have := h X Y
      omega
  · rw [k1, k2]
    constructor
    · rintro ⟨-, b, c, d, e⟩
      exact ⟨⟨X, b, c, by omega, by omega⟩, ⟨Y, b, c, by omega, by omega⟩⟩
    · rintro ⟨⟨-, b, c, d, e⟩, ⟨-, -, -, f, g⟩⟩
      exact ⟨s, b, c, by omega, by omega⟩

theorem held_at {lo hi v : Nat} (hl : lo < 18446744073709551616) (hh : hi < 18446744073709551616) (hv : v < 18446744073709551616) (S : Some2 lo hi) (fv : finB v = true) (k1 : key lo ≤ key v) (k2 : key v ≤ key hi) : Held lo hi v :=
  ⟨hl, hh, hv, S.nl, S.nh, fv, k1, k2, S.zl, S.zh, hs_iff.2 S⟩

theorem held_some {lo hi : Nat} (hl : lo < 18446744073709551616) (hh : hi < 18446744073709551616) (S : Some2 lo hi) : ∃ a, Held lo hi a := by
  cases f1 : finB lo
  · cases f2 : finB hi
    · refine ⟨0, held_at hl hh (by omega) S (by decide) ?_ ?_⟩
      · have k0 : key 0 = 0 := rfl
        rw [k0]
        have := S.lt
        rcases (key_inf hl S.nl).1 f1 with c | c <;> omega
      · have k0 : key 0 = 0 := rfl
        rw [k0]
        have := S.gt
        rcases (key_inf hh S.nh).1 f2 with c | c <;> omega
    · exact ⟨hi, held_at hl hh hh S f2 S.le (Int.le_refl _)⟩
  · exact ⟨lo, held_at hl hh hl S f1 (Int.le_refl _) S.le⟩

theorem held_nonzero {lo hi : Nat} (hl : lo < 18446744073709551616) (hh : hi < 18446744073709551616) (S : Some2 lo hi) (h : ¬ (key lo = 0 ∧ key hi = 0)) : ∃ a, Held lo hi a ∧ key a ≠ 0 := by
  have s1 := S.le
  have s2 := S.lt
  have s3 := S.gt
  by_cases c1 : finB lo = true ∧ key lo ≠ 0
  · exact ⟨lo, held_at hl hh hl S c1.1 (Int.le_refl _) S.le, c1.2⟩
  · by_cases c2 : finB hi = true ∧ key hi ≠ 0
    · exact ⟨hi, held_at hl hh hh S c2.1 S.le (Int.le_refl _), c2.2⟩
    · have l : key lo = -9218868437227405312 ∨ key lo = 0 := by
        cases f : finB lo
        · rcases (key_inf hl S.nl).1 f with c | c
          · omega
          · exact Or.inl c
        · exact Or.inr (Decidable.not_not.1 fun n => c1 ⟨f, n⟩)
      have u : key hi = 9218868437227405312 ∨ key hi = 0 := by
        cases f : finB hi
        · rcases (key_inf hh S.nh).1 f with c | c
          · exact Or.inl c
          · omega
        · exact Or.inr (Decidable.not_not.1 fun n => c2 ⟨f, n⟩)
      rcases l with l | l
      · have k : key 13830554455654793216 = -4607182418800017408 := by decide
        exact ⟨13830554455654793216, held_at hl hh (by omega) S (by decide) (by rw [k]; omega) (by rw [k]; omega), by rw [k]; omega⟩
      · have k : key 4607182418800017408 = 4607182418800017408 := by decide
        exact ⟨4607182418800017408, held_at hl hh (by omega) S (by decide) (by rw [k]; omega) (by rw [k]; omega), by rw [k]; omega⟩

theorem addR_nz {a b r : Nat} {d : Int} (h : addR a b d = some r) : r ≠ 9223372036854775808 := by
  unfold addR at h
  split at h
  · cases h
  · split at h
    · injection h with h
      rw [← h]
      exact (addF_facts a b d).2.1
    · rename_i nf
      split at h
      · cases h
      · injection h with h
        rw [← h]
        cases fa : finB a
        · simp only [Bool.false_eq_true, if_false]
          exact inf_ne fa
        · simp only [if_true]
          refine inf_ne ?_
          cases fb : finB b
          · rfl
          · rw [fa, fb] at nf; exact absurd rfl nf

theorem one_val {u : Nat} (hu : u = 1074) : V (key 4607182418800017408) = ((2 ^ u : Nat) : Int) := by
  have k : key 4607182418800017408 = ((4607182418800017408 : Nat) : Int) := by decide
  rw [k, V_nat]
  obtain ⟨t, ht⟩ : ∃ t : Nat, t = 1022 := ⟨_, rfl⟩
  have e : 4607182418800017408 = t * 4503599627370496 + 4503599627370496 := by omega
  rw [e, val_grid (by omega) (Or.inr (by omega)), show 4503599627370496 = 2 ^ 52 from rfl, ← Nat.pow_add, show 52 + t = u by omega]

/-- A world behind w0: what was there is as it was. -/
structure Behind (w0 : World) where
  W : World
  bel : Below w0.heap.size w0 W

instance (w0 : World) : Nonempty (Behind w0) := ⟨⟨w0, Below.refl _ _⟩⟩

theorem region_behind {P : Program} {id : Nat} {Q : Exit → Act → World → Prop} {a : Act} {w : World} {l : List Oper} (hm : P.follows .mixedOrders = true) (hB : Region.lexB .any l.toArray = true)
    (h : wpQuiet P l.toArray (fun w' => ∃ n : Behind w, w' = n.W) (fun a' => ∀ w', (∃ n : Behind w, w' = n.W) → Q .normal a' w') l a) : (Code.region id l.toArray true).wp P Q a w :=
  wp_region_quiet (C := fun w' => ∃ n : Behind w, w' = n.W) hm hB ⟨⟨w.drew, (Below.refl _ _).drew⟩, rfl⟩ (by simpa using h)

theorem Behind.call {P : Program} {f : FuncId} {args : Array Value} {w0 : World} {n : Behind w0} {v : Value} (h : Calls P f args n.W fun e w' => e = .returned v ∧ Below n.W.heap.size n.W w') :
    Calls P f args n.W fun e w'' => e = .returned v ∧ ∃ m : Behind w0, w'' = m.W :=
  h.mono fun _ w' ⟨a, b⟩ => ⟨a, ⟨⟨w', later n.bel b⟩, rfl⟩⟩

theorem Behind.same {P : Program} {f : FuncId} {args : Array Value} {w0 : World} {n : Behind w0} {v : Value} (h : Calls P f args n.W fun e w' => e = .returned v ∧ n.W = w') :
    Calls P f args n.W fun e w'' => e = .returned v ∧ ∃ m : Behind w0, w'' = m.W :=
  h.mono fun _ _ ⟨a, b⟩ => ⟨a, ⟨n, b.symm⟩⟩

theorem Behind.cell {w0 : World} (n : Behind w0) {b o : Nat} {v : Value} (h : w0.cell? ⟨b, o, none⟩ = some v) (hl : b < w0.heap.size) : n.W.cell? ⟨b, o, none⟩ = some v := keepsC n.bel h hl

theorem Has2.c0 {w : World} {b : Nat} {x y : Value} (h : Has2 w b x y) : w.cell? ⟨b, 0, none⟩ = some x := h.1
theorem Has2.c1 {w : World} {b : Nat} {x y : Value} (h : Has2 w b x y) : w.cell? ⟨b, 1, none⟩ = some y := h.2.1
theorem Has2.drew {w : World} {b : Nat} {x y : Value} (h : Has2 w b x y) : Has2 w.drew b x y := h
theorem Has2.alloc {w : World} {b : Nat} {x y : Value} (h : Has2 w b x y) (o : Obj) : Has2 (w.alloc o) b x y := h.keep ((Below.refl _ _).alloc (Nat.le_refl _) o)
theorem below_alloc {w W : World} (h : Below w.heap.size w W) (o : Obj) : Below w.heap.size w (W.alloc o) := h.alloc h.size o
theorem has2_new (w : World) (x y : Value) (T : TypeId) : Has2 (w.alloc (.cells #[x, y] T)) w.heap.size x y := ⟨by go_simp, by go_simp, by go_simp, by go_simp, by go_size⟩

theorem has2_new1 (w : World) (o : Obj) (x y : Value) (T : TypeId) : Has2 ((w.alloc o).alloc (.cells #[x, y] T)) (w.heap.size + 1) x y := by
  have := has2_new (w.alloc o) x y T
  simpa only [World.size_alloc] using this
theorem has2_new2 (w : World) (b c : Addr) (u v x y : Value) (T : TypeId) : Has2 (((w.setCell b u).setCell c v).alloc (.cells #[x, y] T)) w.heap.size x y := by
  have := has2_new ((w.setCell b u).setCell c v) x y T
  simpa only [World.size_setCell] using this

theorem o_nought {a : Nat} (ha : a < 18446744073709551616) (na : nanB a = false) : (FloatKind.f64.format.order a 0 == some .eq) = decide (key a = 0) := by
  have n0 : nanB 0 = false := by decide
  have k0 : key 0 = 0 := rfl
  rw [order_eq a 0 ha (by omega), na, n0, k0]
  simp only [Bool.or_self, Bool.false_eq_true, if_false, compare_int]
  by_cases c : key a < 0
  · have : ¬ key a = 0 := by omega
    rw [if_pos c]; simp [this]
  · rw [if_neg c]
    by_cases e : key a = 0
    · rw [if_pos e]; simp [e]
    · rw [if_neg e]; simp [e]

theorem mig_mag {lo hi : Nat} (S : Some2 lo hi) : leB (migP lo hi) (magP lo hi) = true := by
  have hs := hs_iff.2 S
  have ka : key (lo % 9223372036854775808) = ((lo % 9223372036854775808 : Nat) : Int) := by unfold key; rw [if_pos (by omega)]
  have kb : key (hi % 9223372036854775808) = ((hi % 9223372036854775808 : Nat) : Int) := by unfold key; rw [if_pos (by omega)]
  have na : nanB (lo % 9223372036854775808) = false := by rw [nan_abs]; exact S.nl
  have nb : nanB (hi % 9223372036854775808) = false := by rw [nan_abs]; exact S.nh
  unfold migP magP
  rw [hs]
  simp only [if_true]
  obtain ⟨m1, m2⟩ := minW_key (lo % 9223372036854775808) (hi % 9223372036854775808)
  obtain ⟨m3, m4⟩ := maxW_key (lo % 9223372036854775808) (hi % 9223372036854775808)
  have n3 := pick_nan m2 na nb
  have n4 := pick_nan m4 na nb
  rw [le_iff]
  cases hasB lo hi 0
  · simp only [Bool.false_eq_true, if_false]
    exact ⟨n3, n4, by omega⟩
  · simp only [if_true]
    have k0 : key 0 = 0 := rfl
    exact ⟨by decide, n4, by rw [k0]; omega⟩

theorem pick_lt {z a b : Nat} (h : z = a ∨ z = b) (ha : a < 18446744073709551616) (hb : b < 18446744073709551616) : z < 18446744073709551616 := by
  rcases h with h | h <;> rw [h] <;> assumption

theorem hullP_lt {xl xh yl yh : Nat} (h1 : xl < 18446744073709551616) (h2 : xh < 18446744073709551616) (h3 : yl < 18446744073709551616) (h4 : yh < 18446744073709551616) : (hullP xl xh yl yh).1 < 18446744073709551616 ∧ (hullP xl xh yl yh).2 < 18446744073709551616 := by
  unfold hullP
  have a := cntP_num h1 h2
  have b := cntP_num h3 h4
  exact ⟨pick_lt (minW_key _ _).2 a.1 b.1, pick_lt (maxW_key _ _).2 a.2.1 b.2.1⟩

theorem meetP_lt {xl xh yl yh : Nat} (h1 : xl < 18446744073709551616) (h2 : xh < 18446744073709551616) (h3 : yl < 18446744073709551616) (h4 : yh < 18446744073709551616) : (meetP xl xh yl yh).1 < 18446744073709551616 ∧ (meetP xl xh yl yh).2 < 18446744073709551616 := by
  unfold meetP
  split
  · exact makeP_lt (pick_lt (maxW_key _ _).2 h1 h3) (pick_lt (minW_key _ _).2 h2 h4)
  · exact ⟨infI_lt 1, infI_lt (-1)⟩

theorem mig_lt (lo hi : Nat) : migP lo hi < 18446744073709551616 := by
  unfold migP
  split
  · split
    · omega
    · exact pick_lt (minW_key _ _).2 absw absw
  · omega
theorem mag_lt (lo hi : Nat) : magP lo hi < 18446744073709551616 := by
  unfold magP
  split
  · exact pick_lt (maxW_key _ _).2 absw absw
  · omega

end Go.Proofs.Ytdnpoacjamkhkaa
