/- What Div of intervals that hold numbers answers: ends with the quotient between them. -/
import Derived.Test.YtmdhgaiklgmmpaaIy
namespace Go.Proofs.Ytmdhgaiklgmmpaa
open Go.ChangeShapes Go.WideShapes Go.ChangeAt Go.RowKit

theorem div_swap {a b : Nat} (ha : a < 18446744073709551616) (hb : b < 18446744073709551616) (fa : finB a = true) (fb : finB b = true) (zb : isZ b = false) : key (divF (negB a) b (-1)) = key (divF a (negB b) (-1)) := by
  have := div_flip ha (negB_lt hb) fa (by rw [finB_negB hb]; exact fb) (by rw [isZ_negB hb]; exact zb)
  rw [negB_negB hb] at this
  exact this

theorem shrink_holds {xl xh dl dh a b : Nat} (X : Held xl xh a) (D : Held dl dh b) (k0 : 0 ≤ key dl) (kb : 0 < key b) : ∃ m1 m2, (∀ w, Calls Try.prog 70 #[.agg #[.float .f64 xl, .float .f64 xh], .agg #[.float .f64 dl, .float .f64 dh]] w fun e w' => e = .returned (.agg #[.float .f64 m1, .float .f64 m2]) ∧ Below w.heap.size w w') ∧
    Enc m1 m2 (divF a b (-1)) (divF a b 1) := by
  have zb := isZ_pos D.hv (by omega)
  obtain ⟨s1, s2, s3, s4⟩ := div_sides X.hv D.hv X.fv D.fv zb
  obtain ⟨p1, p2, l1⟩ := lq_some X.hl D.hl D.hh X.hv D.hv X.nl D.nl D.nh X.fv D.fv k0 X.kl D.kl D.kh kb
  have n5 : nanB (negB xh) = false := by rw [nanB_negB X.hh]; exact X.nh
  obtain ⟨q1, q2, l2⟩ := lq_some (negB_lt X.hh) D.hl D.hh (negB_lt X.hv) D.hv n5 D.nl D.nh (by rw [finB_negB X.hv]; exact X.fv) D.fv k0 (by rw [key_negB X.hh, key_negB X.hv]; have := X.kh; omega) D.kl D.kh kb
  have sw := div_swap X.hv D.hv X.fv D.fv zb
  have mi := div_mirror D.hv X.fv D.fv zb
  have r1 := s1.le
  have r2 := s2.le
  have r3 := l2.le
  refine ⟨_, _, fun w => shrink_core xl xh dl dh (negB xh) (lqP xl dl dh) (lqP (negB xh) dl dh) (negB (lqP (negB xh) dl dh)) _ _ (negFloat_eq xh X.hh) (negFloat_eq _ l2.r1)
    (fun w => lq_w xl dl dh X.hl D.hl D.hh p1 p2 w) (fun w => lq_w (negB xh) dl dh (negB_lt X.hh) D.hl D.hh q1 q2 w) (fun w => make_w _ _ l1.r1 (negB_lt l2.r1) w) w, ?_⟩
  exact enc_make l1.r1 (negB_lt l2.r1) l1.r2 (by rw [nanB_negB l2.r1]; exact l2.r2) l1.le (by rw [key_negB l2.r1]; omega) (by omega) s3 s4

theorem point0_w (w : World) : Calls Try.prog 20 #[.float .f64 0] w fun e w' => e = .returned (.agg #[.float .f64 0, .float .f64 0]) ∧ Below w.heap.size w w' := by
  have h := point_w 0 (by omega) w
  have e : makeP 0 0 = (0, 0) := by
    have h1 : pz 0 = 0 := rfl
    have h2 : hsB 0 0 = true := by decide
    unfold makeP
    rw [h1, if_pos h2]
  rw [e] at h
  exact h

theorem div_holds {xl xh yl yh a b : Nat} (X : Held xl xh a) (Y : Held yl yh b) (kb : key b ≠ 0) : ∃ m1 m2, (∀ w, Calls Try.prog 38 #[.agg #[.float .f64 xl, .float .f64 xh], .agg #[.float .f64 yl, .float .f64 yh]] w fun e w' => e = .returned (.agg #[.float .f64 m1, .float .f64 m2]) ∧ Below w.heap.size w w') ∧
    Enc m1 m2 (divF a b (-1)) (divF a b 1) := by
  have c0 := some2 X Y
  have zb := isZ_pos Y.hv kb
  have o1 := order_key Y.hl Y.nl
  have o2 := order_key Y.hh Y.nh
  have x1 := o_eq X.hl (show 0 < 18446744073709551616 by omega)
  have x2 := o_eq X.hh (show 0 < 18446744073709551616 by omega)
  rw [eq00 X.nl] at x1
  rw [eq00 X.nh] at x2
  have ky1 := Y.kl
  have ky2 := Y.kh
  by_cases cx : key xl = 0 ∧ key xh = 0
  · have ka : key a = 0 := by have := X.kl; have := X.kh; omega
    have hy : FloatKind.f64.format.order yl 0 = some .gt ∨ FloatKind.f64.format.order yl 0 = some .lt ∨ FloatKind.f64.format.order yl 0 = some .eq ∧ FloatKind.f64.format.order yh 0 = some .gt := by
      rcases Int.lt_trichotomy (key yl) 0 with c | c | c
      · right; left; rw [o1, if_pos c]
      · right; right
        refine ⟨by rw [o1, if_neg (by omega), if_pos c], ?_⟩
        rw [o2, if_neg (by omega), if_neg (by omega)]
      · left; rw [o1, if_neg (by omega), if_neg (by omega)]
    have z : ∀ d, divF a b d = 0 := fun d => by
      have za : splitM a = 0 := by
        have := (key_zero X.hv).2 ka
        have h : a % 9223372036854775808 = 0 := by simpa [isZ] using this
        unfold splitM; rw [if_pos (by omega), h]
      unfold divF
      have t0 : topN 0 = 0 := by unfold topN; simp
      have q0 : quoM (splitM a) (splitM b) = 0 := by rw [za]; unfold quoM; rw [t0, Nat.zero_mul, Nat.zero_div, Nat.zero_mod]; rfl
      rw [q0]
      unfold roundN
      rw [if_pos rfl]
    refine ⟨0, 0, fun w => div_z xl xh yl yh c0 point0_w hy (by rw [x1]; simp [cx.1]) (by rw [x2]; simp [cx.2]) w, ?_⟩
    rw [z, z]
    exact ⟨by omega, by omega, by decide, by decide, by omega, by omega, Int.le_refl _, Int.le_refl _⟩
  · have hx : (decide (key xl = 0)) = false ∨ (decide (key xl = 0)) = true ∧ (decide (key xh = 0)) = false := by
      by_cases c : key xl = 0
      · right
        refine ⟨by simp [c], ?_⟩
        have : ¬ key xh = 0 := fun h => cx ⟨c, h⟩
        simp [this]
      · left; simp [c]
    by_cases p1 : 0 ≤ key yl
    · have kb' : 0 < key b := by omega
      obtain ⟨m1, m2, cs, e⟩ := shrink_holds X Y p1 kb'
      have hy : FloatKind.f64.format.order yl 0 = some .gt ∨ FloatKind.f64.format.order yl 0 = some .eq ∧ FloatKind.f64.format.order yh 0 = some .gt := by
        by_cases c : key yl = 0
        · right
          refine ⟨by rw [o1, if_neg (by omega), if_pos c], ?_⟩
          rw [o2, if_neg (by omega), if_neg (by omega)]
        · left; rw [o1, if_neg (by omega), if_neg c]
      exact ⟨m1, m2, fun w => div_a xl xh yl yh m1 m2 _ _ c0 point0_w hy x1 x2 hx cs w, e⟩
    · have oy : FloatKind.f64.format.order yl 0 = some .lt := by rw [o1, if_pos (by omega)]
      by_cases p2 : key yh ≤ 0
      · obtain ⟨NX, k1, k2⟩ := held_neg X
        obtain ⟨NY, k3, k4⟩ := held_neg Y
        have kb' : 0 < key (negB b) := by rw [key_negB Y.hv]; omega
        obtain ⟨m1, m2, cs, e⟩ := shrink_holds NX NY (by omega) kb'
        have hy : FloatKind.f64.format.order yh 0 = some .lt ∨ FloatKind.f64.format.order yh 0 = some .eq := by
          by_cases c : key yh = 0
          · right; rw [o2, if_neg (by omega), if_pos c]
          · left; rw [o2, if_pos (by omega)]
        have fl := div_flip X.hv Y.hv X.fv Y.fv zb
        have zn : isZ (negB b) = false := by rw [isZ_negB Y.hv]; exact zb
        have u1 := div_mirror (a := negB a) (b := negB b) (negB_lt Y.hv) NX.fv NY.fv zn
        rw [negB_negB Y.hv] at u1
        have u2 := div_mirror Y.hv X.fv Y.fv zb
        have sw := div_swap X.hv Y.hv X.fv Y.fv zb
        obtain ⟨oL, oH, hL, hH⟩ : ∃ oL oH : Nat → Nat → Nat, (∀ p q, oL p q = (mirrorP (p, q)).1) ∧ (∀ p q, oH p q = (mirrorP (p, q)).2) := ⟨fun p q => (mirrorP (p, q)).1, fun p q => (mirrorP (p, q)).2, fun _ _ => rfl, fun _ _ => rfl⟩
        rw [← hL xl xh, ← hH xl xh, ← hL yl yh, ← hH yl yh] at cs
        have cM : ∀ p q, p < 18446744073709551616 → q < 18446744073709551616 → ∀ w, Calls Try.prog 69 #[.agg #[.float .f64 p, .float .f64 q]] w fun e w' => e = .returned (.agg #[.float .f64 (oL p q), .float .f64 (oH p q)]) ∧ Below w.heap.size w w' := fun p q hp hq w => by
          rw [hL, hH]; exact mirror_w p q hp hq w
        have e2 : key (divF (negB a) (negB b) 1) = key (divF a b 1) := by rw [u1, u2, sw]
        have e' := e.congr fl e2
        clear e2 u1 u2 sw fl e
        exact ⟨m1, m2, fun w => div_b xl xh yl yh m1 m2 oL oH _ _ X.hl X.hh Y.hl Y.hh c0 point0_w oy hy x1 x2 hx cM cs w, e'⟩
      · have oy2 : FloatKind.f64.format.order yh 0 = some .gt := by rw [o2, if_neg (by omega), if_neg (by omega)]
        have f1 := (divF_facts (a := a) (-1) zb)
        have f2 := (divF_facts (a := a) 1 zb)
        refine ⟨_, _, fun w => div_whole xl xh yl yh _ _ c0 point0_w oy oy2 x1 x2 hx w, ?_⟩
        have g1 := nanB_key f1.2.2 f1.1
        have g2 := nanB_key f2.2.2 f2.1
        exact ⟨infI_lt _, infI_lt _, nan_inf _, nan_inf _, by decide, by decide, by rw [key_down]; exact g1.1, by rw [key_up]; exact g2.2⟩

end Go.Proofs.Ytmdhgaiklgmmpaa
