/- What Div, Sqr and Sqrt of intervals that hold numbers answer: ends with the quotient, the square, the root between them. The statement IvalHolds, walked: at every input it answers true. -/
import Derived.Test.YtnchhfhoaepjnaaGreatIw
import Derived.Test.YtnchhfhoaepjnaaGreatIt
import Derived.Test.YtnchhfhoaepjnaaGreatIu
namespace Go.Proofs.YtnchhfhoaepjnaaGreat
open Go.ChangeShapes Go.WideShapes Go.ChangeAt Go.RowKit

theorem mulV_nz {p q : Nat} (d : Int) (np : nanB p = false) (nq : nanB q = false) : mulV p q d ≠ 9223372036854775808 := by
  have e := mulV_is d np nq
  unfold mulR at e
  rw [np, nq] at e
  simp only [Bool.or_self, Bool.false_eq_true, if_false] at e
  split at e
  · injection e with e; rw [← e]; decide
  · rename_i z
    split at e
    · injection e with e
      rw [← e]
      have z' : (isZ p || isZ q) = false := by simpa using z
      have z2 := Bool.or_eq_false_iff.1 z'
      have h1 := splitM_lt p
      have h2 := splitM_lt q
      exact (roundN_facts (splitG p != splitG q) (prodM (splitM p) (splitM q)) (prodE (splitM p) (splitE p) (splitM q) (splitE q)) d (prodM_lt (splitM_zero z2.1) (splitM_zero z2.2) (by omega) (by omega))).2.1
    · injection e with e
      rw [← e]
      exact (infW_facts _).2.1

theorem order_key {x : Nat} (hx : x < 18446744073709551616) (hn : nanB x = false) : FloatKind.f64.format.order x 0 = some (if key x < 0 then .lt else if key x = 0 then .eq else .gt) := by
  have h0 : nanB 0 = false := by decide
  have k0 : key 0 = 0 := rfl
  rw [order_eq x 0 hx (by omega), hn, h0, k0]
  rfl

theorem Enc.congr {m1 m2 D U D' U' : Nat} (h : Enc m1 m2 D U) (e1 : key D = key D') (e2 : key U = key U') : Enc m1 m2 D' U' := ⟨h.l1, h.l2, h.n1, h.n2, h.z1, h.z2, by rw [← e1]; exact h.k1, by rw [← e2]; exact h.k2⟩

/-- The quotient of finite words. -/
theorem divR_fin {a b : Nat} (d : Int) (fa : finB a = true) (fb : finB b = true) (zb : isZ b = false) : divR a b d = some (divF a b d) := by
  unfold divR
  rw [fin_not_nan fa, fin_not_nan fb, zb, fa, fb]
  simp
theorem divF_facts {a b : Nat} (d : Int) (zb : isZ b = false) : nanB (divF a b d) = false ∧ divF a b d ≠ 9223372036854775808 ∧ divF a b d < 18446744073709551616 := roundN_facts _ _ _ d (divM_lt zb)

theorem div_mirror {a b : Nat} (hb : b < 18446744073709551616) (fa : finB a = true) (fb : finB b = true) (zb : isZ b = false) : key (divF a b 1) = - key (divF a (negB b) (-1)) := by
  have m := divR_mirror (a := a) (b := negB b) (negB_lt hb)
  rw [negB_negB hb, divR_fin (-1) fa (by rw [finB_negB hb]; exact fb) (by rw [isZ_negB hb]; exact zb), divR_fin 1 fa fb zb] at m
  rcases m with ⟨c, -⟩ | ⟨x, y, e1, e2, -, -, k⟩
  · cases c
  · injection e1 with e1
    injection e2 with e2
    rw [e1, e2]; exact k

theorem div_sides {a b : Nat} (ha : a < 18446744073709551616) (hb : b < 18446744073709551616) (fa : finB a = true) (fb : finB b = true) (zb : isZ b = false) :
    Le (divF a b (-1)) (divF a b 0) ∧ Le (divF a b 0) (divF a b 1) ∧ key (divF a b (-1)) ≤ 9218868437227405311 ∧ -9218868437227405311 ≤ key (divF a b 1) := by
  obtain ⟨u, hu⟩ : ∃ u : Nat, u = 1075 := ⟨_, rfl⟩
  have s := divR_sides a b
  rw [divR_fin (-1) fa fb zb, divR_fin 0 fa fb zb, divR_fin 1 fa fb zb] at s
  have t1 := (div_bot hu ha fa fb zb).2
  have t2 := (div_bot hu ha fa (b := negB b) (by rw [finB_negB hb]; exact fb) (by rw [isZ_negB hb]; exact zb)).2
  have t3 := div_mirror hb fa fb zb
  rcases s with ⟨c, -, -⟩ | ⟨d, n, v, e1, e2, e3, ok⟩
  · cases c
  · injection e1 with e1
    injection e2 with e2
    injection e3 with e3
    obtain ⟨⟨nd, nn, nu⟩, -, ⟨ld, ln, lu⟩, k1, k2, -⟩ := ok
    rw [e1] at t1 ⊢
    rw [e3] at t3 ⊢
    rw [e2]
    exact ⟨⟨ld, ln, nd, nn, k1⟩, ⟨ln, lu, nn, nu, k2⟩, t1, by omega⟩

theorem isZ_pos {b : Nat} (hb : b < 18446744073709551616) (h : key b ≠ 0) : isZ b = false := by
  cases c : isZ b
  · rfl
  · exact absurd ((key_zero hb).1 c) h

theorem le00 {x : Nat} (hn : nanB x = false) : leB 0 x = decide (0 ≤ key x) := by
  unfold leB
  have h0 : nanB 0 = false := by decide
  have k0 : key 0 = 0 := rfl
  rw [hn, h0, k0]; simp
theorem eq00 {x : Nat} (hn : nanB x = false) : eqB x 0 = decide (key x = 0) := by
  unfold eqB
  have h0 : nanB 0 = false := by decide
  have k0 : key 0 = 0 := rfl
  rw [hn, h0, k0]; simp

theorem lq_some {t dl dh a b : Nat} (ht : t < 18446744073709551616) (h1 : dl < 18446744073709551616) (h2 : dh < 18446744073709551616) (ha : a < 18446744073709551616) (hb : b < 18446744073709551616) (nt : nanB t = false) (n1 : nanB dl = false) (n2 : nanB dh = false) (fa : finB a = true) (fb : finB b = true)
    (k0 : 0 ≤ key dl) (kt : key t ≤ key a) (k1 : key dl ≤ key b) (k2 : key b ≤ key dh) (kb : 0 < key b) :
    (leB 0 t = true → ∃ r, divR t dh (-1) = some r) ∧ (leB 0 t = false → eqB dl 0 = false → ∃ r, divR t dl (-1) = some r) ∧ Le (lqP t dl dh) (divF a b (-1)) := by
  have fa' := fin_key ha fa
  have fb' := fin_key hb fb
  have zb := isZ_pos hb (by omega)
  have zh := isZ_pos h2 (show key dh ≠ 0 by omega)
  have fm := divF_facts (a := a) (-1) zb
  have v0 := V_nonneg k0
  have vt := V_mono_le kt
  have v1 := V_mono_le k1
  have v2 := V_mono_le k2
  have vb := V_pos kb
  obtain ⟨u, hu⟩ : ∃ u : Nat, u = 1075 := ⟨_, rfl⟩
  have kbot := (div_bot hu ha fa fb zb).1
  clear hu
  unfold lqP
  rw [le00 nt, eq00 n1]
  by_cases c : 0 ≤ key t
  · have ft : finB t = true := by
      cases h : finB t
      · rcases (key_inf ht nt).1 h with d | d <;> omega
      · rfl
    have vt0 := V_nonneg c
    simp only [c, decide_true, if_true]
    cases fh : finB dh
    · have e : divR t dh (-1) = some 0 := by unfold divR; rw [nt, n2, zh, ft, fh]; simp
      refine ⟨fun _ => ⟨_, e⟩, (fun h => by cases h), ?_⟩
      have e2 : divD t dh = 0 := by unfold divD; rw [e, Option.getD_some]
      rw [e2]
      have kk : key 0 ≤ key (divF a b (-1)) := div_nonneg ha hb fa fb (by omega) kb
      exact ⟨by omega, fm.2.2, by decide, fm.1, kk⟩
    · have e : divR t dh (-1) = some (divF t dh (-1)) := divR_fin (-1) ft fh zh
      refine ⟨fun _ => ⟨_, e⟩, (fun h => by cases h), ?_⟩
      have e2 : divD t dh = divF t dh (-1) := by unfold divD; rw [e, Option.getD_some]
      rw [e2]
      have g := divF_facts (a := t) (-1) zh
      refine ⟨g.2.2, fm.2.2, g.1, fm.1, div_le ht h2 ha hb ft fh fa fb (by omega) kb ?_⟩
      exact Int.mul_le_mul vt v2 (by omega) (by omega)
  · simp only [c, decide_false, Bool.false_eq_true, if_false]
    refine ⟨(fun h => by cases h), ?_⟩
    by_cases cz : key dl = 0
    · simp only [cz, decide_true, if_true]
      exact ⟨(fun _ h => by cases h), infI_lt _, fm.2.2, nan_inf _, fm.1, by rw [key_down]; exact kbot⟩
    · simp only [cz, decide_false, Bool.false_eq_true, if_false]
      have zl := isZ_pos h1 cz
      have fl : finB dl = true := by
        cases h : finB dl
        · rcases (key_inf h1 n1).1 h with d | d <;> omega
        · rfl
      have vl := V_pos (show 0 < key dl by omega)
      have vt0 := V_lt0 (show key t < 0 by omega)
      cases ft : finB t
      · have zt := isZ_pos ht (show key t ≠ 0 by omega)
        have e : divR t dl (-1) = some (infW (signB t != signB dl)) := by unfold divR; rw [nt, n1, zl, ft, fl]; simp
        refine ⟨fun _ _ => ⟨_, e⟩, ?_⟩
        have e2 : divD t dl = infW (signB t != signB dl) := by unfold divD; rw [e, Option.getD_some]
        rw [e2]
        have i := infW_facts (signB t != signB dl)
        refine ⟨i.2.2.1, fm.2.2, i.1, fm.1, ?_⟩
        rw [infW_key, sign_key ht zt, sign_key h1 zl]
        have q1 : key t < 0 := by omega
        have q2 : ¬ key dl < 0 := by omega
        simp only [q1, q2, decide_true, decide_false]
        simpa using kbot
      · have e : divR t dl (-1) = some (divF t dl (-1)) := divR_fin (-1) ft fl zl
        refine ⟨fun _ _ => ⟨_, e⟩, ?_⟩
        have e2 : divD t dl = divF t dl (-1) := by unfold divD; rw [e, Option.getD_some]
        rw [e2]
        have g := divF_facts (a := t) (-1) zl
        refine ⟨g.2.2, fm.2.2, g.1, fm.1, div_le ht h1 ha hb ft fl fa fb (by omega) kb ?_⟩
        generalize V (key t) = T at *
        generalize V (key dl) = L at *
        generalize V (key a) = A at *
        generalize V (key b) = B at *
        rcases Int.lt_or_le A 0 with ca | ca
        · have s1 : T * B ≤ A * B := Int.mul_le_mul_of_nonneg_right vt (by omega)
          have s2 : A * B ≤ A * L := Int.mul_le_mul_of_nonpos_left (by omega) v1
          omega
        · have s1 : T * B ≤ 0 := Int.mul_nonpos_of_nonpos_of_nonneg (by omega) (by omega)
          have s2 : 0 ≤ A * L := Int.mul_nonneg ca (by omega)
          omega

theorem div_swap {a b : Nat} (ha : a < 18446744073709551616) (hb : b < 18446744073709551616) (fa : finB a = true) (fb : finB b = true) (zb : isZ b = false) : key (divF (negB a) b (-1)) = key (divF a (negB b) (-1)) := by
  have := div_flip ha (negB_lt hb) fa (by rw [finB_negB hb]; exact fb) (by rw [isZ_negB hb]; exact zb)
  rw [negB_negB hb] at this
  exact this

theorem shrink_holds {xl xh dl dh a b : Nat} (X : Held xl xh a) (D : Held dl dh b) (k0 : 0 ≤ key dl) (kb : 0 < key b) : ∃ m1 m2, (∀ w, Calls Tryz.prog 123 #[.agg #[.float .f64 xl, .float .f64 xh], .agg #[.float .f64 dl, .float .f64 dh]] w fun e w' => e = .returned (.agg #[.float .f64 m1, .float .f64 m2]) ∧ Below w.heap.size w w') ∧
    Enc m1 m2 (divF a b (-1)) (divF a b 1) := by
  have zb := isZ_pos D.hv (by omega)
  obtain ⟨s1, s2, s3, s4⟩ := div_sides X.hv D.hv X.fv D.fv zb
  obtain ⟨p1, p2, l1⟩ := lq_some X.hl D.hl D.hh X.hv D.hv X.nl D.nl D.nh X.fv D.fv k0 X.kl D.kl D.kh kb
  have n5 : nanB (negB xh) = false := by rw [nanB_negB X.hh]; exact X.nh
  obtain ⟨q1, q2, l2⟩ := lq_some (negB_lt X.hh) D.hl D.hh (negB_lt X.hv) D.hv n5 D.nl D.nh (by rw [finB_negB X.hv]; exact X.fv) D.fv k0 (by rw [key_negB X.hh, key_negB X.hv]; have := X.kh; omega) D.kl D.kh kb
  have sw := div_swap X.hv D.hv X.fv D.fv zb
  have mi := div_mirror D.hv X.fv D.fv zb
  have r1 := s1.le
  have r2 := s2.le
  have r3 := l2.le
  refine ⟨_, _, fun w => shrink_core xl xh dl dh (negB xh) (lqP xl dl dh) (lqP (negB xh) dl dh) (negB (lqP (negB xh) dl dh)) _ _ (negFloat_eq xh X.hh) (negFloat_eq _ l2.r1)
    (fun w => lq_w xl dl dh X.hl D.hl D.hh p1 p2 w) (fun w => lq_w (negB xh) dl dh (negB_lt X.hh) D.hl D.hh q1 q2 w) (fun w => make_w _ _ l1.r1 (negB_lt l2.r1) w) w, ?_⟩
  exact enc_make l1.r1 (negB_lt l2.r1) l1.r2 (by rw [nanB_negB l2.r1]; exact l2.r2) l1.le (by rw [key_negB l2.r1]; omega) (by omega) s3 s4

theorem point0_w (w : World) : Calls Tryz.prog 114 #[.float .f64 0] w fun e w' => e = .returned (.agg #[.float .f64 0, .float .f64 0]) ∧ Below w.heap.size w w' := by
  have h := point_w 0 (by omega) w
  have e : makeP 0 0 = (0, 0) := by
    have h1 : pz 0 = 0 := rfl
    have h2 : hsB 0 0 = true := by decide
    unfold makeP
    rw [h1, if_pos h2]
  rw [e] at h
  exact h

theorem div_holds {xl xh yl yh a b : Nat} (X : Held xl xh a) (Y : Held yl yh b) (kb : key b ≠ 0) : ∃ m1 m2, (∀ w, Calls Tryz.prog 73 #[.agg #[.float .f64 xl, .float .f64 xh], .agg #[.float .f64 yl, .float .f64 yh]] w fun e w' => e = .returned (.agg #[.float .f64 m1, .float .f64 m2]) ∧ Below w.heap.size w w') ∧
    Enc m1 m2 (divF a b (-1)) (divF a b 1) := by
  have c0 := some2 X Y
  have zb := isZ_pos Y.hv kb
  have o1 := order_key Y.hl Y.nl
  have o2 := order_key Y.hh Y.nh
  have x1 := o_eq X.hl (show 0 < 18446744073709551616 by omega)
  have x2 := o_eq X.hh (show 0 < 18446744073709551616 by omega)
  rw [eq00 X.nl] at x1
  rw [eq00 X.nh] at x2
  have ky1 := Y.kl
  have ky2 := Y.kh
  by_cases cx : key xl = 0 ∧ key xh = 0
  · have ka : key a = 0 := by have := X.kl; have := X.kh; omega
    have hy : FloatKind.f64.format.order yl 0 = some .gt ∨ FloatKind.f64.format.order yl 0 = some .lt ∨ FloatKind.f64.format.order yl 0 = some .eq ∧ FloatKind.f64.format.order yh 0 = some .gt := by
      rcases Int.lt_trichotomy (key yl) 0 with c | c | c
      · right; left; rw [o1, if_pos c]
      · right; right
        refine ⟨by rw [o1, if_neg (by omega), if_pos c], ?_⟩
        rw [o2, if_neg (by omega), if_neg (by omega)]
      · left; rw [o1, if_neg (by omega), if_neg (by omega)]
    have z : ∀ d, divF a b d = 0 := fun d => by
      have za : splitM a = 0 := by
        have := (key_zero X.hv).2 ka
        have h : a % 9223372036854775808 = 0 := by simpa [isZ] using this
        unfold splitM; rw [if_pos (by omega), h]
      unfold divF
      have t0 : topN 0 = 0 := by unfold topN; simp
      have q0 : quoM (splitM a) (splitM b) = 0 := by rw [za]; unfold quoM; rw [t0, Nat.zero_mul, Nat.zero_div, Nat.zero_mod]; rfl
      rw [q0]
      unfold roundN
      rw [if_pos rfl]
    refine ⟨0, 0, fun w => div_z xl xh yl yh c0 point0_w hy (by rw [x1]; simp [cx.1]) (by rw [x2]; simp [cx.2]) w, ?_⟩
    rw [z, z]
    exact ⟨by omega, by omega, by decide, by decide, by omega, by omega, Int.le_refl _, Int.le_refl _⟩
  · have hx : (decide (key xl = 0)) = false ∨ (decide (key xl = 0)) = true ∧ (decide (key xh = 0)) = false := by
      by_cases c : key xl = 0
      · right
        refine ⟨by simp [c], ?_⟩
        have : ¬ key xh = 0 := fun h => cx ⟨c, h⟩
        simp [this]
      · left; simp [c]
    by_cases p1 : 0 ≤ key yl
    · have kb' : 0 < key b := by omega
      obtain ⟨m1, m2, cs, e⟩ := shrink_holds X Y p1 kb'
      have hy : FloatKind.f64.format.order yl 0 = some .gt ∨ FloatKind.f64.format.order yl 0 = some .eq ∧ FloatKind.f64.format.order yh 0 = some .gt := by
        by_cases c : key yl = 0
        · right
          refine ⟨by rw [o1, if_neg (by omega), if_pos c], ?_⟩
          rw [o2, if_neg (by omega), if_neg (by omega)]
        · left; rw [o1, if_neg (by omega), if_neg c]
      exact ⟨m1, m2, fun w => div_a xl xh yl yh m1 m2 _ _ c0 point0_w hy x1 x2 hx cs w, e⟩
    · have oy : FloatKind.f64.format.order yl 0 = some .lt := by rw [o1, if_pos (by omega)]
      by_cases p2 : key yh ≤ 0
      · obtain ⟨NX, k1, k2⟩ := held_neg X
        obtain ⟨NY, k3, k4⟩ := held_neg Y
        have kb' : 0 < key (negB b) := by rw [key_negB Y.hv]; omega
        obtain ⟨m1, m2, cs, e⟩ := shrink_holds NX NY (by omega) kb'
        have hy : FloatKind.f64.format.order yh 0 = some .lt ∨ FloatKind.f64.format.order yh 0 = some .eq := by
          by_cases c : key yh = 0
          · right; rw [o2, if_neg (by omega), if_pos c]
          · left; rw [o2, if_pos (by omega)]
        have fl := div_flip X.hv Y.hv X.fv Y.fv zb
        have zn : isZ (negB b) = false := by rw [isZ_negB Y.hv]; exact zb
        have u1 := div_mirror (a := negB a) (b := negB b) (negB_lt Y.hv) NX.fv NY.fv zn
        rw [negB_negB Y.hv] at u1
        have u2 := div_mirror Y.hv X.fv Y.fv zb
        have sw := div_swap X.hv Y.hv X.fv Y.fv zb
        obtain ⟨oL, oH, hL, hH⟩ : ∃ oL oH : Nat → Nat → Nat, (∀ p q, oL p q = (mirrorP (p, q)).1) ∧ (∀ p q, oH p q = (mirrorP (p, q)).2) := ⟨fun p q => (mirrorP (p, q)).1, fun p q => (mirrorP (p, q)).2, fun _ _ => rfl, fun _ _ => rfl⟩
        rw [← hL xl xh, ← hH xl xh, ← hL yl yh, ← hH yl yh] at cs
        have cM : ∀ p q, p < 18446744073709551616 → q < 18446744073709551616 → ∀ w, Calls Tryz.prog 121 #[.agg #[.float .f64 p, .float .f64 q]] w fun e w' => e = .returned (.agg #[.float .f64 (oL p q), .float .f64 (oH p q)]) ∧ Below w.heap.size w w' := fun p q hp hq w => by
          rw [hL, hH]; exact mirror_w p q hp hq w
        have e2 : key (divF (negB a) (negB b) 1) = key (divF a b 1) := by rw [u1, u2, sw]
        have e' := e.congr fl e2
        clear e2 u1 u2 sw fl e
        exact ⟨m1, m2, fun w => div_b xl xh yl yh m1 m2 oL oH _ _ X.hl X.hh Y.hl Y.hh c0 point0_w oy hy x1 x2 hx cM cs w, e'⟩
      · have oy2 : FloatKind.f64.format.order yh 0 = some .gt := by rw [o2, if_neg (by omega), if_neg (by omega)]
        have f1 := (divF_facts (a := a) (-1) zb)
        have f2 := (divF_facts (a := a) 1 zb)
        refine ⟨_, _, fun w => div_whole xl xh yl yh _ _ c0 point0_w oy oy2 x1 x2 hx w, ?_⟩
        have g1 := nanB_key f1.2.2 f1.1
        have g2 := nanB_key f2.2.2 f2.1
        exact ⟨infI_lt _, infI_lt _, nan_inf _, nan_inf _, by decide, by decide, by rw [key_down]; exact g1.1, by rw [key_up]; exact g2.2⟩

theorem key_abs {x : Nat} (hx : x < 18446744073709551616) : key (x % 9223372036854775808) = if key x < 0 then - key x else key x := by
  unfold key
  rw [if_pos (by omega)]
  by_cases c : x < 9223372036854775808
  · rw [if_pos c, if_neg (by omega)]; omega
  · rw [if_neg c]
    split <;> omega

theorem sqr_holds {xl xh a : Nat} (X : Held xl xh a) : ∃ m1 m2, (∀ w, Calls Tryz.prog 117 #[.agg #[.float .f64 xl, .float .f64 xh]] w fun e w' => e = .returned (.agg #[.float .f64 m1, .float .f64 m2]) ∧ Below w.heap.size w w') ∧ Enc m1 m2 (mulV a a (-1)) (mulV a a 1) := by
  have fa' := fin_key X.hv X.fv
  have na := fin_not_nan X.fv
  have kl := X.kl
  have kh := X.kh
  have al := key_abs X.hl
  have ah := key_abs X.hh
  have nl : nanB (xl % 9223372036854775808) = false := by rw [nan_abs]; exact X.nl
  have nh : nanB (xh % 9223372036854775808) = false := by rw [nan_abs]; exact X.nh
  have q1 := minW_key (xl % 9223372036854775808) (xh % 9223372036854775808)
  have q2 := maxW_key (xl % 9223372036854775808) (xh % 9223372036854775808)
  have g : magP xl xh = maxW (xl % 9223372036854775808) (xh % 9223372036854775808) := by unfold magP; rw [if_pos X.hs]
  have mig : migP xl xh < 18446744073709551616 ∧ nanB (migP xl xh) = false ∧ 0 ≤ key (migP xl xh) ∧ (key (migP xl xh) ≤ key a ∨ key (migP xl xh) ≤ - key a) := by
    unfold migP
    rw [if_pos X.hs]
    by_cases h : hasB xl xh 0 = true
    · rw [if_pos h]
      have k00 : key 0 = 0 := rfl
      exact ⟨by omega, by decide, by decide, by rw [k00]; omega⟩
    · rw [if_neg h]
      have out : ¬ (key xl ≤ 0 ∧ 0 ≤ key xh) := fun c => h (by
        unfold hasB
        rw [X.hs]
        have h0 : nanB 0 = false := by decide
        have k0 : key 0 = 0 := rfl
        have i0 : infB 0 = false := by decide
        unfold leB
        rw [X.nl, X.nh, h0, i0, k0]
        simp [c.1, c.2])
      refine ⟨?_, ?_, ?_, ?_⟩
      · rcases q1.2 with c | c <;> rw [c] <;> omega
      · rcases q1.2 with c | c <;> rw [c] <;> assumption
      · rw [q1.1, al, ah]; split <;> split <;> omega
      · rw [q1.1, al, ah]; split <;> split <;> omega
  have mag : magP xl xh < 18446744073709551616 ∧ nanB (magP xl xh) = false ∧ key a ≤ key (magP xl xh) ∧ - key a ≤ key (magP xl xh) := by
    rw [g]
    refine ⟨?_, ?_, ?_, ?_⟩
    · rcases q2.2 with c | c <;> rw [c] <;> omega
    · rcases q2.2 with c | c <;> rw [c] <;> assumption
    · rw [q2.1, al, ah]; split <;> split <;> omega
    · rw [q2.1, al, ah]; split <;> split <;> omega
  have c1 := fun w => mig_w xl xh X.hl X.hh w
  have c2 := fun w => mag_w xl xh X.hl X.hh w
  clear g q1 q2
  generalize migP xl xh = p at *
  generalize magP xl xh = q at *
  obtain ⟨hp, np, kp0, kp⟩ := mig
  obtain ⟨hq, nq, kq1, kq2⟩ := mag
  have fp : finB p = true := by
    cases h : finB p
    · rcases (key_inf hp np).1 h with d | d <;> omega
    · rfl
  have f1 := mulV_facts (-1) np np
  have f2 := mulV_facts 1 nq nq
  refine ⟨_, _, fun w => sqr_core xl xh p q _ _ (some1 X) c1 c2 (fun w => mulV_w p p (-1) hp hp np np w) (fun w => mulV_w q q 1 hq hq nq nq w) w, f1.2, f2.2, f1.1, f2.1, mulV_nz (-1) np np, mulV_nz 1 nq nq, ?_, ?_⟩
  · refine mulV_le hp hp X.hv X.hv np np X.fv X.fv ?_ (fun h => by rw [fp] at h; cases h)
    have v0 := V_nonneg kp0
    rcases kp with c | c
    · have v1 := V_mono_le c
      exact Int.mul_le_mul v1 v1 v0 (by omega)
    · have v1 := V_mono_le c
      rw [V_neg] at v1
      have := Int.mul_le_mul v1 v1 v0 (by omega)
      rwa [Int.neg_mul_neg] at this
  · have u1 := mulV_mirror' X.hv na na
    have u2 := mulV_mirror' hq nq nq
    have fna : finB (negB a) = true := by rw [finB_negB X.hv]; exact X.fv
    have eq : V (key (negB q)) = - V (key q) := by rw [key_negB hq, V_neg]
    have ea : V (key (negB a)) = - V (key a) := by rw [key_negB X.hv, V_neg]
    have v1 := V_mono_le kq1
    have v2 := V_mono_le kq2
    rw [V_neg] at v2
    have vq : 0 ≤ V (key q) := V_nonneg (by omega)
    have z : V (key (negB q)) * V (key q) ≤ 0 := by rw [eq]; exact Int.mul_nonpos_of_nonpos_of_nonneg (by omega) vq
    have := mulV_le (negB_lt hq) hq (negB_lt X.hv) X.hv (by rw [nanB_negB hq]; exact nq) nq fna X.fv (by
      rw [eq, ea, Int.neg_mul, Int.neg_mul]
      have : V (key a) * V (key a) ≤ V (key q) * V (key q) := by
        rcases Int.le_total 0 (V (key a)) with c | c
        · exact Int.mul_le_mul v1 v1 c vq
        · have := Int.mul_le_mul v2 v2 (by omega) vq
          rwa [Int.neg_mul_neg] at this
      omega) (fun _ => z)
    omega

theorem sqrtR_fin {a : Nat} (d : Int) (fa : finB a = true) (ga : splitG a = false) : sqrtR a d = some (sqrtF a d) := by
  unfold sqrtR
  rw [fin_not_nan fa, ga, fa, if_neg (by decide), if_pos rfl]
theorem sqrtR_infinite {a : Nat} (d : Int) (na : nanB a = false) (fa : finB a = false) (ga : splitG a = false) : sqrtR a d = some a := by
  unfold sqrtR
  rw [na, ga, fa, if_neg (by decide), if_neg (by decide)]
theorem sqrtV_fin {a : Nat} (d : Int) (fa : finB a = true) (ga : splitG a = false) : sqrtV a d = sqrtF a d := by
  have h := sqrtV_is d (fin_not_nan fa) ga
  rw [sqrtR_fin d fa ga] at h
  injection h with h
  exact h.symm
theorem sqrtF_facts {a : Nat} (d : Int) : nanB (sqrtF a d) = false ∧ sqrtF a d ≠ 9223372036854775808 ∧ sqrtF a d < 18446744073709551616 :=
  by unfold sqrtF; exact roundN_facts false (rootM (splitM a) (splitE a)) (rootE (splitM a) (splitE a)) d (rootM_lt (by have := splitM_lt a; omega))
theorem nneg_G {x : Nat} (hx : x < 18446744073709551616) (h : 0 ≤ key x) : splitG x = false := by
  unfold splitG
  unfold key at h
  simp only [decide_eq_false_iff_not]
  split at h <;> omega

theorem sqrt_holds {xl xh a : Nat} (X : Held xl xh a) (ka : 0 ≤ key a) : ∃ m1 m2, (∀ w, Calls Tryz.prog 76 #[.agg #[.float .f64 xl, .float .f64 xh]] w fun e w' => e = .returned (.agg #[.float .f64 m1, .float .f64 m2]) ∧ Below w.heap.size w w') ∧ Btw m1 m2 (sqrtV a 0) := by
  have fa' := fin_key X.hv X.fv
  have kl := X.kl
  have kh := X.kh
  have q := maxW_key xl 0
  have k00 : key 0 = 0 := rfl
  rw [k00] at q
  have n0 : nanB 0 = false := by decide
  have hm := fun ts t w => max_f (a := xl) (b := 0) X.hl (by omega) X.nl n0 Tryz.prog ts t w
  have hp : maxW xl 0 < 18446744073709551616 ∧ nanB (maxW xl 0) = false := by
    rcases q.2 with c | c <;> rw [c]
    · exact ⟨X.hl, X.nl⟩
    · exact ⟨by omega, n0⟩
  have kp := q.1
  clear q
  generalize maxW xl 0 = p at *
  have gp := nneg_G hp.1 (show 0 ≤ key p by omega)
  have gh := nneg_G X.hh (show 0 ≤ key xh by omega)
  have ga := nneg_G X.hv ka
  have fp : finB p = true := by
    cases h : finB p
    · rcases (key_inf hp.1 hp.2).1 h with d | d <;> omega
    · rfl
  have o : (FloatKind.f64.format.order xh 0 == some .lt) = false := by
    rw [o_lt X.hh (by omega), lt0 X.nh]; simp; omega
  refine ⟨_, _, fun w => sqrt_core_i xl xh p _ _ (some1 X) o hm (fun w => sqrtV_w p (-1) hp.1 hp.2 gp w) (fun w => sqrtV_w xh 1 X.hh X.nh gh w) w, ?_⟩
  have s := sqrtR_sides X.hv
  have na := fin_not_nan X.fv
  rw [sqrtV_is (-1) na ga, sqrtV_is 0 na ga, sqrtV_is 1 na ga] at s
  have d1 := sqrt_mono_down hp.1 X.hv fp X.fv (by omega) (show key p ≤ key a by omega)
  rw [← sqrtV_fin (-1) fp gp, ← sqrtV_fin (-1) X.fv ga] at d1
  have fp' := sqrtF_facts (a := p) (-1)
  rw [← sqrtV_fin (-1) fp gp] at fp'
  have up : Le (sqrtV a 1) (sqrtV xh 1) := by
    have f1 := sqrtF_facts (a := a) 1
    rw [← sqrtV_fin 1 X.fv ga] at f1
    cases fh : finB xh
    · have e : sqrtV xh 1 = xh := by
        have h := sqrtV_is 1 X.nh gh
        rw [sqrtR_infinite 1 X.nh fh gh] at h
        injection h with h
        exact h.symm
      rw [e]
      have g1 := nanB_key f1.2.2 f1.1
      refine ⟨f1.2.2, X.hh, f1.1, X.nh, ?_⟩
      rcases (key_inf X.hh X.nh).1 fh with c | c <;> omega
    · have f2 := sqrtF_facts (a := xh) 1
      rw [← sqrtV_fin 1 fh gh] at f2
      have m := sqrt_mono_up X.hv X.hh X.fv fh ka kh
      rw [← sqrtV_fin 1 X.fv ga, ← sqrtV_fin 1 fh gh] at m
      exact ⟨f1.2.2, f2.2.2, f1.1, f2.1, m⟩
  rcases s with ⟨c, -, -⟩ | ⟨d, n, u, e1, e2, e3, ok⟩
  · cases c
  · injection e1 with e1
    injection e2 with e2
    injection e3 with e3
    obtain ⟨⟨nd, nn, nu⟩, -, ⟨ld, ln, lu⟩, k1, k2, -⟩ := ok
    rw [e2]
    rw [e1] at d1
    rw [e3] at up
    exact Le.btw ⟨fp'.2.2, ln, fp'.1, nn, Int.le_trans d1 k1⟩ (Le.trans ⟨ln, lu, nn, nu, k2⟩ up)

theorem told_calls {f : FuncId} {args : Array Value} {o : Option Nat} {v : Nat} (h : o = some v) (c : ∀ w, Calls Tryz.prog f args w fun x w' => Ans o x ∧ Below w.heap.size w w') :
    ∀ w, Calls Tryz.prog f args w fun e w' => e = .returned (.float .f64 v) ∧ Below w.heap.size w w' := fun w => by
  have c := c w
  rw [h] at c
  refine c.mono ?_
  rintro _ _ ⟨⟨r, rfl, -, e⟩, hb⟩
  have e : r = v := e
  rw [e]
  exact ⟨rfl, hb⟩

theorem told2_calls {f : FuncId} {args : Array Value} {o p : Option Nat} {v u : Nat} (h : o = some v) (k : p = some u) (c : ∀ w, Calls Tryz.prog f args w fun e w' => (∃ r1 r2, e = .returned (.agg #[.float .f64 r1, .float .f64 r2]) ∧ Told o r1 ∧ Told p r2) ∧ Below w.heap.size w w') :
    ∀ w, Calls Tryz.prog f args w fun e w' => e = .returned (.agg #[.float .f64 v, .float .f64 u]) ∧ Below w.heap.size w w' := fun w => by
  have c := c w
  rw [h, k] at c
  refine c.mono ?_
  rintro _ _ ⟨⟨r1, r2, rfl, t1, t2⟩, hb⟩
  have e1 : r1 = v := t1.2
  have e2 : r2 = u := t2.2
  rw [e1, e2]
  exact ⟨rfl, hb⟩

theorem negP_is {lo hi v : Nat} (h : Held lo hi v) : negP (lo, hi) = mirrorP (lo, hi) := by
  unfold negP
  rw [if_pos h.hs]

end Go.Proofs.YtnchhfhoaepjnaaGreat
