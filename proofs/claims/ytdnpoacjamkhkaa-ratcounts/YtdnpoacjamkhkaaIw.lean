/- What Mul of intervals that hold numbers answers: ends with the product between them. -/
import Derived.Test.YtdnpoacjamkhkaaRr
import Derived.Test.YtdnpoacjamkhkaaIp
namespace Go.Proofs.Ytdnpoacjamkhkaa
open Go.ChangeShapes Go.WideShapes Go.ChangeAt Go.RowKit

theorem ge0 {x : Nat} (hx : x < 18446744073709551616) (hn : nanB x = false) : (FloatKind.f64.format.order x 0 == some .gt || FloatKind.f64.format.order x 0 == some .eq) = decide (0 ≤ key x) := by
  rw [o_ge hx (by omega)]
  unfold leB
  have h0 : nanB 0 = false := by decide
  have k0 : key 0 = 0 := rfl
  rw [hn, h0, k0]; simp
theorem le0 {x : Nat} (hx : x < 18446744073709551616) (hn : nanB x = false) : (FloatKind.f64.format.order x 0 == some .lt || FloatKind.f64.format.order x 0 == some .eq) = decide (key x ≤ 0) := by
  rw [o_le hx (by omega)]
  unfold leB
  have h0 : nanB 0 = false := by decide
  have k0 : key 0 = 0 := rfl
  rw [hn, h0, k0]; simp

theorem lpP_lt {t fl fh : Nat} (nt : nanB t = false) (n1 : nanB fl = false) (n2 : nanB fh = false) : lpP t fl fh < 18446744073709551616 := by
  unfold lpP
  split
  · exact (mulV_facts (-1) nt n2).2
  · exact (mulV_facts (-1) nt n1).2

theorem stretch_w (xl xh fl fh : Nat) (h1 : xl < 18446744073709551616) (h2 : xh < 18446744073709551616) (h3 : fl < 18446744073709551616) (h4 : fh < 18446744073709551616) (n1 : nanB xl = false) (n2 : nanB xh = false) (n3 : nanB fl = false) (n4 : nanB fh = false) (w : World) :
    Calls Try.prog 64 #[.agg #[.float .f64 xl, .float .f64 xh], .agg #[.float .f64 fl, .float .f64 fh]] w fun e w' => e = .returned (.agg #[.float .f64 (makeP (lpP xl fl fh) (negB (lpP (negB xh) fl fh))).1, .float .f64 (makeP (lpP xl fl fh) (negB (lpP (negB xh) fl fh))).2]) ∧ Below w.heap.size w w' := by
  have n5 : nanB (negB xh) = false := by rw [nanB_negB h2]; exact n2
  have b1 := lpP_lt (t := xl) n1 n3 n4
  have b2 := lpP_lt (t := negB xh) n5 n3 n4
  exact stretch_core xl xh fl fh (negB xh) (lpP xl fl fh) (lpP (negB xh) fl fh) (negB (lpP (negB xh) fl fh)) _ _ (negFloat_eq xh h2) (negFloat_eq _ b2)
    (fun w => lp_w xl fl fh h1 h3 h4 n1 n3 n4 w) (fun w => lp_w (negB xh) fl fh (negB_lt h2) h3 h4 n5 n3 n4 w) (fun w => make_w _ _ b1 (negB_lt b2) w) w

theorem some2 {xl xh yl yh a b : Nat} (X : Held xl xh a) (Y : Held yl yh b) : ∀ b W, b < W.heap.size → W.cell? ⟨b, 0, none⟩ = some (.float .f64 xl) → W.cell? ⟨b, 1, none⟩ = some (.float .f64 xh) → W.cell? ⟨b, 2, none⟩ = some (.float .f64 yl) → W.cell? ⟨b, 3, none⟩ = some (.float .f64 yh) →
    Calls Try.prog 58 #[.slice (some ⟨b, 0, none⟩) 2 2] W fun e w' => e = .returned (.bool false) ∧ Below W.heap.size W w' := by
  intro b W hlt c0 c1 c2 c3
  have h := someEmpty2_w b xl xh yl yh X.hl X.hh Y.hl Y.hh W hlt c0 c1 c2 c3
  rw [X.hs, Y.hs] at h
  exact h
theorem some1 {xl xh a : Nat} (X : Held xl xh a) : ∀ b W, W.cell? ⟨b, 0, none⟩ = some (.float .f64 xl) → W.cell? ⟨b, 1, none⟩ = some (.float .f64 xh) →
    Calls Try.prog 58 #[.slice (some ⟨b, 0, none⟩) 1 1] W fun e w' => e = .returned (.bool false) ∧ Below W.heap.size W w' := by
  intro b W c0 c1
  have h := someEmpty1_w b xl xh X.hl X.hh W c0 c1
  rw [X.hs] at h
  exact h

theorem mul_holds {xl xh yl yh a b : Nat} (X : Held xl xh a) (Y : Held yl yh b) : ∃ m1 m2, (∀ w, Calls Try.prog 29 #[.agg #[.float .f64 xl, .float .f64 xh], .agg #[.float .f64 yl, .float .f64 yh]] w fun e w' => e = .returned (.agg #[.float .f64 m1, .float .f64 m2]) ∧ Below w.heap.size w w') ∧ Enc m1 m2 (mulV a b (-1)) (mulV a b 1) := by
  have c0 := some2 X Y
  have na := fin_not_nan X.fv
  have nb := fin_not_nan Y.fv
  have g1 := ge0 X.hl X.nl
  have g2 := le0 X.hh X.nh
  have g3 := ge0 Y.hl Y.nl
  have g4 := le0 Y.hh Y.nh
  obtain ⟨s1, s2, s3, s4⟩ := mulV_sides X.hv Y.hv X.fv Y.fv
  by_cases p1 : 0 ≤ key xl
  · have e := stretch_enc Y X p1
    rw [mulV_comm b a (-1), mulV_comm b a 1] at e
    exact ⟨_, _, fun w => mul_a xl xh yl yh _ _ c0 (by rw [g1]; simp [p1]) (fun w => stretch_w yl yh xl xh Y.hl Y.hh X.hl X.hh Y.nl Y.nh X.nl X.nh w) w, e⟩
  · by_cases p2 : key xh ≤ 0
    · obtain ⟨N, k1, k2⟩ := held_neg X
      have e := stretch_enc Y N (by omega)
      have u1 := mulV_mirror X.hv na nb
      have u2 := mulV_mirror' X.hv na nb
      have nn : nanB (negB a) = false := by rw [nanB_negB X.hv]; exact na
      obtain ⟨t1, t2, t3, t4⟩ := mulV_sides Y.hv N.hv Y.fv N.fv
      have t1 := t1.le
      have t2 := t2.le
      have f := enc_mirror (D' := mulV a b (-1)) (U' := mulV a b 1) e (by rw [mulV_comm b (negB a) 1]; omega) (by rw [mulV_comm b (negB a) (-1)]; omega) (by omega) t3 t4
      exact ⟨_, _, fun w => mul_b xl xh yl yh _ _ _ _ _ _ c0 (by rw [g1]; simp [p1]) (by rw [g2]; simp [p2]) (fun w => mirror_w xl xh X.hl X.hh w) (fun w => stretch_w yl yh _ _ Y.hl Y.hh N.hl N.hh Y.nl Y.nh N.nl N.nh w) (fun w => mirror_w _ _ e.l1 e.l2 w) w, f⟩
    · by_cases p3 : 0 ≤ key yl
      · exact ⟨_, _, fun w => mul_c xl xh yl yh _ _ c0 (by rw [g1]; simp [p1]) (by rw [g2]; simp [p2]) (by rw [g3]; simp [p3]) (fun w => stretch_w xl xh yl yh X.hl X.hh Y.hl Y.hh X.nl X.nh Y.nl Y.nh w) w, stretch_enc X Y p3⟩
      · by_cases p4 : key yh ≤ 0
        · obtain ⟨N, k1, k2⟩ := held_neg Y
          have e := stretch_enc X N (by omega)
          have u1 := mulV_mirror Y.hv nb na
          have u2 := mulV_mirror' Y.hv nb na
          obtain ⟨t1, t2, t3, t4⟩ := mulV_sides X.hv N.hv X.fv N.fv
          have t1 := t1.le
          have t2 := t2.le
          have f := enc_mirror (D' := mulV a b (-1)) (U' := mulV a b 1) e (by rw [mulV_comm a (negB b) 1, mulV_comm a b (-1)]; omega) (by rw [mulV_comm a (negB b) (-1), mulV_comm a b 1]; omega) (by omega) t3 t4
          exact ⟨_, _, fun w => mul_d xl xh yl yh _ _ _ _ _ _ c0 (by rw [g1]; simp [p1]) (by rw [g2]; simp [p2]) (by rw [g3]; simp [p3]) (by rw [g4]; simp [p4]) (fun w => mirror_w yl yh Y.hl Y.hh w) (fun w => stretch_w xl xh _ _ X.hl X.hh N.hl N.hh X.nl X.nh N.nl N.nh w) (fun w => mirror_w _ _ e.l1 e.l2 w) w, f⟩
        · have f1 := mulV_facts (-1) X.nl Y.nh
          have f2 := mulV_facts (-1) X.nh Y.nl
          have f3 := mulV_facts 1 X.nl Y.nl
          have f4 := mulV_facts 1 X.nh Y.nh
          refine ⟨_, _, fun w => mul_e xl xh yl yh _ _ mulV X.hl X.hh Y.hl Y.hh X.nl X.nh Y.nl Y.nh c0 (by rw [g1]; simp [p1]) (by rw [g2]; simp [p2]) (by rw [g3]; simp [p3]) (by rw [g4]; simp [p4])
            (fun a b d ha hb na nb w => mulV_w a b d ha hb na nb w) (fun ts t w => min_f f1.2 f2.2 f1.1 f2.1 _ ts t w) (fun ts t w => max_f f3.2 f4.2 f3.1 f4.1 _ ts t w) w, ?_⟩
          have q1 := minW_key (mulV xl yh (-1)) (mulV xh yl (-1))
          have q2 := maxW_key (mulV xl yl 1) (mulV xh yh 1)
          have vx1 := V_mono_le X.kl
          have vx2 := V_mono_le X.kh
          have vy1 := V_mono_le Y.kl
          have vy2 := V_mono_le Y.kh
          have wx1 := V_lt0 (show key xl < 0 by omega)
          have wx2 := V_pos (show 0 < key xh by omega)
          have wy1 := V_lt0 (show key yl < 0 by omega)
          have wy2 := V_pos (show 0 < key yh by omega)
          have low : key (mulV xl yh (-1)) ≤ key (mulV a b (-1)) ∨ key (mulV xh yl (-1)) ≤ key (mulV a b (-1)) := by
            have z1 : V (key xl) * V (key yh) ≤ 0 := Int.mul_nonpos_of_nonpos_of_nonneg (by omega) (by omega)
            have z2 : V (key xh) * V (key yl) ≤ 0 := Int.mul_nonpos_of_nonneg_of_nonpos (by omega) (by omega)
            rcases Int.le_total 0 (V (key a)) with ca | ca
            · rcases Int.le_total 0 (V (key b)) with cb | cb
              · left
                refine mulV_le X.hl Y.hh X.hv Y.hv X.nl Y.nh X.fv Y.fv ?_ (fun _ => z1)
                have := Int.mul_nonneg ca cb
                omega
              · right
                refine mulV_le X.hh Y.hl X.hv Y.hv X.nh Y.nl X.fv Y.fv ?_ (fun _ => z2)
                have t1 : V (key xh) * V (key yl) ≤ V (key xh) * V (key b) := Int.mul_le_mul_of_nonneg_left vy1 (by omega)
                have t2 : V (key xh) * V (key b) ≤ V (key a) * V (key b) := Int.mul_le_mul_of_nonpos_right vx2 cb
                omega
            · rcases Int.le_total 0 (V (key b)) with cb | cb
              · left
                refine mulV_le X.hl Y.hh X.hv Y.hv X.nl Y.nh X.fv Y.fv ?_ (fun _ => z1)
                have t1 : V (key xl) * V (key yh) ≤ V (key xl) * V (key b) := Int.mul_le_mul_of_nonpos_left (by omega) vy2
                have t2 : V (key xl) * V (key b) ≤ V (key a) * V (key b) := Int.mul_le_mul_of_nonneg_right vx1 cb
                omega
              · left
                refine mulV_le X.hl Y.hh X.hv Y.hv X.nl Y.nh X.fv Y.fv ?_ (fun _ => z1)
                have := Int.mul_nonneg_of_nonpos_of_nonpos ca cb
                omega
          have high : key (mulV a b 1) ≤ key (mulV xl yl 1) ∨ key (mulV a b 1) ≤ key (mulV xh yh 1) := by
            have ua := mulV_mirror' X.hv na nb
            have ul := mulV_mirror' X.hl X.nl Y.nl
            have uh := mulV_mirror' X.hh X.nh Y.nh
            have fna : finB (negB a) = true := by rw [finB_negB X.hv]; exact X.fv
            have nnl : nanB (negB xl) = false := by rw [nanB_negB X.hl]; exact X.nl
            have nnh : nanB (negB xh) = false := by rw [nanB_negB X.hh]; exact X.nh
            have el : V (key (negB xl)) = - V (key xl) := by rw [key_negB X.hl, V_neg]
            have eh : V (key (negB xh)) = - V (key xh) := by rw [key_negB X.hh, V_neg]
            have ea : V (key (negB a)) = - V (key a) := by rw [key_negB X.hv, V_neg]
            have z1 : V (key (negB xl)) * V (key yl) ≤ 0 := by rw [el]; exact Int.mul_nonpos_of_nonneg_of_nonpos (by omega) (by omega)
            have z2 : V (key (negB xh)) * V (key yh) ≤ 0 := by rw [eh]; exact Int.mul_nonpos_of_nonpos_of_nonneg (by omega) (by omega)
            have goL : V (key a) * V (key b) ≤ V (key xl) * V (key yl) → key (mulV a b 1) ≤ key (mulV xl yl 1) := fun h => by
              have := mulV_le (negB_lt X.hl) Y.hl (negB_lt X.hv) Y.hv nnl Y.nl fna Y.fv (by rw [el, ea, Int.neg_mul, Int.neg_mul]; omega) (fun _ => z1)
              omega
            have goH : V (key a) * V (key b) ≤ V (key xh) * V (key yh) → key (mulV a b 1) ≤ key (mulV xh yh 1) := fun h => by
              have := mulV_le (negB_lt X.hh) Y.hh (negB_lt X.hv) Y.hv nnh Y.nh fna Y.fv (by rw [eh, ea, Int.neg_mul, Int.neg_mul]; omega) (fun _ => z2)
              omega
            rcases Int.le_total 0 (V (key a)) with ca | ca
            · right
              apply goH
              have t1 : V (key a) * V (key b) ≤ V (key a) * V (key yh) := Int.mul_le_mul_of_nonneg_left vy2 ca
              have t2 : V (key a) * V (key yh) ≤ V (key xh) * V (key yh) := Int.mul_le_mul_of_nonneg_right vx2 (by omega)
              omega
            · left
              apply goL
              have t1 : V (key a) * V (key b) ≤ V (key a) * V (key yl) := Int.mul_le_mul_of_nonpos_left ca vy1
              have t2 : V (key a) * V (key yl) ≤ V (key xl) * V (key yl) := Int.mul_le_mul_of_nonpos_right vx1 (by omega)
              omega
          have mzz : ∀ {p q : Nat} (d : Int), nanB p = false → nanB q = false → mulV p q d ≠ 9223372036854775808 := fun {p q} d np nq => by
            have e := mulV_is d np nq
            have s := mulR_sides p q
            unfold mulR at e
            rw [np, nq] at e
            simp only [Bool.or_self, Bool.false_eq_true, if_false] at e
            split at e
            · injection e with e; rw [← e]; decide
            · rename_i z
              split at e
              · injection e with e
                rw [← e]
                have z' : (isZ p || isZ q) = false := by simpa using z
                have z2 := Bool.or_eq_false_iff.1 z'
                have h1 := splitM_lt p
                have h2 := splitM_lt q
                exact (roundN_facts (splitG p != splitG q) (prodM (splitM p) (splitM q)) (prodE (splitM p) (splitE p) (splitM q) (splitE q)) d (prodM_lt (splitM_zero z2.1) (splitM_zero z2.2) (by omega) (by omega))).2.1
              · injection e with e
                rw [← e]
                exact (infW_facts _).2.1
          have a1 : ∀ {p : Prop} {x y z : Nat}, (z = x ∨ z = y) → (x < 18446744073709551616 ∧ nanB x = false ∧ x ≠ 9223372036854775808) → (y < 18446744073709551616 ∧ nanB y = false ∧ y ≠ 9223372036854775808) → z < 18446744073709551616 ∧ nanB z = false ∧ z ≠ 9223372036854775808 := fun {_ x y z} h hx hy => by
            rcases h with rfl | rfl
            · exact hx
            · exact hy
          have w1 := a1 (p := True) q1.2 ⟨f1.2, f1.1, mzz (-1) X.nl Y.nh⟩ ⟨f2.2, f2.1, mzz (-1) X.nh Y.nl⟩
          have w2 := a1 (p := True) q2.2 ⟨f3.2, f3.1, mzz 1 X.nl Y.nl⟩ ⟨f4.2, f4.1, mzz 1 X.nh Y.nh⟩
          exact ⟨w1.1, w2.1, w1.2.1, w2.2.1, w1.2.2, w2.2.2, by rw [q1.1]; omega, by rw [q2.1]; omega⟩

end Go.Proofs.Ytdnpoacjamkhkaa
