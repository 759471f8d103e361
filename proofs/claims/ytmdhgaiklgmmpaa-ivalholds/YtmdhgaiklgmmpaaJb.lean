/- The statement IvalHolds, walked: at every input it answers true. -/
import Derived.Test.YtmdhgaiklgmmpaaIy
namespace Go.Proofs.Ytmdhgaiklgmmpaa
open Go.ChangeShapes Go.WideShapes Go.ChangeAt Go.RowKit

theorem told_calls {f : FuncId} {args : Array Value} {o : Option Nat} {v : Nat} (h : o = some v) (c : ∀ w, Calls Try.prog f args w fun x w' => Ans o x ∧ Below w.heap.size w w') :
    ∀ w, Calls Try.prog f args w fun e w' => e = .returned (.float .f64 v) ∧ Below w.heap.size w w' := fun w => by
  have c := c w
  rw [h] at c
  refine c.mono ?_
  rintro _ _ ⟨⟨r, rfl, -, e⟩, hb⟩
  have e : r = v := e
  rw [e]
  exact ⟨rfl, hb⟩

theorem told2_calls {f : FuncId} {args : Array Value} {o p : Option Nat} {v u : Nat} (h : o = some v) (k : p = some u) (c : ∀ w, Calls Try.prog f args w fun e w' => (∃ r1 r2, e = .returned (.agg #[.float .f64 r1, .float .f64 r2]) ∧ Told o r1 ∧ Told p r2) ∧ Below w.heap.size w w') :
    ∀ w, Calls Try.prog f args w fun e w' => e = .returned (.agg #[.float .f64 v, .float .f64 u]) ∧ Below w.heap.size w w' := fun w => by
  have c := c w
  rw [h, k] at c
  refine c.mono ?_
  rintro _ _ ⟨⟨r1, r2, rfl, t1, t2⟩, hb⟩
  have e1 : r1 = v := t1.2
  have e2 : r2 = u := t2.2
  rw [e1, e2]
  exact ⟨rfl, hb⟩

theorem negP_is {lo hi v : Nat} (h : Held lo hi v) : negP (lo, hi) = mirrorP (lo, hi) := by
  unfold negP
  rw [if_pos h.hs]

theorem ivalHolds_w (xl xh yl yh a b : Nat) (h1 : xl < 18446744073709551616) (h2 : xh < 18446744073709551616) (h3 : yl < 18446744073709551616) (h4 : yh < 18446744073709551616) (ha : a < 18446744073709551616) (hb : b < 18446744073709551616) (w : World) :
    Calls Try.prog 6 #[.agg #[.float .f64 xl, .float .f64 xh], .agg #[.float .f64 yl, .float .f64 yh], .float .f64 a, .float .f64 b] w fun e w' => e = .returned (.bool true) ∧ Below w.heap.size w w' := by
  have cx := fun w => has_w xl xh a h1 h2 ha w
  have cy := fun w => has_w yl yh b h3 h4 hb w
  by_cases hh : (hasB xl xh a && hasB yl yh b) = true
  · obtain ⟨hx, hy⟩ := Bool.and_eq_true_iff.1 hh
    have X := held_of h1 h2 ha hx
    have Y := held_of h3 h4 hb hy
    rw [hx] at cx
    rw [hy] at cy
    obtain ⟨A1, av, A2, a1, a2, a3, ab, ac⟩ := add_btw X Y
    obtain ⟨NY, nk1, nk2⟩ := held_neg Y
    obtain ⟨S1, sv, S2, s1, s2, s3, sb, sc⟩ := add_btw X NY
    obtain ⟨NX, xk1, xk2⟩ := held_neg X
    obtain ⟨M1, M2, cm, em⟩ := mul_holds X Y
    obtain ⟨Q1, Q2, cq, eq⟩ := sqr_holds X
    have hsXY : (hsB xl xh && hsB yl yh) = true := by rw [X.hs, Y.hs]; rfl
    have hsXN : (hsB xl xh && hsB (mirrorP (yl, yh)).1 (mirrorP (yl, yh)).2) = true := by rw [X.hs, NY.hs]; rfl
    have ca := told2_calls a1 a3 (fun w => add_i xl xh yl yh h1 h2 h3 h4 _ _ (fun w => add_w xl yl (-1) h1 h3 w) (fun w => add_w xh yh 1 h2 h4 w) hsXY w)
    have ca' := told_calls a2 (fun w => add_w a b 0 ha hb w)
    have cn := fun w => neg_w xl xh h1 h2 w
    have cny := fun w => neg_w yl yh h3 h4 w
    rw [negP_is X] at cn
    rw [negP_is Y] at cny
    have cs0 := told2_calls s1 s3 (fun w => add_i xl xh (mirrorP (yl, yh)).1 (mirrorP (yl, yh)).2 h1 h2 NY.hl NY.hh _ _ (fun w => add_w xl _ (-1) h1 NY.hl w) (fun w => add_w xh _ 1 h2 NY.hh w) hsXN w)
    have cs0' : ∀ w, Calls Try.prog 33 #[.agg #[.float .f64 xl, .float .f64 xh], .agg #[.float .f64 (mirrorP (yl, yh)).1, .float .f64 (mirrorP (yl, yh)).2]] w fun e w' => (∃ r1 r2, e = .returned (.agg #[.float .f64 r1, .float .f64 r2]) ∧ Told (some S1) r1 ∧ Told (some S2) r2) ∧ Below w.heap.size w w' := fun w => (cs0 w).mono (by
      rintro _ _ ⟨rfl, hb⟩
      exact ⟨⟨S1, S2, rfl, ⟨sb.r1, rfl⟩, ⟨sc.t1, rfl⟩⟩, hb⟩)
    have cs := told2_calls (o := some S1) (p := some S2) rfl rfl (fun w => sub_i xl xh yl yh _ _ _ _ cny cs0' w)
    have cs' := told_calls s2 (fun w => sub_w a b 0 ha hb w)
    have na := fin_not_nan X.fv
    have nb := fin_not_nan Y.fv
    have bn : Btw (mirrorP (xl, xh)).1 (mirrorP (xl, xh)).2 (negB a) := Le.btw ⟨NX.hl, NX.hv, NX.nl, fin_not_nan NX.fv, NX.kl⟩ ⟨NX.hv, NX.hh, fin_not_nan NX.fv, NX.nh, NX.kh⟩
    have oz : (FloatKind.f64.format.order b 0 != some .eq) = !decide (key b = 0) := by
      have := o_eq hb (show 0 < 18446744073709551616 by omega)
      rw [eq00 nb] at this
      rw [← this]; rfl
    have og : (FloatKind.f64.format.order a 0 == some .lt) = decide (key a < 0) := by
      rw [o_lt ha (by omega), lt0 na]
    have hD : ∃ D1 D2 dv, ((!decide (key b = 0)) = true → ∀ w, Calls Try.prog 38 #[.agg #[.float .f64 xl, .float .f64 xh], .agg #[.float .f64 yl, .float .f64 yh]] w fun e w' => e = .returned (.agg #[.float .f64 D1, .float .f64 D2]) ∧ Below w.heap.size w w') ∧
        ((!decide (key b = 0)) = true → ∀ w, Calls Try.prog 14 #[.float .f64 a, .float .f64 b, .int .i64 0] w fun e w' => e = .returned (.float .f64 dv) ∧ Below w.heap.size w w') ∧ ((!decide (key b = 0)) = true → Btw D1 D2 dv) := by
      by_cases kb : key b = 0
      · exact ⟨0, 0, 0, fun h => by simp [kb] at h, fun h => by simp [kb] at h, fun h => by simp [kb] at h⟩
      · obtain ⟨D1, D2, cd, ed⟩ := div_holds X Y kb
        have zb := isZ_pos hb kb
        obtain ⟨t1, t2, -, -⟩ := div_sides ha hb X.fv Y.fv zb
        refine ⟨D1, D2, divF a b 0, fun _ => cd, fun _ => told_calls (divR_fin 0 X.fv Y.fv zb) (fun w => div_w a b 0 ha hb w), fun _ => ?_⟩
        exact Le.btw (Le.trans ⟨ed.l1, t1.r1, ed.n1, t1.r2, ed.k1⟩ t1) (Le.trans t2 ⟨t2.t1, ed.l2, t2.t2, ed.n2, ed.k2⟩)
    have hT : ∃ T1 T2 tv, ((decide (key a < 0)) = false → ∀ w, Calls Try.prog 39 #[.agg #[.float .f64 xl, .float .f64 xh]] w fun e w' => e = .returned (.agg #[.float .f64 T1, .float .f64 T2]) ∧ Below w.heap.size w w') ∧
        ((decide (key a < 0)) = false → ∀ w, Calls Try.prog 12 #[.float .f64 a, .int .i64 0] w fun e w' => e = .returned (.float .f64 tv) ∧ Below w.heap.size w w') ∧ ((decide (key a < 0)) = false → Btw T1 T2 tv) := by
      by_cases ka : key a < 0
      · exact ⟨0, 0, 0, fun h => by simp [ka] at h, fun h => by simp [ka] at h, fun h => by simp [ka] at h⟩
      · obtain ⟨T1, T2, ct, et⟩ := sqrt_holds X (by omega)
        exact ⟨T1, T2, _, fun _ => ct, fun _ w => sqrtV_w a 0 ha na (nneg_G ha (by omega)) w, fun _ => et⟩
    obtain ⟨D1, D2, dv, cd, cd', bd⟩ := hD
    obtain ⟨T1, T2, tv, ct, ct', bt⟩ := hT
    exact holds_core xl xh yl yh a b (negB a) A1 A2 av S1 S2 sv M1 M2 (mulV a b 0) _ _ Q1 Q2 (mulV a a 0) D1 D2 dv T1 T2 tv _ _ cx cy ca ca' (ab.btw ac) cs cs' (sb.btw sc) cm (fun w => mulV_w a b 0 ha hb na nb w) (enc_btw ha hb X.fv Y.fv em)
      cn (negFloat_eq a ha) bn cq (fun w => mulV_w a a 0 ha ha na na w) (enc_btw ha ha X.fv X.fv eq) oz cd cd' bd og ct ct' bt w
  · have hh : (hasB xl xh a && hasB yl yh b) = false := by simpa using hh
    exact holds_not xl xh yl yh a b _ _ hh cx cy w

end Go.Proofs.Ytmdhgaiklgmmpaa
