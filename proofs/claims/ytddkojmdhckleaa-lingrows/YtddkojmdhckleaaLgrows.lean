/- LinGrows: for every slice of slices of intervals and every slice of intervals, nil ones too; no condition. -/
import Derived.Test.YtddkojmdhckleaaMg
import Derived.Test.YtddkojmdhckleaaLm
namespace Go.Proofs.Ytddkojmdhckleaa
open Go.ChangeShapes Go.WideShapes Go.ChangeAt Go.RowKit Go.Deep

theorem mat_rights {N : Nat} {RL : Nat → Nat} {X : Nat → Nat → Nat × Nat} (h : matB N RL X = true) {r c : Nat} (hr : r < N) (hc : c < RL r) : rightB (X r c).1 (X r c).2 = true := by
  unfold matB at h
  have a := all_upto.1 (Bool.and_eq_true_iff.1 h).1 r hr
  have v := (Bool.and_eq_true_iff.1 a).2
  unfold vecB at v
  exact all_upto.1 (Bool.and_eq_true_iff.1 v).1 c hc

theorem vec_rights {n : Nat} {X : Nat → Nat × Nat} (h : vecB n X = true) {c : Nat} (hc : c < n) : rightB (X c).1 (X c).2 = true := by
  unfold vecB at h
  exact all_upto.1 (Bool.and_eq_true_iff.1 h).1 c hc

set_option maxHeartbeats 4000000 in
set_option maxRecDepth 100000 in
theorem linGrows_all (A E : Option Addr) (N C k F : Nat) (RA : Nat → Option Addr) (RL RC : Nat → Nat) (X : Nat → Nat → Nat × Nat) (Y : Nat → Nat × Nat) (hN : N ≤ 9223372036854775807) (hk : k ≤ 9223372036854775807) (w : World)
    (UA : Rws w A N RA RL RC X) (UE : Ivs w E k Y) :
    Calls Try.prog 5 #[.slice A N C, .slice E k F] w fun e w' => e = .returned (.bool true) ∧ Below w.heap.size w w' := by
  have c3 := fun w2 (q : Below w.heap.size w w2) => rmat_w A N C RA RL RC X hN w2 (UA.keep q)
  have c1 := fun w2 (q : Below w.heap.size w w2) => rvec_w E k F Y hk w2 (UE.keep q)
  have cm := fun w2 (q : Below w.heap.size w w2) => matMay_w A N C RA RL RC X hN w2 (UA.keep q)
  have cv := fun w2 (q : Below w.heap.size w w2) => vecMay_w E k F Y hk w2 (UE.keep q)
  cases hm : matB N RL X
  · rw [hm] at c3
    have HB : Below w.heap.size w w := Below.refl _ _
    clear c1 cm cv hm
    go_enter Try.func5, Try.ntmps5
    go_wp2_with (go_at_call 12; with_reducible refine (c3 _ HB).mono ?_; rintro _ w1 ⟨rfl, hb1⟩; replace HB := later HB hb1; clear hb1)
    go_ret
    exact ⟨rfl, HB⟩
  · obtain ⟨n0, n1, nR, nL⟩ := matB_parts hm
    cases hv : vecB k Y
    · rw [hm] at c3
      rw [hv] at c1
      have HB : Below w.heap.size w w := Below.refl _ _
      clear cm cv hm hv nR nL
      go_enter Try.func5, Try.ntmps5
      go_wp2_with (first
        | (go_at_call 12; with_reducible refine (c3 _ HB).mono ?_; rintro _ w1 ⟨rfl, hb1⟩; replace HB := later HB hb1; clear hb1)
        | (go_at_call 8; with_reducible refine (c1 _ HB).mono ?_; rintro _ w2 ⟨rfl, hb1⟩; replace HB := later HB hb1; clear hb1))
      go_ret
      exact ⟨rfl, HB⟩
    · by_cases e : RL 0 = k
      · have hR : ∀ r, r < N → RL r = k := fun r hr => (nR r hr).trans e
        rw [hm] at c3 cm
        rw [hv] at c1 cv
        obtain ⟨k0, k1⟩ := vecB_parts hv
        exact linGrows_good A E N C k F RA RL RC X Y w n0 n1 k0 k1 hR
          (fun r hr c hc => by
            obtain ⟨-, -, -, -, -, -, I⟩ := UA r hr
            obtain ⟨-, -, -, -, -, -, a, b⟩ := I c (by rw [hR r hr]; exact hc)
            exact ⟨⟨a, b⟩, mat_rights hm hr (by rw [hR r hr]; exact hc)⟩)
          (fun c hc => by
            obtain ⟨-, -, -, -, -, -, a, b⟩ := UE c hc
            exact ⟨⟨a, b⟩, vec_rights hv hc⟩)
          UA UE cm cv c3 c1
      · have e' : ((RL 0 : Int) != (k : Int)) = true := by simp; omega
        obtain ⟨b, o, hA, hb, x0, -, -⟩ := UA 0 n0
        rw [Nat.add_zero] at x0
        have hlt0 : (0 : Int) < (N : Int) := by omega
        rw [hm] at c3
        rw [hv] at c1
        have HB : Below w.heap.size w w := Below.refl _ _
        clear cm cv hm hv nR nL e
        subst hA
        go_enter Try.func5, Try.ntmps5
        go_wp2_with (first
          | (go_at_call 12; with_reducible refine (c3 _ HB).mono ?_; rintro _ w1 ⟨rfl, hb1⟩; replace x0 := keepsC hb1 x0 hb; replace hb := Nat.lt_of_lt_of_le hb hb1.size; replace HB := later HB hb1; clear hb1)
          | (go_at_call 8; with_reducible refine (c1 _ HB).mono ?_; rintro _ w2 ⟨rfl, hb1⟩; replace x0 := keepsC hb1 x0 hb; replace hb := Nat.lt_of_lt_of_le hb hb1.size; replace HB := later HB hb1; clear hb1))
        go_ret
        exact ⟨rfl, HB⟩

end Go.Proofs.Ytddkojmdhckleaa

namespace Go.Proofs.Ytddkojmdhckleaa.linGrows
open Go.ChangeShapes Go.WideShapes Go.ChangeAt Go.RowKit Go.Deep

theorem own : ownKnob Try.prog.godebug = none := by kernel_rfl

set_option maxRecDepth 100000 in
theorem lifted (os : Os) (started : os.Started) (H : Type) (enc : TypeId × Value → H) :
    ReturnsInHanded {} Try.checked os 5 .any (Rows.linGrowsSpec.pre6 enc Try.prog Try.f5 Rows.linGrowsRow.domain false) (Rows.linGrowsSpec.post enc Try.prog Try.f5 false true false false) := by
  refine returnsInHanded_of_change (C := Try.checked) own started (by kernel_rfl) Try.func5
    (ChangeSpec.witness6 (enc := enc) (C := Try.checked) false ⟨#[], #[.slice none 0 0, .slice none 0 0], []⟩ 8 (by kernel_rfl) (by kernel_rfl) (by kernel_rfl) (by kernel_rfl)) ?_
  intro W base args ds gs before hval0 hW hcnd _
  have hval : ∀ (j : Nat) t v, Try.f5.params[j]? = some t → args[j]? = some v → Value.okWide Try.prog W .any base t v := hval0
  have hW' := hW
  obtain ⟨p, q, hA0, hV, rfl, hfz, hnd⟩ := hW
  have hA : DataW.TrodAll enc Try.prog W 0 (fun _ => true) true Try.f5.params.toList args.toList ds p := hA0
  rw [Try.params5] at hA hval
  obtain ⟨v0, vs0, d0, ds0, p0, q0, hargs, rfl, rfl, h0, r0⟩ := trodAll_cons hA
  obtain ⟨v1, vs1, d1, ds1, p1, q1, rfl, rfl, rfl, h1, r1⟩ := trodAll_cons r0
  obtain ⟨rfl, rfl, rfl⟩ := trodAll_nil r1
  obtain rfl : args = #[v0, v1] := by cases args; simp_all
  obtain ⟨rfl, rfl⟩ := trodVars_none hV
  obtain ⟨a0, n0, c0, rfl⟩ := okWide_slice Try.underlying22 (hval 0 22 v0 rfl rfl)
  obtain ⟨a1, n1, c1, rfl⟩ := okWide_slice Try.underlying23 (hval 1 23 v1 rfl rfl)
  clear hA0 hval0 hval hA
  have k0 := h0
  have k1 := h1
  obtain ⟨f0, g0⟩ := h0
  obtain ⟨f1, g1⟩ := h1
  obtain ⟨A, N, C, RA, RL, RC, X, e0, hN, UA⟩ := open_rws g0
  obtain ⟨E, k, F, V, e1, hk, UE⟩ := open_ivs g1
  rw [e0] at hW' k0 ⊢
  rw [e1] at hW' k1 ⊢
  simp only [List.append_nil] at hW'
  have hlt : ∀ x, x ∈ p0 ∨ x ∈ p1 → x.block < W.heap.size := fun x hx => hW'.lt x (by simp [hx])
  refine (linGrows_all A E N C k F RA RL RC X V hN hk W UA UE).mono fun e W' ⟨he, bel⟩ => ?_
  subst he
  have s0 := WideElems.Trod_stays (sp' := fun b => decide (b < W.heap.size)) Try.laidOut (by kernel_rfl) (of_decide_eq_true (by kernel_rfl)) k0 (fun x hx => bel.same (hlt x (.inl hx))) (fun x hx => by simpa using hlt x (.inl hx))
  have s1 := WideElems.Trod_stays (sp' := fun b => decide (b < W.heap.size)) Try.laidOut (by kernel_rfl) (of_decide_eq_true (by kernel_rfl)) k1 (fun x hx => bel.same (hlt x (.inr hx))) (fun x hx => by simpa using hlt x (.inr hx))
  exact ⟨_, rfl, _, _, _, [], _, [], hW', trodAll_mk1 (shut_bool Try.underlying4 _), trodAll_cons_mk s0 (trodAll_cons_mk s1 trodAll_mk0), rfl, bel.frame _, fun h => by cases h⟩

theorem over : Rows.linGrowsRow.holds Try.pinned (OpenSpec.ofChange Rows.linGrowsSpec) :=
  OpenClaim.holds_of_wide 5 Try.f5 rfl rfl rfl rfl rfl rfl rfl ⟨rfl, rfl, rfl, rfl, rfl⟩ rfl rfl rfl rfl rfl (by kernel_rfl) Try.func5 (by kernel_rfl)
    (of_decide_eq_true (by kernel_rfl)) (by unfold Func.isWrapper; first | (rw [if_pos (by decide +kernel)]; kernel_rfl) | (rw [if_neg (by decide +kernel)]; exact ⟨rfl, rfl⟩))
    (fun os started H enc _ => lifted os started H enc)

end Go.Proofs.Ytddkojmdhckleaa.linGrows

namespace Go.Proofs.Ytddkojmdhckleaa
/-- THE STATEMENT -/
theorem linGrows_proved : Rows.LinGrowsSaid := linGrows.over
#print axioms linGrows_proved
end Go.Proofs.Ytddkojmdhckleaa
