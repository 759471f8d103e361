/- LohnerSets: for every set and every slice of intervals, nil ones too; no condition. -/
import Derived.Test.YtdokikhhlmelkaaGreatZs37
import Derived.Test.YtdokikhhlmelkaaGreatZs36
import Derived.Test.YtdokikhhlmelkaaGreatZs49
namespace Go.Proofs.YtdokikhhlmelkaaGreat.lohnerSets
open Go.ChangeShapes Go.WideShapes Go.ChangeAt Go.RowKit Go.Deep

theorem own : ownKnob Tryz.prog.godebug = none := by kernel_rfl

set_option maxRecDepth 100000 in
theorem lifted (os : Os) (started : os.Started) (H : Type) (enc : TypeId × Value → H) :
    ReturnsInHanded {} Tryz.checked os 3 .any (Rows.lohnerSetsSpec.pre6 enc Tryz.prog Tryz.f3 Rows.lohnerSetsRow.domain false) (Rows.lohnerSetsSpec.post enc Tryz.prog Tryz.f3 false true false false) := by
  refine returnsInHanded_of_change (C := Tryz.checked) own started (by kernel_rfl) Tryz.func3
    (ChangeSpec.witness6 (enc := enc) (C := Tryz.checked) false ⟨#[], #[.agg #[.slice none 0 0, .slice none 0 0, .slice none 0 0], .slice none 0 0], []⟩ 8 (by kernel_rfl) (by kernel_rfl) (by kernel_rfl) (by kernel_rfl)) ?_
  intro W base args ds gs before hval0 hW hcnd _
  have hval : ∀ (j : Nat) t v, Tryz.f3.params[j]? = some t → args[j]? = some v → Value.okWide Tryz.prog W .any base t v := hval0
  have hW' := hW
  obtain ⟨p, q, hA0, hV, rfl, hfz, hnd⟩ := hW
  have hA : DataW.TrodAll enc Tryz.prog W 0 (fun _ => true) true Tryz.f3.params.toList args.toList ds p := hA0
  rw [Tryz.params3] at hA hval
  obtain ⟨v0, vs0, d0, ds0, p0, q0, hargs, rfl, rfl, h0, r0⟩ := trodAll_cons hA
  obtain ⟨v1, vs1, d1, ds1, p1, q1, rfl, rfl, rfl, h1, r1⟩ := trodAll_cons r0
  obtain ⟨rfl, rfl, rfl⟩ := trodAll_nil r1
  obtain rfl : args = #[v0, v1] := by cases args; simp_all
  obtain ⟨rfl, rfl⟩ := trodVars_none hV
  have k0 := h0
  obtain ⟨z1, y1, x1, rfl⟩ := okWide_slice Tryz.underlying24 (hval 1 24 v1 rfl rfl)
  have k1 := h1
  obtain ⟨f1, g1⟩ := h1
  obtain ⟨A0, n0, C0, B0, N0, D0, R0, L0, E0, RA0, RL0, RC0, X0, Y0, Z0, e0, hn0, hN0, hL0, VX0, VY0, VZ0⟩ := open_set (hval 0 26 v0 rfl rfl) h0
  obtain ⟨A1, m1, C1, Z1, e1, b1, V1⟩ := open_ivs g1
  clear hA0 hval0 hval hA
  rw [e0] at hW' k0 ⊢
  rw [e1] at hW' k1 ⊢
  simp only [List.append_nil] at hW'
  have hlt : ∀ x, x ∈ p0 ∨ x ∈ p1 → x.block < W.heap.size := fun x hx => hW'.lt x (by simp [hx])
  refine (lohnerSets_all A0 n0 C0 B0 N0 D0 R0 L0 E0 RA0 RL0 RC0 X0 Y0 Z0 A1 m1 C1 Z1 hn0 hN0 hL0 b1 W VX0 VY0 VZ0 V1).mono fun e W' ⟨he, bel⟩ => ?_
  subst he
  have s0 := WideElems.Trod_stays (sp' := fun b => decide (b < W.heap.size)) Tryz.laidOut (by kernel_rfl) (of_decide_eq_true (by kernel_rfl)) k0 (fun x hx => bel.same (hlt x (.inl hx))) (fun x hx => by simpa using hlt x (.inl hx))
  have s1 := WideElems.Trod_stays (sp' := fun b => decide (b < W.heap.size)) Tryz.laidOut (by kernel_rfl) (of_decide_eq_true (by kernel_rfl)) k1 (fun x hx => bel.same (hlt x (.inr (hx)))) (fun x hx => by simpa using hlt x (.inr (hx)))
  exact ⟨_, rfl, _, _, _, [], _, [], hW', trodAll_mk1 (shut_bool Tryz.underlying4 _), (trodAll_cons_mk s0 (trodAll_cons_mk s1 trodAll_mk0)), rfl, bel.frame _, fun h => by cases h⟩

theorem over : Rows.lohnerSetsRow.holds Tryz.pinned (OpenSpec.ofChange Rows.lohnerSetsSpec) :=
  OpenClaim.holds_of_wide 3 Tryz.f3 rfl rfl rfl rfl rfl rfl rfl ⟨rfl, rfl, rfl, rfl, rfl⟩ rfl rfl rfl rfl rfl (by kernel_rfl) Tryz.func3 (by kernel_rfl)
    (of_decide_eq_true (by kernel_rfl)) (by unfold Func.isWrapper; first | (rw [if_pos (by decide +kernel)]; kernel_rfl) | (rw [if_neg (by decide +kernel)]; exact ⟨rfl, rfl⟩))
    (fun os started H enc _ => lifted os started H enc)

end Go.Proofs.YtdokikhhlmelkaaGreat.lohnerSets

namespace Go.Proofs.YtdokikhhlmelkaaGreat
/-- THE STATEMENT -/
theorem lohnerSets_proved : Rows.LohnerSetsSaid := lohnerSets.over
#print axioms lohnerSets_proved
end Go.Proofs.YtdokikhhlmelkaaGreat
