/- UnitInfers: for all nodes, equations, variables, given marks and every second's dimension, nil slices too: what Infer tells is what the document's own way of inferring tells, error for error and dimension for dimension, for all graphs that the law plays (up to 60 nodes and 12 variables; greater ones answer true at once); no condition. -/
import Derived.Test.YtbejmklkicoibaaKe50
import Derived.Test.YtbejmklkicoibaaKe51
namespace Go.Proofs.Ytbejmklkicoibaa.unitInfers
open Go.ChangeShapes Go.WideShapes Go.ChangeAt Go.RowKit Go.Deep

theorem own : ownKnob Try.prog.godebug = none := by kernel_rfl

set_option maxRecDepth 100000 in
theorem lifted (os : Os) (started : os.Started) (H : Type) (enc : TypeId × Value → H) :
    ReturnsInHanded {} Try.checked os 3 .any (Rows.unitInfersSpec.pre6 enc Try.prog Try.f3 Rows.unitInfersRow.domain false) (Rows.unitInfersSpec.post enc Try.prog Try.f3 false true false false) := by
  refine returnsInHanded_of_change (C := Try.checked) own started (by kernel_rfl) Try.func3
    (ChangeSpec.witness6 (enc := enc) (C := Try.checked) false ⟨#[], #[.slice none 0 0, .slice none 0 0, .slice none 0 0, .slice none 0 0, .agg #[.int .i64 0, .int .i64 0, .int .i64 0, .int .i64 0, .int .i64 0, .int .i64 0, .int .i64 0, .int .i64 0, .int .i64 0, .int .i64 0, .int .i64 0, .int .i64 0, .int .i64 0, .int .i64 0]], []⟩ 8 (by kernel_rfl) (by kernel_rfl) (by kernel_rfl) (by kernel_rfl)) ?_
  intro W base args ds gs before hval0 hW hcnd _
  have hval : ∀ (j : Nat) t v, Try.f3.params[j]? = some t → args[j]? = some v → Value.okWide Try.prog W .any base t v := hval0
  have hW' := hW
  obtain ⟨p, q, hA0, hV, rfl, hfz, hnd⟩ := hW
  have hA : DataW.TrodAll enc Try.prog W 0 (fun _ => true) true Try.f3.params.toList args.toList ds p := hA0
  rw [Try.params3] at hA hval
  obtain ⟨v0, vs0, d0, ds0, p0, q0, hargs, rfl, rfl, h0, r0⟩ := trodAll_cons hA
  obtain ⟨v1, vs1, d1, ds1, p1, q1, rfl, rfl, rfl, h1, r1⟩ := trodAll_cons r0
  obtain ⟨v2, vs2, d2, ds2, p2, q2, rfl, rfl, rfl, h2, r2⟩ := trodAll_cons r1
  obtain ⟨v3, vs3, d3, ds3, p3, q3, rfl, rfl, rfl, h3, r3⟩ := trodAll_cons r2
  obtain ⟨v4, vs4, d4, ds4, p4, q4, rfl, rfl, rfl, h4, r4⟩ := trodAll_cons r3
  obtain ⟨rfl, rfl, rfl⟩ := trodAll_nil r4
  obtain rfl : args = #[v0, v1, v2, v3, v4] := by cases args; simp_all
  obtain ⟨rfl, rfl⟩ := trodVars_none hV
  obtain ⟨a0, n0, c0, rfl⟩ := okWide_slice Try.underlying22 (hval 0 22 v0 rfl rfl)
  obtain ⟨a1, n1, c1, rfl⟩ := okWide_slice Try.underlying23 (hval 1 23 v1 rfl rfl)
  obtain ⟨a2, n2, c2, rfl⟩ := okWide_slice Try.underlying24 (hval 2 24 v2 rfl rfl)
  obtain ⟨a3, n3, c3, rfl⟩ := okWide_slice Try.underlying25 (hval 3 25 v3 rfl rfl)
  obtain ⟨S, rfl, rfl, rfl, wS⟩ := open_dim (hval 4 30 v4 rfl rfl) h4
  clear hA0 hval0 hval hA
  have k0 := h0
  have k1 := h1
  have k2 := h2
  have k3 := h3
  obtain ⟨f0, g0⟩ := h0
  obtain ⟨f1, g1⟩ := h1
  obtain ⟨f2, g2⟩ := h2
  obtain ⟨f3, g3⟩ := h3
  obtain ⟨AN, n, CN, X, e0, hn, VN, hX⟩ := open_nodes g0
  obtain ⟨AQ, m, CQ, Y, e1, hm, VQ⟩ := open_ins g1
  obtain ⟨A0, m0, C0, D, e2, hm0, VD, hD⟩ := open_dims g2
  obtain ⟨A1, m1, C1, G, e3, hm1, VG⟩ := open_bls g3
  simp only [Value.cells, List.cons.injEq, and_true] at e0 e1 e2 e3
  rw [e0] at hW' k0 ⊢
  rw [e1] at hW' k1 ⊢
  rw [e2] at hW' k2 ⊢
  rw [e3] at hW' k3 ⊢
  simp only [List.append_nil] at hW'
  have hlt : ∀ x, x ∈ p0 ∨ x ∈ p1 ∨ x ∈ p2 ∨ x ∈ p3 → x.block < W.heap.size := fun x hx => hW'.lt x (by simp [hx])
  refine (unitInfers_w AN n CN X AQ m CQ Y A0 A1 m0 C0 m1 C1 D G S (by omega) (by omega) (fun i _ => hX i) wS.out (fun v _ => hD v) W VN VQ VD VG (fun q1 q2 W2 vn vq vd vg => fInfer_w AN n CN X AQ m CQ Y A0 A1 m0 C0 m1 C1 D G S (by omega) (by omega) (by omega) (by omega) (fun i _ => hX i) wS.out (fun v _ => hD v) W2 vn vq vd vg (fun fb g2 Ae Ce KN Q vr L W3 T hL hP hDr vd3 vg3 => (fsolve_w W2 fb AN n CN A0 m0 C0 A1 C1 Ae Ce S g2 KN Q vr L W3 (by omega) T hL hP hDr vd3 vg3).mono fun r w' h => ⟨h.1, h.2.mono (Nat.le_of_lt T.fd.lt)⟩))).mono fun e W' ⟨he, bel⟩ => ?_
  subst he
  have s0 := WideElems.Trod_stays (sp' := fun b => decide (b < W.heap.size)) Try.laidT (by kernel_rfl) (of_decide_eq_true (by kernel_rfl)) k0 (fun x hx => bel.same (hlt x (.inl hx))) (fun x hx => by simpa using hlt x (.inl hx))
  have s1 := WideElems.Trod_stays (sp' := fun b => decide (b < W.heap.size)) Try.laidT (by kernel_rfl) (of_decide_eq_true (by kernel_rfl)) k1 (fun x hx => bel.same (hlt x (.inr (.inl hx)))) (fun x hx => by simpa using hlt x (.inr (.inl hx)))
  have s2 := WideElems.Trod_stays (sp' := fun b => decide (b < W.heap.size)) Try.laidT (by kernel_rfl) (of_decide_eq_true (by kernel_rfl)) k2 (fun x hx => bel.same (hlt x (.inr (.inr (.inl hx))))) (fun x hx => by simpa using hlt x (.inr (.inr (.inl hx))))
  have s3 := WideElems.Trod_stays (sp' := fun b => decide (b < W.heap.size)) Try.laidT (by kernel_rfl) (of_decide_eq_true (by kernel_rfl)) k3 (fun x hx => bel.same (hlt x (.inr (.inr (.inr hx))))) (fun x hx => by simpa using hlt x (.inr (.inr (.inr hx))))
  exact ⟨_, rfl, _, _, _, [], _, [], hW', trodAll_mk1 (shut_bool Try.underlying4 _), trodAll_cons_mk s0 (trodAll_cons_mk s1 (trodAll_cons_mk s2 (trodAll_cons_mk s3 (trodAll_cons_mk (shut_dim wS) trodAll_mk0)))), rfl, bel.frame _, fun h => by cases h⟩

theorem over : Rows.unitInfersRow.holds Try.pinned (OpenSpec.ofChange Rows.unitInfersSpec) :=
  OpenClaim.holds_of_wide 3 Try.f3 rfl rfl rfl rfl rfl rfl rfl ⟨rfl, rfl, rfl, rfl, rfl⟩ rfl rfl rfl rfl rfl (by kernel_rfl) Try.func3 (by kernel_rfl)
    (of_decide_eq_true (by kernel_rfl)) (by unfold Func.isWrapper; first | (rw [if_pos (by decide +kernel)]; kernel_rfl) | (rw [if_neg (by decide +kernel)]; exact ⟨rfl, rfl⟩))
    (fun os started H enc _ => lifted os started H enc)

end Go.Proofs.Ytbejmklkicoibaa.unitInfers

namespace Go.Proofs.Ytbejmklkicoibaa
/-- THE STATEMENT -/
theorem unitInfers_proved : Rows.UnitInfersSaid := unitInfers.over
#print axioms unitInfers_proved
end Go.Proofs.Ytbejmklkicoibaa
