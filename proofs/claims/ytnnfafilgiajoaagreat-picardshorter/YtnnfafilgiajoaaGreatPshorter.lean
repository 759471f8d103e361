/- PicardShorter: for every tape, every slice of intervals, every float and every slice of ints (nil slices too) what bounds for a time bounds for a shorter one and from smaller boxes; no condition. -/
import Derived.Test.YtnnfafilgiajoaaGreatZ49
import Derived.Test.YtnnfafilgiajoaaGreatX04
namespace Go.Proofs.YtnnfafilgiajoaaGreat.picardShorter
open Go.ChangeShapes Go.WideShapes Go.ChangeAt Go.RowKit Go.Deep

theorem own : ownKnob Tryz.prog.godebug = none := by kernel_rfl

set_option maxRecDepth 100000 in
theorem lifted (os : Os) (started : os.Started) (H : Type) (enc : TypeId × Value → H) :
    ReturnsInHanded {} Tryz.checked os 5 .any (Rows.picardShorterSpec.pre6 enc Tryz.prog Tryz.f5 Rows.picardShorterRow.domain false) (Rows.picardShorterSpec.post enc Tryz.prog Tryz.f5 false true false false) := by
  refine returnsInHanded_of_change (C := Tryz.checked) own started (by kernel_rfl) Tryz.func5
    (ChangeSpec.witness6 (enc := enc) (C := Tryz.checked) false ⟨#[], #[.agg #[.int .i64 0, .slice none 0 0, .slice none 0 0], .slice none 0 0, .float .f64 0, .slice none 0 0], []⟩ 8 (by kernel_rfl) (by kernel_rfl) (by kernel_rfl) (by kernel_rfl)) ?_
  intro W base args ds gs before hval0 hW hcnd _
  have hval : ∀ (j : Nat) t v, Tryz.f5.params[j]? = some t → args[j]? = some v → Value.okWide Tryz.prog W .any base t v := hval0
  have hW' := hW
  obtain ⟨p, q, hA0, hV, rfl, hfz, hnd⟩ := hW
  have hA : DataW.TrodAll enc Tryz.prog W 0 (fun _ => true) true Tryz.f5.params.toList args.toList ds p := hA0
  rw [Tryz.params5] at hA hval
  obtain ⟨v0, vs0, d0, ds0, p0, q0, hargs, rfl, rfl, h0, r0⟩ := trodAll_cons hA
  obtain ⟨v1, vs1, d1, ds1, p1, q1, rfl, rfl, rfl, h1, r1⟩ := trodAll_cons r0
  obtain ⟨v2, vs2, d2, ds2, p2, q2, rfl, rfl, rfl, h2, r2⟩ := trodAll_cons r1
  obtain ⟨v3, vs3, d3, ds3, p3, q3, rfl, rfl, rfl, h3, r3⟩ := trodAll_cons r2
  obtain ⟨rfl, rfl, rfl⟩ := trodAll_nil r3
  obtain rfl : args = #[v0, v1, v2, v3] := by cases args; simp_all
  obtain ⟨rfl, rfl⟩ := trodVars_none hV
  have k0 := h0
  obtain ⟨z1, y1, x1, rfl⟩ := okWide_slice Tryz.underlying26 (hval 1 26 v1 rfl rfl)
  have k1 := h1
  obtain ⟨f1, g1⟩ := h1
  obtain ⟨a2, rfl, rfl, rfl, w2⟩ := open_float Tryz.underlying27 (hval 2 27 v2 rfl rfl) h2
  obtain ⟨z3, y3, x3, rfl⟩ := okWide_slice Tryz.underlying23 (hval 3 23 v3 rfl rfl)
  have k3 := h3
  obtain ⟨f3, g3⟩ := h3
  obtain ⟨u0, A0, n0, C0, D0, m0, E0, X0, Y0, e0, hn0, hm0, VX0, VY0, -⟩ := open_tape (hval 0 25 v0 rfl rfl) h0
  obtain ⟨A1, m1, C1, Z1, e1, b1, V1⟩ := open_ivs g1
  obtain ⟨A3, m3, C3, Z3, e3, b3, V3⟩ := open_ins g3
  replace e3 : Value.slice z3 y3 x3 = .slice A3 m3 C3 := (List.cons.inj (show [Value.slice z3 y3 x3] = [.slice A3 m3 C3] from e3)).1
  clear hA0 hval0 hval hA
  rw [e0] at hW' k0 ⊢
  rw [e1] at hW' k1 ⊢
  rw [e3] at hW' k3 ⊢
  simp only [List.append_nil] at hW'
  have hlt : ∀ x, x ∈ p0 ∨ x ∈ p1 ∨ x ∈ p3 → x.block < W.heap.size := fun x hx => hW'.lt x (by simp [hx])
  refine (picardShorter_all u0 A0 n0 C0 D0 m0 E0 X0 Y0 A1 m1 C1 Z1 a2 A3 m3 C3 Z3 hn0 hm0 b1 (f64_lt w2) b3 W VX0 VY0 V1 V3).mono fun e W' ⟨he, bel⟩ => ?_
  subst he
  have s0 := WideElems.Trod_stays (sp' := fun b => decide (b < W.heap.size)) Tryz.laidOut (by kernel_rfl) (of_decide_eq_true (by kernel_rfl)) k0 (fun x hx => bel.same (hlt x (.inl hx))) (fun x hx => by simpa using hlt x (.inl hx))
  have s1 := WideElems.Trod_stays (sp' := fun b => decide (b < W.heap.size)) Tryz.laidOut (by kernel_rfl) (of_decide_eq_true (by kernel_rfl)) k1 (fun x hx => bel.same (hlt x (.inr (.inl hx)))) (fun x hx => by simpa using hlt x (.inr (.inl hx)))
  have s3 := WideElems.Trod_stays (sp' := fun b => decide (b < W.heap.size)) Tryz.laidOut (by kernel_rfl) (of_decide_eq_true (by kernel_rfl)) k3 (fun x hx => bel.same (hlt x (.inr (.inr (hx))))) (fun x hx => by simpa using hlt x (.inr (.inr (hx))))
  exact ⟨_, rfl, _, _, _, [], _, [], hW', trodAll_mk1 (shut_bool Tryz.underlying4 _), (trodAll_cons_mk s0 (trodAll_cons_mk s1 (trodAll_cons_mk (shut_float Tryz.underlying27 w2) (trodAll_cons_mk s3 trodAll_mk0)))), rfl, bel.frame _, fun h => by cases h⟩

theorem over : Rows.picardShorterRow.holds Tryz.pinned (OpenSpec.ofChange Rows.picardShorterSpec) :=
  OpenClaim.holds_of_wide 5 Tryz.f5 rfl rfl rfl rfl rfl rfl rfl ⟨rfl, rfl, rfl, rfl, rfl⟩ rfl rfl rfl rfl rfl (by kernel_rfl) Tryz.func5 (by kernel_rfl)
    (of_decide_eq_true (by kernel_rfl)) (by unfold Func.isWrapper; first | (rw [if_pos (by decide +kernel)]; kernel_rfl) | (rw [if_neg (by decide +kernel)]; exact ⟨rfl, rfl⟩))
    (fun os started H enc _ => lifted os started H enc)

end Go.Proofs.YtnnfafilgiajoaaGreat.picardShorter

namespace Go.Proofs.YtnnfafilgiajoaaGreat
/-- THE STATEMENT -/
theorem picardShorter_proved : Rows.PicardShorterSaid := picardShorter.over
#print axioms picardShorter_proved
end Go.Proofs.YtnnfafilgiajoaaGreat
