/- TapeTrimmed: for every tape and every slice of intervals, nil slices too; no condition. -/
import Derived.Test.YtfdelmgingefkaaGreatZ19
import Derived.Test.YtfdelmgingefkaaGreatZ30
import Derived.Test.YtfdelmgingefkaaGreatZ18
import Derived.Test.YtfdelmgingefkaaGreatZ54
namespace Go.Proofs.YtfdelmgingefkaaGreat.tapeTrimmed
open Go.ChangeShapes Go.WideShapes Go.ChangeAt Go.RowKit Go.Deep

theorem own : ownKnob Tryz.prog.godebug = none := by kernel_rfl

set_option maxRecDepth 100000 in
theorem lifted (os : Os) (started : os.Started) (H : Type) (enc : TypeId × Value → H) :
    ReturnsInHanded {} Tryz.checked os 4 .any (Rows.tapeTrimmedSpec.pre6 enc Tryz.prog Tryz.f4 Rows.tapeTrimmedRow.domain false) (Rows.tapeTrimmedSpec.post enc Tryz.prog Tryz.f4 false true false false) := by
  refine returnsInHanded_of_change (C := Tryz.checked) own started (by kernel_rfl) Tryz.func4
    (ChangeSpec.witness6 (enc := enc) (C := Tryz.checked) false ⟨#[], #[.agg #[.int .i64 0, .slice none 0 0, .slice none 0 0], .slice none 0 0], []⟩ 8 (by kernel_rfl) (by kernel_rfl) (by kernel_rfl) (by kernel_rfl)) ?_
  intro W base args ds gs before hval0 hW hcnd _
  have hval : ∀ (j : Nat) t v, Tryz.f4.params[j]? = some t → args[j]? = some v → Value.okWide Tryz.prog W .any base t v := hval0
  have hW' := hW
  obtain ⟨p, q, hA0, hV, rfl, hfz, hnd⟩ := hW
  have hA : DataW.TrodAll enc Tryz.prog W 0 (fun _ => true) true Tryz.f4.params.toList args.toList ds p := hA0
  rw [Tryz.params4] at hA hval
  obtain ⟨v0, vs0, d0, ds0, p0, q0, hargs, rfl, rfl, h0, r0⟩ := trodAll_cons hA
  obtain ⟨v1, vs1, d1, ds1, p1, q1, rfl, rfl, rfl, h1, r1⟩ := trodAll_cons r0
  obtain ⟨rfl, rfl, rfl⟩ := trodAll_nil r1
  obtain rfl : args = #[v0, v1] := by cases args; simp_all
  obtain ⟨rfl, rfl⟩ := trodVars_none hV
  obtain ⟨a1, n1, c1, rfl⟩ := okWide_slice Tryz.underlying46 (hval 1 46 v1 rfl rfl)
  have k0 := h0
  have k1 := h1
  obtain ⟨f1, g1⟩ := h1
  obtain ⟨AX, mx, CX, Z, e1, hx, VZ⟩ := open_ivs g1
  obtain ⟨u, A, n, C, D, m, E, X, Y, e0, hn, hm, VX, VY, -⟩ := open_tape (hval 0 45 v0 rfl rfl) h0
  clear hA0 hval0 hval hA
  rw [e0] at hW' k0 ⊢
  rw [e1] at hW' k1 ⊢
  simp only [List.append_nil] at hW'
  have hlt : ∀ x, x ∈ p0 ∨ x ∈ p1 → x.block < W.heap.size := fun x hx => hW'.lt x (by simp [hx])
  refine (tapeTrimmed_all u A n C D m E X Y AX mx CX Z hn hm hx W VX VY VZ).mono fun e W' ⟨he, bel⟩ => ?_
  subst he
  have s0 := WideElems.Trod_stays (sp' := fun b => decide (b < W.heap.size)) Tryz.laidOut (by kernel_rfl) (of_decide_eq_true (by kernel_rfl)) k0 (fun x hx => bel.same (hlt x (.inl hx))) (fun x hx => by simpa using hlt x (.inl hx))
  have s1 := WideElems.Trod_stays (sp' := fun b => decide (b < W.heap.size)) Tryz.laidOut (by kernel_rfl) (of_decide_eq_true (by kernel_rfl)) k1 (fun x hx => bel.same (hlt x (.inr hx))) (fun x hx => by simpa using hlt x (.inr hx))
  exact ⟨_, rfl, _, _, _, [], _, [], hW', trodAll_mk1 (shut_bool Tryz.underlying4 _), trodAll_cons_mk s0 (trodAll_cons_mk s1 trodAll_mk0), rfl, bel.frame _, fun h => by cases h⟩

theorem over : Rows.tapeTrimmedRow.holds Tryz.pinned (OpenSpec.ofChange Rows.tapeTrimmedSpec) :=
  OpenClaim.holds_of_wide 4 Tryz.f4 rfl rfl rfl rfl rfl rfl rfl ⟨rfl, rfl, rfl, rfl, rfl⟩ rfl rfl rfl rfl rfl (by kernel_rfl) Tryz.func4 (by kernel_rfl)
    (of_decide_eq_true (by kernel_rfl)) (by unfold Func.isWrapper; first | (rw [if_pos (by decide +kernel)]; kernel_rfl) | (rw [if_neg (by decide +kernel)]; exact ⟨rfl, rfl⟩))
    (fun os started H enc _ => lifted os started H enc)

end Go.Proofs.YtfdelmgingefkaaGreat.tapeTrimmed

namespace Go.Proofs.YtfdelmgingefkaaGreat
/-- THE STATEMENT -/
theorem tapeTrimmed_proved : Rows.TapeTrimmedSaid := tapeTrimmed.over
#print axioms tapeTrimmed_proved
end Go.Proofs.YtfdelmgingefkaaGreat
