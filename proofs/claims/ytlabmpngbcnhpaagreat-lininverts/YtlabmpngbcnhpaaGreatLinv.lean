/- LinInverts: for every slice of slices of floats, nil ones too; no condition. -/
import Derived.Test.YtlabmpngbcnhpaaGreatZi44
import Derived.Test.YtlabmpngbcnhpaaGreatZi45
namespace Go.Proofs.YtlabmpngbcnhpaaGreat.linInverts
open Go.ChangeShapes Go.WideShapes Go.ChangeAt Go.RowKit Go.Deep

theorem own : ownKnob Tryz.prog.godebug = none := by kernel_rfl

set_option maxRecDepth 100000 in
theorem lifted (os : Os) (started : os.Started) (H : Type) (enc : TypeId × Value → H) :
    ReturnsInHanded {} Tryz.checked os 3 .any (Rows.linInvertsSpec.pre6 enc Tryz.prog Tryz.f3 Rows.linInvertsRow.domain false) (Rows.linInvertsSpec.post enc Tryz.prog Tryz.f3 false true false false) := by
  refine returnsInHanded_of_change (C := Tryz.checked) own started (by kernel_rfl) Tryz.func3
    (ChangeSpec.witness6 (enc := enc) (C := Tryz.checked) false ⟨#[], #[.slice none 0 0], []⟩ 8 (by kernel_rfl) (by kernel_rfl) (by kernel_rfl) (by kernel_rfl)) ?_
  intro W base args ds gs before hval0 hW hcnd _
  have hval : ∀ (j : Nat) t v, Tryz.f3.params[j]? = some t → args[j]? = some v → Value.okWide Tryz.prog W .any base t v := hval0
  have hW' := hW
  obtain ⟨p, q, hA0, hV, rfl, hfz, hnd⟩ := hW
  have hA : DataW.TrodAll enc Tryz.prog W 0 (fun _ => true) true Tryz.f3.params.toList args.toList ds p := hA0
  rw [Tryz.params3] at hA hval
  obtain ⟨v0, vs0, d0, ds0, p0, q0, hargs, rfl, rfl, h0, r0⟩ := trodAll_cons hA
  obtain ⟨rfl, rfl, rfl⟩ := trodAll_nil r0
  obtain rfl : args = #[v0] := by cases args; simp_all
  obtain ⟨rfl, rfl⟩ := trodVars_none hV
  obtain ⟨a0, n0, c0, rfl⟩ := okWide_slice Tryz.underlying22 (hval 0 22 v0 rfl rfl)
  clear hA0 hval0 hval hA
  have k0 := h0
  obtain ⟨f0, g0⟩ := h0
  obtain ⟨A, N, C, RA, RL, RC, X, e0, hN, UA⟩ := open_rfs g0
  rw [e0] at hW' k0 ⊢
  simp only [List.append_nil] at hW'
  have hlt : ∀ x, x ∈ p0 → x.block < W.heap.size := fun x hx => hW'.lt x (by simp [hx])
  refine (linInverts_all A N C RA RL RC X hN W UA).mono fun e W' ⟨he, bel⟩ => ?_
  subst he
  have s0 := WideElems.Trod_stays (sp' := fun b => decide (b < W.heap.size)) Tryz.laidOut (by kernel_rfl) (of_decide_eq_true (by kernel_rfl)) k0 (fun x hx => bel.same (hlt x hx)) (fun x hx => by simpa using hlt x hx)
  exact ⟨_, rfl, _, _, _, [], _, [], hW', trodAll_mk1 (shut_bool Tryz.underlying4 _), trodAll_cons_mk s0 trodAll_mk0, rfl, bel.frame _, fun h => by cases h⟩

theorem over : Rows.linInvertsRow.holds Tryz.pinned (OpenSpec.ofChange Rows.linInvertsSpec) :=
  OpenClaim.holds_of_wide 3 Tryz.f3 rfl rfl rfl rfl rfl rfl rfl ⟨rfl, rfl, rfl, rfl, rfl⟩ rfl rfl rfl rfl rfl (by kernel_rfl) Tryz.func3 (by kernel_rfl)
    (of_decide_eq_true (by kernel_rfl)) (by unfold Func.isWrapper; first | (rw [if_pos (by decide +kernel)]; kernel_rfl) | (rw [if_neg (by decide +kernel)]; exact ⟨rfl, rfl⟩))
    (fun os started H enc _ => lifted os started H enc)

end Go.Proofs.YtlabmpngbcnhpaaGreat.linInverts

namespace Go.Proofs.YtlabmpngbcnhpaaGreat
/-- THE STATEMENT -/
theorem linInverts_proved : Rows.LinInvertsSaid := linInverts.over
#print axioms linInverts_proved
end Go.Proofs.YtlabmpngbcnhpaaGreat
