/- IvalGrows: IvalGrows: for every three intervals and every whole number, what the program makes of a greater interval holds what it makes of the smaller one, and all that is made of intervals that may be may be; no condition. -/
import Derived.Test.YtimcjmkjichgnaaNd
import Derived.Test.YtimcjmkjichgnaaFr
namespace Go.Proofs.Ytimcjmkjichgnaa.ivalGrows
open Go.ChangeShapes Go.WideShapes Go.ChangeAt Go.RowKit

theorem own : ownKnob Try.prog.godebug = none := by kernel_rfl

set_option maxRecDepth 100000 in
theorem lifted (os : Os) (started : os.Started) (H : Type) (enc : TypeId × Value → H) :
    ReturnsInHanded {} Try.checked os 14 .any (Rows.ivalGrowsSpec.pre6 enc Try.prog Try.f14 Rows.ivalGrowsRow.domain false) (Rows.ivalGrowsSpec.post enc Try.prog Try.f14 false true false false) := by
  refine returnsInHanded_of_change (C := Try.checked) own started (by kernel_rfl) Try.func14
    (ChangeSpec.witness6 (enc := enc) (C := Try.checked) false ⟨#[], #[.agg #[.float .f64 0, .float .f64 0], .agg #[.float .f64 0, .float .f64 0], .agg #[.float .f64 0, .float .f64 0], .int .i64 0], []⟩ 8 (by kernel_rfl) (by kernel_rfl) (by kernel_rfl) (by kernel_rfl)) ?_
  intro W base args ds gs before hval0 hW hcnd _
  have hval : ∀ (j : Nat) t v, Try.f14.params[j]? = some t → args[j]? = some v → Value.okWide Try.prog W .any base t v := hval0
  have hW' := hW
  obtain ⟨p, q, hA0, hV, rfl, hfz, hnd⟩ := hW
  have hA : DataW.TrodAll enc Try.prog W 0 (fun _ => true) true Try.f14.params.toList args.toList ds p := hA0
  rw [Try.params14] at hA hval
  obtain ⟨v0, vs0, d0, ds0, p0, q0, hargs, rfl, rfl, h0, r0⟩ := trodAll_cons hA
  obtain ⟨v1, vs1, d1, ds1, p1, q1, rfl, rfl, rfl, h1, r1⟩ := trodAll_cons r0
  obtain ⟨v2, vs2, d2, ds2, p2, q2, rfl, rfl, rfl, h2, r2⟩ := trodAll_cons r1
  obtain ⟨v3, vs3, d3, ds3, p3, q3, rfl, rfl, rfl, h3, r3⟩ := trodAll_cons r2
  obtain ⟨rfl, rfl, rfl⟩ := trodAll_nil r3
  obtain rfl : args = #[v0, v1, v2, v3] := by cases args; simp_all
  obtain ⟨rfl, rfl⟩ := trodVars_none hV
  obtain ⟨l0, u0, rfl, rfl, rfl, wl0, wu0⟩ := open_ival (hval 0 31 v0 rfl rfl) h0
  obtain ⟨l1, u1, rfl, rfl, rfl, wl1, wu1⟩ := open_ival (hval 1 31 v1 rfl rfl) h1
  obtain ⟨l2, u2, rfl, rfl, rfl, wl2, wu2⟩ := open_ival (hval 2 31 v2 rfl rfl) h2
  obtain ⟨a3, rfl, rfl, rfl, w3⟩ := open_int Try.underlying3 (hval 3 3 v3 rfl rfl) h3
  clear hA0 hval0
  simp only [List.append_nil] at hW'
  refine (ivalGrows_all l0 u0 l1 u1 l2 u2 a3 wl0 wu0 wl1 wu1 wl2 wu2 W).mono fun e W' ⟨he, bel⟩ => ?_
  subst he
  exact ⟨_, rfl, _, _, _, [], [], [], hW', trodAll_mk1 (shut_bool Try.underlying4 _), (trodAll_cons_mk (shut_ival wl0 wu0) (trodAll_cons_mk (shut_ival wl1 wu1) (trodAll_cons_mk (shut_ival wl2 wu2) (trodAll_cons_mk (shut_int Try.underlying3 w3) trodAll_mk0)))), rfl, bel.frame _, fun h => by cases h⟩

theorem over : Rows.ivalGrowsRow.holds Try.pinned (OpenSpec.ofChange Rows.ivalGrowsSpec) :=
  OpenClaim.holds_of_wide 14 Try.f14 rfl rfl rfl rfl rfl rfl rfl ⟨rfl, rfl, rfl, rfl, rfl⟩ rfl rfl rfl rfl rfl (by kernel_rfl) Try.func14 (by kernel_rfl)
    (of_decide_eq_true (by kernel_rfl)) (by unfold Func.isWrapper; first | (rw [if_pos (by decide +kernel)]; kernel_rfl) | (rw [if_neg (by decide +kernel)]; exact ⟨rfl, rfl⟩))
    (fun os started H enc _ => lifted os started H enc)

end Go.Proofs.Ytimcjmkjichgnaa.ivalGrows

namespace Go.Proofs.Ytimcjmkjichgnaa
/-- THE STATEMENT -/
theorem ivalGrows_proved : Rows.IvalGrowsSaid := ivalGrows.over
#print axioms ivalGrows_proved
end Go.Proofs.Ytimcjmkjichgnaa
