/- LinProducts: for every two slices of slices of intervals and every slice of intervals, nil ones too; no condition. -/
import Derived.Test.YtilacmigljddfaaLm
import Derived.Test.YtilacmigljddfaaFr
namespace Go.Proofs.Ytilacmigljddfaa
open Go.ChangeShapes Go.WideShapes Go.ChangeAt Go.RowKit Go.Deep

theorem linProds_all (A B E : Option Addr) (N C M D k F : Nat) (RA SA : Nat → Option Addr) (RL RC SL SC : Nat → Nat) (X Y : Nat → Nat → Nat × Nat) (V : Nat → Nat × Nat) (hN : N ≤ 9223372036854775807) (hM : M ≤ 9223372036854775807) (hk : k ≤ 9223372036854775807) (w : World)
    (UA : Rws w A N RA RL RC X) (UB : Rws w B M SA SL SC Y) (UE : Ivs w E k V) :
    Calls Try.prog 3 #[.slice A N C, .slice B M D, .slice E k F] w fun e w' => e = .returned (.bool true) ∧ Below w.heap.size w w' := by
  rcases Nat.eq_zero_or_pos N with h | h
  · subst h
    exact linProds_of A B E none 0 C M D k F 0 0 RA SA RL RC SL SC X Y V (fun _ => (0, 0)) hN hM hk (by omega) w UA UB UE (fun i hi => absurd hi (by omega)) (fun w2 _ => first_none A C w2) (fun q => absurd q (by omega))
  · obtain ⟨b, o, e, hb, hc, hl, J⟩ := UA 0 h
    exact linProds_of A B E (RA 0) N C M D k F (RL 0) (RC 0) RA SA RL RC SL SC X Y V (X 0) hN hM hk hl w UA UB UE J (fun w2 q => first_some A N C RA RL RC X h w2 (UA.keep q)) (fun _ => ⟨rfl, b, o, e, hb, hc⟩)

end Go.Proofs.Ytilacmigljddfaa

namespace Go.Proofs.Ytilacmigljddfaa.linProducts
open Go.ChangeShapes Go.WideShapes Go.ChangeAt Go.RowKit Go.Deep

theorem own : ownKnob Try.prog.godebug = none := by kernel_rfl

set_option maxRecDepth 100000 in
theorem lifted (os : Os) (started : os.Started) (H : Type) (enc : TypeId × Value → H) :
    ReturnsInHanded {} Try.checked os 3 .any (Rows.linProductsSpec.pre6 enc Try.prog Try.f3 Rows.linProductsRow.domain false) (Rows.linProductsSpec.post enc Try.prog Try.f3 false true false false) := by
  refine returnsInHanded_of_change (C := Try.checked) own started (by kernel_rfl) Try.func3
    (ChangeSpec.witness6 (enc := enc) (C := Try.checked) false ⟨#[], #[.slice none 0 0, .slice none 0 0, .slice none 0 0], []⟩ 8 (by kernel_rfl) (by kernel_rfl) (by kernel_rfl) (by kernel_rfl)) ?_
  intro W base args ds gs before hval0 hW hcnd _
  have hval : ∀ (j : Nat) t v, Try.f3.params[j]? = some t → args[j]? = some v → Value.okWide Try.prog W .any base t v := hval0
  have hW' := hW
  obtain ⟨p, q, hA0, hV, rfl, hfz, hnd⟩ := hW
  have hA : DataW.TrodAll enc Try.prog W 0 (fun _ => true) true Try.f3.params.toList args.toList ds p := hA0
  rw [Try.params3] at hA hval
  obtain ⟨v0, vs0, d0, ds0, p0, q0, hargs, rfl, rfl, h0, r0⟩ := trodAll_cons hA
  obtain ⟨v1, vs1, d1, ds1, p1, q1, rfl, rfl, rfl, h1, r1⟩ := trodAll_cons r0
  obtain ⟨v2, vs2, d2, ds2, p2, q2, rfl, rfl, rfl, h2, r2⟩ := trodAll_cons r1
  obtain ⟨rfl, rfl, rfl⟩ := trodAll_nil r2
  obtain rfl : args = #[v0, v1, v2] := by cases args; simp_all
  obtain ⟨rfl, rfl⟩ := trodVars_none hV
  obtain ⟨a0, n0, c0, rfl⟩ := okWide_slice Try.underlying22 (hval 0 22 v0 rfl rfl)
  obtain ⟨a1, n1, c1, rfl⟩ := okWide_slice Try.underlying22 (hval 1 22 v1 rfl rfl)
  obtain ⟨a2, n2, c2, rfl⟩ := okWide_slice Try.underlying23 (hval 2 23 v2 rfl rfl)
  clear hA0 hval0 hval hA
  have k0 := h0
  have k1 := h1
  have k2 := h2
  obtain ⟨f0, g0⟩ := h0
  obtain ⟨f1, g1⟩ := h1
  obtain ⟨f2, g2⟩ := h2
  obtain ⟨A, N, C, RA, RL, RC, X, e0, hN, UA⟩ := open_rws g0
  obtain ⟨B, M, D, SA, SL, SC, Y, e1, hM, UB⟩ := open_rws g1
  obtain ⟨E, k, F, V, e2, hk, UE⟩ := open_ivs g2
  rw [e0] at hW' k0 ⊢
  rw [e1] at hW' k1 ⊢
  rw [e2] at hW' k2 ⊢
  simp only [List.append_nil] at hW'
  have hlt : ∀ x, x ∈ p0 ∨ x ∈ p1 ∨ x ∈ p2 → x.block < W.heap.size := fun x hx => hW'.lt x (by simp [hx])
  refine (linProds_all A B E N C M D k F RA SA RL RC SL SC X Y V hN hM hk W UA UB UE).mono fun e W' ⟨he, bel⟩ => ?_
  subst he
  have s0 := WideElems.Trod_stays (sp' := fun b => decide (b < W.heap.size)) Try.laidOut (by kernel_rfl) (of_decide_eq_true (by kernel_rfl)) k0 (fun x hx => bel.same (hlt x (.inl hx))) (fun x hx => by simpa using hlt x (.inl hx))
  have s1 := WideElems.Trod_stays (sp' := fun b => decide (b < W.heap.size)) Try.laidOut (by kernel_rfl) (of_decide_eq_true (by kernel_rfl)) k1 (fun x hx => bel.same (hlt x (.inr (.inl hx)))) (fun x hx => by simpa using hlt x (.inr (.inl hx)))
  have s2 := WideElems.Trod_stays (sp' := fun b => decide (b < W.heap.size)) Try.laidOut (by kernel_rfl) (of_decide_eq_true (by kernel_rfl)) k2 (fun x hx => bel.same (hlt x (.inr (.inr hx)))) (fun x hx => by simpa using hlt x (.inr (.inr hx)))
  exact ⟨_, rfl, _, _, _, [], _, [], hW', trodAll_mk1 (shut_bool Try.underlying4 _), trodAll_cons_mk s0 (trodAll_cons_mk s1 (trodAll_cons_mk s2 trodAll_mk0)), rfl, bel.frame _, fun h => by cases h⟩

theorem over : Rows.linProductsRow.holds Try.pinned (OpenSpec.ofChange Rows.linProductsSpec) :=
  OpenClaim.holds_of_wide 3 Try.f3 rfl rfl rfl rfl rfl rfl rfl ⟨rfl, rfl, rfl, rfl, rfl⟩ rfl rfl rfl rfl rfl (by kernel_rfl) Try.func3 (by kernel_rfl)
    (of_decide_eq_true (by kernel_rfl)) (by unfold Func.isWrapper; first | (rw [if_pos (by decide +kernel)]; kernel_rfl) | (rw [if_neg (by decide +kernel)]; exact ⟨rfl, rfl⟩))
    (fun os started H enc _ => lifted os started H enc)

end Go.Proofs.Ytilacmigljddfaa.linProducts

namespace Go.Proofs.Ytilacmigljddfaa
/-- THE STATEMENT -/
theorem linProducts_proved : Rows.LinProductsSaid := linProducts.over
#print axioms linProducts_proved
end Go.Proofs.Ytilacmigljddfaa
