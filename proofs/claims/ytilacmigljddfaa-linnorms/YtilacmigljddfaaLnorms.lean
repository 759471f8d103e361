/- LinNorms: for every slice of slices of intervals, every slice of slices of floats, nil ones too, and every number; no condition. -/
import Derived.Test.YtilacmigljddfaaLx
import Derived.Test.YtilacmigljddfaaLm
import Derived.Test.YtilacmigljddfaaFr
namespace Go.Proofs.Ytilacmigljddfaa
open Go.ChangeShapes Go.WideShapes Go.ChangeAt Go.RowKit Go.Deep

theorem cellsRowF : Try.prog.cellsOf 61 = 1 := by kernel_rfl

theorem open_fls {H : Type} {enc : TypeId × Value → H} {W : World} {fuel : Nat} {v : Value} {x : DataW H × List MemPlace} (h : DataW.trod enc Try.prog W 0 (fun _ => true) true fuel 61 [v] = some x) :
    ∃ A n C X, v = .slice A n C ∧ n ≤ 9223372036854775807 ∧ Fls W A n X := by
  rcases open_slice1 Try.underlying61 cellsFloat h with ⟨e, -⟩ | ⟨a, len, cap, m, f, V, D, Pl, e, -, hl, hm, hmm, -, hc⟩
  · simp only [List.cons.injEq, and_true] at e
    exact ⟨none, 0, 0, fun _ => 0, e, by omega, fun i hi => absurd hi (by omega)⟩
  · simp only [List.cons.injEq, and_true] at e
    simp only [if_true] at hmm
    subst hmm
    obtain ⟨X, hX⟩ := Classical.axiomOfChoice (fun i => (show ∃ p : Nat, i < len → W.cell? (a.add i) = some (.float .f64 p) ∧ p < 18446744073709551616 by
      by_cases hi : i < len
      · obtain ⟨c0, t0⟩ := hc i (by omega)
        obtain ⟨b0, e0, -, l0⟩ := trod_float t0
        rw [e0] at c0
        exact ⟨b0, fun _ => ⟨c0, l0⟩⟩
      · exact ⟨0, fun q => absurd q hi⟩))
    refine ⟨some a, len, _, X, e, by unfold maxLen at hm; omega, fun i hi => ?_⟩
    obtain ⟨c0, l⟩ := hX i hi
    obtain ⟨b, o, sp⟩ := a
    have hs : sp = none := by
      have q := World.cell?_spot (hX 0 (by omega)).1
      simpa [Addr.add] using q
    subst hs
    rw [addr_add] at c0
    exact ⟨b, o, rfl, World.block_lt_of_cell? _ _ c0, c0, l⟩

theorem open_rfs {H : Type} {enc : TypeId × Value → H} {W : World} {fuel : Nat} {v : Value} {x : DataW H × List MemPlace} (h : DataW.trod enc Try.prog W 0 (fun _ => true) true fuel 44 [v] = some x) :
    ∃ A N C RA RL RC X, v = .slice A N C ∧ N ≤ 9223372036854775807 ∧ Rfs W A N RA RL RC X := by
  rcases open_slice1 Try.underlying44 cellsRowF h with ⟨e, -⟩ | ⟨a, len, cap, m, f, V, D, Pl, e, -, hl, hm, hmm, -, hc⟩
  · simp only [List.cons.injEq, and_true] at e
    exact ⟨none, 0, 0, fun _ => none, fun _ => 0, fun _ => 0, fun _ _ => 0, e, by omega, fun i hi => absurd hi (by omega)⟩
  · simp only [List.cons.injEq, and_true] at e
    simp only [if_true] at hmm
    subst hmm
    obtain ⟨R, hR⟩ := Classical.axiomOfChoice (fun i => (show ∃ p : Option Addr × Nat × Nat × (Nat → Nat), i < len → W.cell? (a.add i) = some (.slice p.1 p.2.1 p.2.2.1) ∧ p.2.1 ≤ 9223372036854775807 ∧ Fls W p.1 p.2.1 p.2.2.2 by
      by_cases hi : i < len
      · obtain ⟨c0, t0⟩ := hc i (by omega)
        obtain ⟨A, n, C, X, e0, l0, J⟩ := open_fls t0
        rw [e0] at c0
        exact ⟨(A, n, C, X), fun _ => ⟨c0, l0, J⟩⟩
      · exact ⟨(none, 0, 0, fun _ => 0), fun q => absurd q hi⟩))
    refine ⟨some a, len, _, fun i => (R i).1, fun i => (R i).2.1, fun i => (R i).2.2.1, fun i => (R i).2.2.2, e, by unfold maxLen at hm; omega, fun i hi => ?_⟩
    obtain ⟨c0, l, J⟩ := hR i hi
    obtain ⟨b, o, sp⟩ := a
    have hs : sp = none := by
      have q := World.cell?_spot (hR 0 (by omega)).1
      simpa [Addr.add] using q
    subst hs
    rw [addr_add] at c0
    exact ⟨b, o, rfl, World.block_lt_of_cell? _ _ c0, c0, l, J⟩

theorem linNorms_all (A B : Option Addr) (N C M D : Nat) (RA SA : Nat → Option Addr) (RL RC SL SC : Nat → Nat) (X : Nat → Nat → Nat × Nat) (Y : Nat → Nat → Nat) (z : Int) (hN : N ≤ 9223372036854775807) (hM : M ≤ 9223372036854775807) (w : World)
    (UA : Rws w A N RA RL RC X) (UB : Rfs w B M SA SL SC Y) :
    Calls Try.prog 4 #[.slice A N C, .slice B M D, .int .i64 z] w fun e w' => e = .returned (.bool true) ∧ Below w.heap.size w w' := by
  by_cases hz : z < 1 ∨ 24 < z
  · cases hm : matB N RL X
    · exact linNorms_ff A B N C M D RA SA RL RC SL SC X Y z hN hM hz w UA UB hm
    · exact linNorms_tf A B N C M D RA SA RL RC SL SC X Y z hN hM hz w UA UB hm
  · obtain ⟨n, rfl⟩ : ∃ n : Nat, z = (n : Int) := ⟨z.toNat, by omega⟩
    cases hm : matB N RL X
    · exact linNorms_ft A B N C M D RA SA RL RC SL SC X Y n hN hM (by omega) (by omega) w UA UB hm
    · exact linNorms_tt A B N C M D RA SA RL RC SL SC X Y n hN hM (by omega) (by omega) w UA UB hm

end Go.Proofs.Ytilacmigljddfaa

namespace Go.Proofs.Ytilacmigljddfaa.linNorms
open Go.ChangeShapes Go.WideShapes Go.ChangeAt Go.RowKit Go.Deep

theorem own : ownKnob Try.prog.godebug = none := by kernel_rfl

set_option maxRecDepth 100000 in
theorem lifted (os : Os) (started : os.Started) (H : Type) (enc : TypeId × Value → H) :
    ReturnsInHanded {} Try.checked os 4 .any (Rows.linNormsSpec.pre6 enc Try.prog Try.f4 Rows.linNormsRow.domain false) (Rows.linNormsSpec.post enc Try.prog Try.f4 false true false false) := by
  refine returnsInHanded_of_change (C := Try.checked) own started (by kernel_rfl) Try.func4
    (ChangeSpec.witness6 (enc := enc) (C := Try.checked) false ⟨#[], #[.slice none 0 0, .slice none 0 0, .int .i64 0], []⟩ 8 (by kernel_rfl) (by kernel_rfl) (by kernel_rfl) (by kernel_rfl)) ?_
  intro W base args ds gs before hval0 hW hcnd _
  have hval : ∀ (j : Nat) t v, Try.f4.params[j]? = some t → args[j]? = some v → Value.okWide Try.prog W .any base t v := hval0
  have hW' := hW
  obtain ⟨p, q, hA0, hV, rfl, hfz, hnd⟩ := hW
  have hA : DataW.TrodAll enc Try.prog W 0 (fun _ => true) true Try.f4.params.toList args.toList ds p := hA0
  rw [Try.params4] at hA hval
  obtain ⟨v0, vs0, d0, ds0, p0, q0, hargs, rfl, rfl, h0, r0⟩ := trodAll_cons hA
  obtain ⟨v1, vs1, d1, ds1, p1, q1, rfl, rfl, rfl, h1, r1⟩ := trodAll_cons r0
  obtain ⟨v2, vs2, d2, ds2, p2, q2, rfl, rfl, rfl, h2, r2⟩ := trodAll_cons r1
  obtain ⟨rfl, rfl, rfl⟩ := trodAll_nil r2
  obtain rfl : args = #[v0, v1, v2] := by cases args; simp_all
  obtain ⟨rfl, rfl⟩ := trodVars_none hV
  obtain ⟨a0, n0, c0, rfl⟩ := okWide_slice Try.underlying22 (hval 0 22 v0 rfl rfl)
  obtain ⟨a1, n1, c1, rfl⟩ := okWide_slice Try.underlying44 (hval 1 44 v1 rfl rfl)
  obtain ⟨z, rfl, rfl, rfl, wz⟩ := open_int Try.underlying3 (hval 2 3 v2 rfl rfl) h2
  clear hA0 hval0 hval hA
  have k0 := h0
  have k1 := h1
  obtain ⟨f0, g0⟩ := h0
  obtain ⟨f1, g1⟩ := h1
  obtain ⟨A, N, C, RA, RL, RC, X, e0, hN, UA⟩ := open_rws g0
  obtain ⟨B, M, D, SA, SL, SC, Y, e1, hM, UB⟩ := open_rfs g1
  rw [e0] at hW' k0 ⊢
  rw [e1] at hW' k1 ⊢
  simp only [List.append_nil] at hW'
  have hlt : ∀ x, x ∈ p0 ∨ x ∈ p1 → x.block < W.heap.size := fun x hx => hW'.lt x (by simp [hx])
  refine (linNorms_all A B N C M D RA SA RL RC SL SC X Y z hN hM W UA UB).mono fun e W' ⟨he, bel⟩ => ?_
  subst he
  have s0 := WideElems.Trod_stays (sp' := fun b => decide (b < W.heap.size)) Try.laidOut (by kernel_rfl) (of_decide_eq_true (by kernel_rfl)) k0 (fun x hx => bel.same (hlt x (.inl hx))) (fun x hx => by simpa using hlt x (.inl hx))
  have s1 := WideElems.Trod_stays (sp' := fun b => decide (b < W.heap.size)) Try.laidOut (by kernel_rfl) (of_decide_eq_true (by kernel_rfl)) k1 (fun x hx => bel.same (hlt x (.inr hx))) (fun x hx => by simpa using hlt x (.inr hx))
  exact ⟨_, rfl, _, _, _, [], _, [], hW', trodAll_mk1 (shut_bool Try.underlying4 _), trodAll_cons_mk s0 (trodAll_cons_mk s1 (trodAll_cons_mk (shut_int Try.underlying3 wz) trodAll_mk0)), rfl, bel.frame _, fun h => by cases h⟩

theorem over : Rows.linNormsRow.holds Try.pinned (OpenSpec.ofChange Rows.linNormsSpec) :=
  OpenClaim.holds_of_wide 4 Try.f4 rfl rfl rfl rfl rfl rfl rfl ⟨rfl, rfl, rfl, rfl, rfl⟩ rfl rfl rfl rfl rfl (by kernel_rfl) Try.func4 (by kernel_rfl)
    (of_decide_eq_true (by kernel_rfl)) (by unfold Func.isWrapper; first | (rw [if_pos (by decide +kernel)]; kernel_rfl) | (rw [if_neg (by decide +kernel)]; exact ⟨rfl, rfl⟩))
    (fun os started H enc _ => lifted os started H enc)

end Go.Proofs.Ytilacmigljddfaa.linNorms

namespace Go.Proofs.Ytilacmigljddfaa
/-- THE STATEMENT -/
theorem linNorms_proved : Rows.LinNormsSaid := linNorms.over
#print axioms linNorms_proved
end Go.Proofs.Ytilacmigljddfaa
