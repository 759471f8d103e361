/- UlpSplits: for every float64, any parts and every side the program takes apart and rounds as the document says, as the reference tells it, and what was taken apart is rounded to itself; no condition. -/
import Derived.Test.YtgigndboadmacaaCa
import Derived.ChangeSame
import Derived.JoinedOf
import Derived.JoinedAt
import Derived.RowKit3
import Derived.Deep.Strs
namespace Go.Proofs.Ytgigndboadmacaa.ulpSplits
open Go.ChangeShapes Go.WideShapes Go.ChangeAt Go.RowKit

theorem own : ownKnob Try.prog.godebug = none := by kernel_rfl

theorem f64_lt {b : Nat} (h : (Lit.float .f64 b).wf = true) : b < 18446744073709551616 := by
  simpa [Lit.wf] using h

theorem cellsParts : Try.prog.cellsOf 25 = 3 := by kernel_rfl
theorem cellsBool : Try.prog.cellsOf 4 = 1 := by kernel_rfl
theorem cellsU64 : Try.prog.cellsOf 23 = 1 := by kernel_rfl
theorem cellsI64 : Try.prog.cellsOf 3 = 1 := by kernel_rfl

theorem trod_b {H : Type} {enc : TypeId × Value → H} {W : World} {base : Nat} {sp : Nat → Bool} {held : Bool} {m : Nat} {c : Value} {y : DataW H × List MemPlace} (h : DataW.trod enc Try.prog W base sp held m 4 [c] = some y) :
    ∃ b, c = .bool b ∧ y = (.lit (.bool b), []) := by
  have ht := Try.underlying4
  cases m with
  | zero => simp [DataW.trod] at h
  | succ n =>
    cases c <;> simp [DataW.trod, ht] at h
    rename_i b
    exact ⟨b, rfl, h.symm⟩

theorem trod_u {H : Type} {enc : TypeId × Value → H} {W : World} {base : Nat} {sp : Nat → Bool} {held : Bool} {m : Nat} {c : Value} {y : DataW H × List MemPlace} (h : DataW.trod enc Try.prog W base sp held m 23 [c] = some y) :
    ∃ n, c = .int .u64 n ∧ y = (.lit (.int .u64 n), []) ∧ (Lit.int .u64 n).wf = true := by
  have ht := Try.underlying23
  cases m with
  | zero => simp [DataW.trod] at h
  | succ n =>
    cases c <;> simp [DataW.trod, ht] at h
    rename_i k b
    obtain ⟨⟨rfl, h1⟩, h2⟩ := h
    exact ⟨b, rfl, h2.symm, h1⟩

theorem trod_i {H : Type} {enc : TypeId × Value → H} {W : World} {base : Nat} {sp : Nat → Bool} {held : Bool} {m : Nat} {c : Value} {y : DataW H × List MemPlace} (h : DataW.trod enc Try.prog W base sp held m 3 [c] = some y) :
    ∃ n, c = .int .i64 n ∧ y = (.lit (.int .i64 n), []) ∧ (Lit.int .i64 n).wf = true := by
  have ht := Try.underlying3
  cases m with
  | zero => simp [DataW.trod] at h
  | succ n =>
    cases c <;> simp [DataW.trod, ht] at h
    rename_i k b
    obtain ⟨⟨rfl, h1⟩, h2⟩ := h
    exact ⟨b, rfl, h2.symm, h1⟩

theorem u64_nat {n : Int} (h : (Lit.int .u64 n).wf = true) : ∃ m : Nat, n = (m : Int) ∧ m < 18446744073709551616 := by
  have h : IntKind.u64.min ≤ n ∧ n ≤ IntKind.u64.max := by simpa [Lit.wf] using h
  have e1 : IntKind.u64.min = 0 := by decide
  have e2 : IntKind.u64.max = 18446744073709551615 := by decide
  exact ⟨n.toNat, by omega, by omega⟩
theorem u64_wf {m : Nat} (h : m < 18446744073709551616) : (Lit.int .u64 (m : Int)).wf = true := by
  have e1 : IntKind.u64.min = 0 := by decide
  have e2 : IntKind.u64.max = 18446744073709551615 := by decide
  simp only [Lit.wf, e1, e2]
  simp
  omega

theorem open_parts {H : Type} {enc : TypeId × Value → H} {W : World} {base : Nat} {sp : Nat → Bool} {held : Bool} {r : Reach} {b0 : Nat} {v : Value} {d : DataW H} {ps : List MemPlace} (hval : Value.okWide Try.prog W r b0 25 v)
    (hd : DataW.Trod enc Try.prog W base sp held 25 v d ps) : ∃ g m e, v = .agg #[.bool g, .int .u64 ((m : Nat) : Int), .int .i64 e] ∧ d = .agg [.lit (.bool g), .lit (.int .u64 (m : Int)), .lit (.int .i64 e)] ∧ ps = [] ∧ m < 18446744073709551616 ∧ (Lit.int .i64 e).wf = true := by
  obtain ⟨cs, rfl, hsz⟩ := okWide_struct Try.underlying25 hval
  rw [cellsParts] at hsz
  obtain ⟨l⟩ := cs
  match l, hsz with
  | [c0, c1, c2], _ =>
  obtain ⟨fuel, hf⟩ := hd
  obtain ⟨y0, y1, y2, m, hx, _, hy0, hy1, hy2⟩ := Go.Deep.trod_struct3 Try.underlying25 hf
  simp only [Value.cells, cellsBool, cellsU64, cellsI64] at hy0 hy1 hy2
  obtain ⟨g, rfl, rfl⟩ := trod_b hy0
  obtain ⟨n, rfl, rfl, w1⟩ := trod_u hy1
  obtain ⟨e, rfl, rfl, w2⟩ := trod_i hy2
  obtain ⟨m, rfl, hm⟩ := u64_nat w1
  simp only [Prod.mk.injEq] at hx
  obtain ⟨rfl, rfl⟩ := hx
  exact ⟨g, m, e, rfl, rfl, rfl, hm, w2⟩

theorem shut_parts {H : Type} {enc : TypeId × Value → H} {W : World} {sp : Nat → Bool} {held g : Bool} {base m : Nat} {e : Int} (hm : m < 18446744073709551616) (he : (Lit.int .i64 e).wf = true) :
    DataW.Trod enc Try.prog W base sp held 25 (.agg #[.bool g, .int .u64 (m : Int), .int .i64 e]) (.agg [.lit (.bool g), .lit (.int .u64 (m : Int)), .lit (.int .i64 e)]) [] := ⟨2, by
  have wm := u64_wf hm
  have f0 : DataW.trod enc Try.prog W base sp held 1 4 [.bool g] = some (.lit (.bool g), []) := by simp [DataW.trod, Try.underlying4]
  have f1 : DataW.trod enc Try.prog W base sp held 1 23 [.int .u64 (m : Int)] = some (.lit (.int .u64 (m : Int)), []) := by simp [DataW.trod, Try.underlying23, wm]
  have f2 : DataW.trod enc Try.prog W base sp held 1 3 [.int .i64 e] = some (.lit (.int .i64 e), []) := by simp [DataW.trod, Try.underlying3, he]
  have := Go.Deep.trod_struct3_mk (enc := enc) (w := W) (base := base) (spare := sp) (held := held) (n := 1) (cs := [.bool g, .int .u64 (m : Int), .int .i64 e]) Try.underlying25 (by simp [cellsParts]) (by simpa [cellsBool] using f0) (by simpa [cellsU64] using f1) (by simpa [cellsI64] using f2)
  simpa [Value.cells] using this⟩

set_option maxRecDepth 100000 in
theorem lifted (os : Os) (started : os.Started) (H : Type) (enc : TypeId × Value → H) :
    ReturnsInHanded {} Try.checked os 3 .any (Rows.ulpSplitsSpec.pre6 enc Try.prog Try.f3 Rows.ulpSplitsRow.domain false) (Rows.ulpSplitsSpec.post enc Try.prog Try.f3 false true false false) := by
  refine returnsInHanded_of_change (C := Try.checked) own started (by kernel_rfl) Try.func3
    (ChangeSpec.witness6 (enc := enc) (C := Try.checked) false ⟨#[], #[.float .f64 0, .agg #[.bool false, .int .u64 0, .int .i64 0], .int .i64 0], []⟩ 8 (by kernel_rfl) (by kernel_rfl) (by kernel_rfl) (by kernel_rfl)) ?_
  intro W base args ds gs before hval0 hW hcnd _
  have hval : ∀ (j : Nat) t v, Try.f3.params[j]? = some t → args[j]? = some v → Value.okWide Try.prog W .any base t v := hval0
  have hW' := hW
  obtain ⟨p, q, hA0, hV, rfl, hfz, hnd⟩ := hW
  have hA : DataW.TrodAll enc Try.prog W 0 (fun _ => true) true Try.f3.params.toList args.toList ds p := hA0
  rw [Try.params3] at hA hval
  obtain ⟨v0, vs0, d0, ds0, p0, q0, hargs, rfl, rfl, h0, r0⟩ := trodAll_cons hA
  obtain ⟨v1, vs1, d1, ds1, p1, q1, rfl, rfl, rfl, h1, r1⟩ := trodAll_cons r0
  obtain ⟨v2, vs2, d2, ds2, p2, q2, rfl, rfl, rfl, h2, r2⟩ := trodAll_cons r1
  obtain ⟨rfl, rfl, rfl⟩ := trodAll_nil r2
  obtain rfl : args = #[v0, v1, v2] := by cases args; simp_all
  obtain ⟨rfl, rfl⟩ := trodVars_none hV
  obtain ⟨a0, rfl, rfl, rfl, w0⟩ := open_float Try.underlying22 (hval 0 22 v0 rfl rfl) h0
  obtain ⟨g1, m1, a1, rfl, rfl, rfl, w1, u1⟩ := open_parts (hval 1 25 v1 rfl rfl) h1
  obtain ⟨a2, rfl, rfl, rfl, w2⟩ := open_int Try.underlying3 (hval 2 3 v2 rfl rfl) h2
  clear hA0 hval0
  simp only [List.append_nil] at hW'
  refine (ulpSplits_w a0 g1 m1 a1 a2 (f64_lt w0) w1 W).mono fun e W' ⟨he, bel⟩ => ?_
  subst he
  exact ⟨_, rfl, _, _, _, [], [], [], hW', trodAll_mk1 (shut_bool Try.underlying4 _), (trodAll_cons_mk (shut_float Try.underlying22 w0) (trodAll_cons_mk (shut_parts w1 u1) (trodAll_cons_mk (shut_int Try.underlying3 w2) trodAll_mk0))), rfl, bel.frame _, fun h => by cases h⟩

theorem over : Rows.ulpSplitsRow.holds Try.pinned (OpenSpec.ofChange Rows.ulpSplitsSpec) :=
  OpenClaim.holds_of_wide 3 Try.f3 rfl rfl rfl rfl rfl rfl rfl ⟨rfl, rfl, rfl, rfl, rfl⟩ rfl rfl rfl rfl rfl (by kernel_rfl) Try.func3 (by kernel_rfl)
    (of_decide_eq_true (by kernel_rfl)) (by unfold Func.isWrapper; first | (rw [if_pos (by decide +kernel)]; kernel_rfl) | (rw [if_neg (by decide +kernel)]; exact ⟨rfl, rfl⟩))
    (fun os started H enc _ => lifted os started H enc)

end Go.Proofs.Ytgigndboadmacaa.ulpSplits

namespace Go.Proofs.Ytgigndboadmacaa
/-- THE STATEMENT -/
theorem ulpSplits_proved : Rows.UlpSplitsSaid := ulpSplits.over
#print axioms ulpSplits_proved
end Go.Proofs.Ytgigndboadmacaa
