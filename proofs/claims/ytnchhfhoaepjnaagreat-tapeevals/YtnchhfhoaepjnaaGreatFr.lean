/- An interval as an argument: opened and shut. -/
import Derived.Test.YtnchhfhoaepjnaaGreatIf
import Derived.ChangeSame
import Derived.JoinedOf
import Derived.JoinedAt
import Derived.RowKit3
namespace Go.Proofs.YtnchhfhoaepjnaaGreat
open Go.ChangeShapes Go.WideShapes Go.ChangeAt Go.RowKit

theorem cellsIval : Tryz.prog.cellsOf 46 = 2 := by kernel_rfl
theorem cellsFloat : Tryz.prog.cellsOf 44 = 1 := by kernel_rfl
theorem f64_lt {b : Nat} (h : (Lit.float .f64 b).wf = true) : b < 18446744073709551616 := by simpa [Lit.wf] using h
theorem f64_wf {b : Nat} (h : b < 18446744073709551616) : (Lit.float .f64 b).wf = true := by simpa [Lit.wf] using h

theorem trod_float {H : Type} {enc : TypeId × Value → H} {W : World} {base : Nat} {sp : Nat → Bool} {held : Bool} {m : Nat} {c : Value} {y : DataW H × List MemPlace} (h : DataW.trod enc Tryz.prog W base sp held m 44 [c] = some y) :
    ∃ b, c = .float .f64 b ∧ y = (.lit (.float .f64 b), []) ∧ b < 18446744073709551616 := by
  have ht := Tryz.underlying44
  cases m with
  | zero => simp [DataW.trod] at h
  | succ n =>
    cases c <;> simp [DataW.trod, ht] at h
    rename_i k b
    obtain ⟨⟨rfl, h1⟩, h2⟩ := h
    exact ⟨b, rfl, h2.symm, f64_lt h1⟩

set_option maxRecDepth 100000 in
theorem open_ival {H : Type} {enc : TypeId × Value → H} {W : World} {base : Nat} {sp : Nat → Bool} {held : Bool} {r : Reach} {b0 : Nat} {v : Value} {d : DataW H} {ps : List MemPlace} (hval : Value.okWide Tryz.prog W r b0 46 v)
    (hd : DataW.Trod enc Tryz.prog W base sp held 46 v d ps) : ∃ lo hi, v = .agg #[.float .f64 lo, .float .f64 hi] ∧ d = .agg [.lit (.float .f64 lo), .lit (.float .f64 hi)] ∧ ps = [] ∧ lo < 18446744073709551616 ∧ hi < 18446744073709551616 := by
  obtain ⟨cs, rfl, hsz⟩ := okWide_struct Tryz.underlying46 hval
  rw [cellsIval] at hsz
  obtain ⟨l⟩ := cs
  match l, hsz with
  | [c0, c1], _ =>
  obtain ⟨fuel, hf⟩ := hd
  obtain ⟨y0, y1, m, hx, _, hy0, hy1⟩ := trod_struct2 Tryz.underlying46 hf
  simp only [Value.cells, cellsFloat] at hy0 hy1
  obtain ⟨lo, rfl, rfl, w0⟩ := trod_float hy0
  obtain ⟨hi, rfl, rfl, w1⟩ := trod_float hy1
  simp only [Prod.mk.injEq] at hx
  obtain ⟨rfl, rfl⟩ := hx
  exact ⟨lo, hi, rfl, rfl, rfl, w0, w1⟩

set_option maxRecDepth 100000 in
theorem shut_ival {H : Type} {enc : TypeId × Value → H} {W : World} {sp : Nat → Bool} {held : Bool} {base lo hi : Nat} (hl : lo < 18446744073709551616) (hh : hi < 18446744073709551616) :
    DataW.Trod enc Tryz.prog W base sp held 46 (.agg #[.float .f64 lo, .float .f64 hi]) (.agg [.lit (.float .f64 lo), .lit (.float .f64 hi)]) [] := ⟨2, by
  have wl := f64_wf hl
  have wh := f64_wf hh
  have f0 : DataW.trod enc Tryz.prog W base sp held 1 44 [.float .f64 lo] = some (.lit (.float .f64 lo), []) := by simp [DataW.trod, Tryz.underlying44, wl]
  have f1 : DataW.trod enc Tryz.prog W base sp held 1 44 [.float .f64 hi] = some (.lit (.float .f64 hi), []) := by simp [DataW.trod, Tryz.underlying44, wh]
  have := trod_struct2_mk (enc := enc) (w := W) (base := base) (spare := sp) (held := held) (n := 1) (cs := [.float .f64 lo, .float .f64 hi]) Tryz.underlying46 (by simp [cellsIval]) (by simpa [cellsFloat] using f0) (by simpa [cellsFloat] using f1)
  simpa [Value.cells] using this⟩

end Go.Proofs.YtnchhfhoaepjnaaGreat
