/- A tape as an argument: opened. -/
import Derived.Test.YtnchhfhoaepjnaaGreatTe
import Derived.Test.YtnchhfhoaepjnaaGreatFr
import Derived.Deep.Slices
import Derived.WideKeyArgs
namespace Go.Proofs.YtnchhfhoaepjnaaGreat
open Go.ChangeShapes Go.WideShapes Go.ChangeAt Go.RowKit Go.Deep

theorem Tryz.laidT : laidOutB Tryz.prog = true := by kernel_rfl
theorem cellsInt : Tryz.prog.cellsOf 3 = 1 := by kernel_rfl
theorem cellsOp : Tryz.prog.cellsOf 48 = 6 := by kernel_rfl
theorem cellsTape : Tryz.prog.cellsOf 25 = 3 := by kernel_rfl
theorem cellsOps : Tryz.prog.cellsOf 22 = 1 := by kernel_rfl
theorem cellsInts : Tryz.prog.cellsOf 23 = 1 := by kernel_rfl

theorem addr_addT (b o j : Nat) : (⟨b, o, none⟩ : Addr).add j = ⟨b, o + j, none⟩ := by
  first
    | rfl
    | (unfold Addr.add; rfl)
    | simp [Addr.add]
    | (unfold Addr.add; split <;> simp_all)

theorem open_ins {H : Type} {enc : TypeId × Value → H} {W : World} {fuel : Nat} {cs : List Value} {x : DataW H × List MemPlace} (h : DataW.trod enc Tryz.prog W 0 (fun _ => true) true fuel 23 cs = some x) :
    ∃ A n C Y, cs = [.slice A n C] ∧ n ≤ 9223372036854775807 ∧ Ins W A n Y := by
  rcases open_slice1 Tryz.underlying23 cellsInt h with ⟨e, -⟩ | ⟨a, len, cap, m, f, V, D, Pl, e, -, hl, hm, hmm, -, hc⟩
  · exact ⟨none, 0, 0, fun _ => 0, e, by omega, fun i hi => absurd hi (by omega)⟩
  · simp only [if_true] at hmm
    subst hmm
    obtain ⟨Y, hY⟩ := Classical.axiomOfChoice (fun i => (show ∃ p : Int, i < len → W.cell? (a.add i) = some (.int .i64 p) by
      by_cases hi : i < len
      · obtain ⟨c0, t0⟩ := hc i (by omega)
        obtain ⟨p, e0, -⟩ := DataW.trod_int Tryz.underlying3 t0
        simp only [List.cons.injEq, and_true] at e0
        rw [e0] at c0
        exact ⟨p, fun _ => c0⟩
      · exact ⟨0, fun q => absurd q hi⟩))
    refine ⟨some a, len, _, Y, e, by unfold maxLen at hm; omega, fun i hi => ?_⟩
    have c0 := hY i hi
    obtain ⟨b, o, sp⟩ := a
    have hs : sp = none := by
      have q := World.cell?_spot (hY 0 (by omega))
      simpa [Addr.add] using q
    subst hs
    rw [addr_addT] at c0
    exact ⟨b, o, rfl, World.block_lt_of_cell? _ _ c0, c0⟩

set_option maxRecDepth 4000 in
theorem open_op {H : Type} {enc : TypeId × Value → H} {W : World} {fuel : Nat} {cs : List Value} {x : DataW H × List MemPlace} (h : DataW.trod enc Tryz.prog W 0 (fun _ => true) true fuel 48 cs = some x) :
    ∃ o : Opw, cs = [.int .i64 o.k, .int .i64 o.a, .int .i64 o.b, .int .i64 o.n, .float .f64 o.lo, .float .f64 o.hi] ∧ o.lo < 18446744073709551616 ∧ o.hi < 18446744073709551616 := by
  obtain ⟨xs, k, -, -, hl, hx, hf⟩ := DataW.trod_struct Tryz.underlying48 h
  rw [cellsOp] at hl
  match xs, hx, cs, hl with
  | [z0, z1, z2, z3, z4], _, [c0, c1, c2, c3, c4, c5], _ =>
  have g0 := hf 0 _ rfl
  have g1 := hf 1 _ rfl
  have g2 := hf 2 _ rfl
  have g3 := hf 3 _ rfl
  have g4 := hf 4 _ rfl
  simp [cellsInt] at g0 g1 g2 g3
  simp [cellsIval] at g4
  obtain ⟨p0, e0, -⟩ := DataW.trod_int Tryz.underlying3 g0
  obtain ⟨p1, e1, -⟩ := DataW.trod_int Tryz.underlying3 g1
  obtain ⟨p2, e2, -⟩ := DataW.trod_int Tryz.underlying3 g2
  obtain ⟨p3, e3, -⟩ := DataW.trod_int Tryz.underlying3 g3
  obtain ⟨y0, y1, n, -, -, h0, h1⟩ := trod_struct2 Tryz.underlying46 g4
  simp [cellsFloat] at h0 h1
  obtain ⟨lo, f0, -, l0⟩ := trod_float h0
  obtain ⟨hi, f1, -, l1⟩ := trod_float h1
  simp only [List.cons.injEq, and_true] at e0 e1 e2 e3
  subst e0 e1 e2 e3 f0 f1
  exact ⟨⟨p0, p1, p2, p3, lo, hi⟩, rfl, l0, l1⟩

theorem open_ops {H : Type} {enc : TypeId × Value → H} {W : World} {fuel : Nat} {cs : List Value} {x : DataW H × List MemPlace} (h : DataW.trod enc Tryz.prog W 0 (fun _ => true) true fuel 22 cs = some x) :
    ∃ A n C X, cs = [.slice A n C] ∧ n ≤ 9223372036854775807 ∧ Ops W A n X := by
  rcases open_slice Tryz.underlying22 h with ⟨e, -⟩ | ⟨a, len, cap, m, f, D, Pl, e, -, hl, hm, hmm, -, hc⟩
  · exact ⟨none, 0, 0, fun _ => ⟨0, 0, 0, 0, 0, 0⟩, e, by omega, fun i hi => absurd hi (by omega)⟩
  · simp only [if_true] at hmm
    subst hmm
    obtain ⟨X, hX⟩ := Classical.axiomOfChoice (fun i => (show ∃ o : Opw, i < len → W.cell? (a.add (i * 6)) = some (.int .i64 o.k) ∧ W.cell? (a.add (i * 6 + 1)) = some (.int .i64 o.a) ∧ W.cell? (a.add (i * 6 + 2)) = some (.int .i64 o.b) ∧ W.cell? (a.add (i * 6 + 3)) = some (.int .i64 o.n) ∧ W.cell? (a.add (i * 6 + 4)) = some (.float .f64 o.lo) ∧ W.cell? (a.add (i * 6 + 5)) = some (.float .f64 o.hi) ∧ o.lo < 18446744073709551616 ∧ o.hi < 18446744073709551616 by
      by_cases hi : i < len
      · obtain ⟨cs', q1, q2⟩ := hc i (by omega)
        rw [cellsOp] at q1
        obtain ⟨o, rfl, l0, l1⟩ := open_op q2
        obtain ⟨_, hlen, hcell⟩ := World.cells?_some q1
        refine ⟨o, fun _ => ?_⟩
        have e0 := hcell 0 (by omega)
        have e1 := hcell 1 (by omega)
        have e2 := hcell 2 (by omega)
        have e3 := hcell 3 (by omega)
        have e4 := hcell 4 (by omega)
        have e5 := hcell 5 (by omega)
        rw [add_add] at e0 e1 e2 e3 e4 e5
        exact ⟨by simpa using e0, by simpa using e1, by simpa using e2, by simpa using e3, by simpa using e4, by simpa using e5, l0, l1⟩
      · exact ⟨⟨0, 0, 0, 0, 0, 0⟩, fun q => absurd q hi⟩))
    refine ⟨some a, len, _, X, e, by unfold maxLen at hm; omega, fun i hi => ?_⟩
    obtain ⟨c0, c1, c2, c3, c4, c5, l⟩ := hX i hi
    obtain ⟨b, o, sp⟩ := a
    have hs : sp = none := by
      have q := World.cell?_spot (hX 0 (by omega)).1
      simpa [Addr.add] using q
    subst hs
    rw [addr_addT] at c0 c1 c2 c3 c4 c5
    exact ⟨b, o, rfl, World.block_lt_of_cell? _ _ c0, c0, c1, c2, c3, c4, c5, l⟩

set_option maxRecDepth 100000 in
theorem open_tape {H : Type} {enc : TypeId × Value → H} {W : World} {r : Reach} {b0 : Nat} {v : Value} {d : DataW H} {ps : List MemPlace} (hval : Value.okWide Tryz.prog W r b0 25 v)
    (hd : DataW.Trod enc Tryz.prog W 0 (fun _ => true) true 25 v d ps) : ∃ u A n C D m E X Y, v = tapeV u A n C D m E ∧ n ≤ 9223372036854775807 ∧ m ≤ 9223372036854775807 ∧ Ops W A n X ∧ Ins W D m Y ∧ -9223372036854775808 ≤ u ∧ u ≤ 9223372036854775807 := by
  obtain ⟨cs, rfl, hsz⟩ := okWide_struct Tryz.underlying25 hval
  rw [cellsTape] at hsz
  obtain ⟨l⟩ := cs
  match l, hsz with
  | [c0, c1, c2], _ =>
  obtain ⟨fuel, hf⟩ := hd
  obtain ⟨xs, k, -, -, -, hx, hf⟩ := DataW.trod_struct Tryz.underlying25 hf
  match xs, hx with
  | [z0, z1, z2], _ =>
  have g0 := hf 0 _ rfl
  have g1 := hf 1 _ rfl
  have g2 := hf 2 _ rfl
  simp [Value.cells, cellsInt] at g0
  simp [Value.cells, cellsOps] at g1
  simp [Value.cells, cellsInts] at g2
  obtain ⟨u, e0, -, hw⟩ := DataW.trod_int Tryz.underlying3 g0
  obtain ⟨A, n, C, X, e1, hn, VX⟩ := open_ops g1
  obtain ⟨D, m, E, Y, e2, hm, VY⟩ := open_ins g2
  simp only [List.cons.injEq, and_true] at e0 e1 e2
  subst e0 e1 e2
  have hw' : -9223372036854775808 ≤ u ∧ u ≤ 9223372036854775807 := by
    simp [Lit.wf] at hw
    have h1 : IntKind.i64.min = -9223372036854775808 := by decide
    have h2 : IntKind.i64.max = 9223372036854775807 := by decide
    omega
  exact ⟨u, A, n, C, D, m, E, X, Y, rfl, hn, hm, VX, VY, hw'⟩

end Go.Proofs.YtnchhfhoaepjnaaGreat
