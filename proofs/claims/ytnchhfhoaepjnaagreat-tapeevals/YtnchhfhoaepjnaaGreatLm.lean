/- Slices of intervals, and slices of those, as arguments: opened. -/
import Derived.Test.YtnchhfhoaepjnaaGreatLa
import Derived.Test.YtnchhfhoaepjnaaGreatFr
import Derived.Deep.SlicePairs
import Derived.Deep.Slices
import Derived.WideKeyArgs
namespace Go.Proofs.YtnchhfhoaepjnaaGreat
open Go.ChangeShapes Go.WideShapes Go.ChangeAt Go.RowKit Go.Deep

theorem Tryz.laidOut : laidOutB Tryz.prog = true := by kernel_rfl
theorem cellsRow : Tryz.prog.cellsOf 26 = 1 := by kernel_rfl

theorem addr_add (b o j : Nat) : (⟨b, o, none⟩ : Addr).add j = ⟨b, o + j, none⟩ := by
  first
    | rfl
    | (unfold Addr.add; rfl)
    | simp [Addr.add]
    | (unfold Addr.add; split <;> simp_all)

theorem open_ivs {H : Type} {enc : TypeId × Value → H} {W : World} {fuel : Nat} {v : Value} {x : DataW H × List MemPlace} (h : DataW.trod enc Tryz.prog W 0 (fun _ => true) true fuel 26 [v] = some x) :
    ∃ A n C X, v = .slice A n C ∧ n ≤ 9223372036854775807 ∧ Ivs W A n X := by
  rcases open_slice_pairs Tryz.underlying26 Tryz.underlying46 cellsIval rfl rfl cellsFloat cellsFloat h with ⟨e, -⟩ | ⟨a, len, cap, m, f, V0, V1, D0, D1, P0, P1, e, -, hl, hm, hmm, -, hc⟩
  · simp only [List.cons.injEq, and_true] at e
    exact ⟨none, 0, 0, fun _ => (0, 0), e, by omega, fun i hi => absurd hi (by omega)⟩
  · simp only [List.cons.injEq, and_true] at e
    simp only [if_true] at hmm
    subst hmm
    obtain ⟨X, hX⟩ := Classical.axiomOfChoice (fun i => (show ∃ p : Nat × Nat, i < len → W.cell? (a.add (i * 2)) = some (.float .f64 p.1) ∧ W.cell? (a.add (i * 2 + 1)) = some (.float .f64 p.2) ∧ p.1 < 18446744073709551616 ∧ p.2 < 18446744073709551616 by
      by_cases hi : i < len
      · obtain ⟨c0, c1, t0, t1⟩ := hc i (by omega)
        obtain ⟨b0, e0, -, l0⟩ := trod_float t0
        obtain ⟨b1, e1, -, l1⟩ := trod_float t1
        rw [e0] at c0
        rw [e1] at c1
        exact ⟨(b0, b1), fun _ => ⟨c0, c1, l0, l1⟩⟩
      · exact ⟨(0, 0), fun q => absurd q hi⟩))
    refine ⟨some a, len, _, X, e, by unfold maxLen at hm; omega, fun i hi => ?_⟩
    obtain ⟨c0, c1, l⟩ := hX i hi
    obtain ⟨b, o, sp⟩ := a
    have hs : sp = none := by
      have q := World.cell?_spot (hX 0 (by omega)).1
      simpa [Addr.add] using q
    subst hs
    rw [addr_add] at c0 c1
    exact ⟨b, o, rfl, World.block_lt_of_cell? _ _ c0, c0, c1, l⟩

theorem open_rws {H : Type} {enc : TypeId × Value → H} {W : World} {fuel : Nat} {v : Value} {x : DataW H × List MemPlace} (h : DataW.trod enc Tryz.prog W 0 (fun _ => true) true fuel 31 [v] = some x) :
    ∃ A N C RA RL RC X, v = .slice A N C ∧ N ≤ 9223372036854775807 ∧ Rws W A N RA RL RC X := by
  rcases open_slice1 Tryz.underlying31 cellsRow h with ⟨e, -⟩ | ⟨a, len, cap, m, f, V, D, Pl, e, -, hl, hm, hmm, -, hc⟩
  · simp only [List.cons.injEq, and_true] at e
    exact ⟨none, 0, 0, fun _ => none, fun _ => 0, fun _ => 0, fun _ _ => (0, 0), e, by omega, fun i hi => absurd hi (by omega)⟩
  · simp only [List.cons.injEq, and_true] at e
    simp only [if_true] at hmm
    subst hmm
    obtain ⟨R, hR⟩ := Classical.axiomOfChoice (fun i => (show ∃ p : Option Addr × Nat × Nat × (Nat → Nat × Nat), i < len → W.cell? (a.add i) = some (.slice p.1 p.2.1 p.2.2.1) ∧ p.2.1 ≤ 9223372036854775807 ∧ Ivs W p.1 p.2.1 p.2.2.2 by
      by_cases hi : i < len
      · obtain ⟨c0, t0⟩ := hc i (by omega)
        obtain ⟨A, n, C, X, e0, l0, J⟩ := open_ivs t0
        rw [e0] at c0
        exact ⟨(A, n, C, X), fun _ => ⟨c0, l0, J⟩⟩
      · exact ⟨(none, 0, 0, fun _ => (0, 0)), fun q => absurd q hi⟩))
    refine ⟨some a, len, _, fun i => (R i).1, fun i => (R i).2.1, fun i => (R i).2.2.1, fun i => (R i).2.2.2, e, by unfold maxLen at hm; omega, fun i hi => ?_⟩
    obtain ⟨c0, l, J⟩ := hR i hi
    obtain ⟨b, o, sp⟩ := a
    have hs : sp = none := by
      have q := World.cell?_spot (hR 0 (by omega)).1
      simpa [Addr.add] using q
    subst hs
    rw [addr_add] at c0
    exact ⟨b, o, rfl, World.block_lt_of_cell? _ _ c0, c0, l, J⟩

end Go.Proofs.YtnchhfhoaepjnaaGreat
