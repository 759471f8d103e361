/- Slices of intervals, and slices of those, as they lie in memory; what vectorMayBe, Vector and isDimension answer. Matrices of intervals: may they be? Sums of products of intervals: the program's and the reference's. -/
import Derived.Test.YtnchhfhoaepjnaaGreatIi
import Derived.Test.YtnchhfhoaepjnaaGreatTl
import Derived.Deep.LoopGhost
import Derived.Test.YtnchhfhoaepjnaaGreatKh
namespace Go.Proofs.YtnchhfhoaepjnaaGreat
open Go.ChangeShapes Go.WideShapes Go.ChangeAt Go.RowKit

/-- n intervals from an address on: X i are the words of the one at i. -/
def Ivs (w : World) (A : Option Addr) (n : Nat) (X : Nat → Nat × Nat) : Prop :=
  ∀ i, i < n → ∃ b o, A = some ⟨b, o, none⟩ ∧ b < w.heap.size ∧ w.cell? ⟨b, o + i * 2, none⟩ = some (.float .f64 (X i).1) ∧ w.cell? ⟨b, o + i * 2 + 1, none⟩ = some (.float .f64 (X i).2) ∧ (X i).1 < 18446744073709551616 ∧ (X i).2 < 18446744073709551616

theorem Ivs.keep {w w2 : World} {A : Option Addr} {n : Nat} {X : Nat → Nat × Nat} (h : Ivs w A n X) (hb : Below w.heap.size w w2) : Ivs w2 A n X := fun i hi => by
  obtain ⟨b, o, e, l, c0, c1, r⟩ := h i hi
  exact ⟨b, o, e, Nat.lt_of_lt_of_le l hb.size, keepsC hb c0 l, keepsC hb c1 l, r⟩

/-- May a length be? -/
def dimB (n : Nat) : Bool := decide (1 ≤ n ∧ n ≤ 24)
theorem dim_yes {n : Nat} (h1 : 1 ≤ n) (h2 : n ≤ 24) : dimB n = true := decide_eq_true ⟨h1, h2⟩
theorem dim_no {n : Nat} (h : n = 0 ∨ 24 < n) : dimB n = false := decide_eq_false (by omega)

/-- May a vector be? -/
def vecB (n : Nat) (X : Nat → Nat × Nat) : Bool := (List.range n).all (fun i => rightB (X i).1 (X i).2) && dimB n

theorem all_upto {p : Nat → Bool} {n : Nat} : (List.range n).all p = true ↔ ∀ i, i < n → p i = true := by
  rw [List.all_eq_true]
  exact ⟨fun h i hi => h i (List.mem_range.2 hi), fun h i hi => h i (List.mem_range.1 hi)⟩

theorem all_not {p : Nat → Bool} {n i : Nat} (hi : i < n) (h : p i = false) : (List.range n).all p = false := by
  cases c : (List.range n).all p
  · rfl
  · rw [all_upto.1 c i hi] at h; cases h

theorem vecB_all {n : Nat} {X : Nat → Nat × Nat} (h : ∀ j, j < n → rightB (X j).1 (X j).2 = true) : vecB n X = dimB n := by
  unfold vecB
  rw [all_upto.2 h, Bool.true_and]

/-- N rows from an address on, each a slice of intervals. -/
def Rws (w : World) (A : Option Addr) (N : Nat) (RA : Nat → Option Addr) (RL RC : Nat → Nat) (X : Nat → Nat → Nat × Nat) : Prop :=
  ∀ r, r < N → ∃ b o, A = some ⟨b, o, none⟩ ∧ b < w.heap.size ∧ w.cell? ⟨b, o + r, none⟩ = some (.slice (RA r) (RL r) (RC r)) ∧ RL r ≤ 9223372036854775807 ∧ Ivs w (RA r) (RL r) (X r)

theorem Rws.keep {w w2 : World} {A : Option Addr} {N : Nat} {RA : Nat → Option Addr} {RL RC : Nat → Nat} {X : Nat → Nat → Nat × Nat} (h : Rws w A N RA RL RC X) (hb : Below w.heap.size w w2) : Rws w2 A N RA RL RC X := fun r hr => by
  obtain ⟨b, o, e, l, c0, c1, i⟩ := h r hr
  exact ⟨b, o, e, Nat.lt_of_lt_of_le l hb.size, keepsC hb c0 l, c1, i.keep hb⟩

/-- May a matrix be? -/
def matB (N : Nat) (RL : Nat → Nat) (X : Nat → Nat → Nat × Nat) : Bool := (List.range N).all (fun r => decide (RL r = RL 0) && vecB (RL r) (X r)) && dimB N

theorem matB_all {N : Nat} {RL : Nat → Nat} {X : Nat → Nat → Nat × Nat} (h : ∀ j, j < N → (decide (RL j = RL 0) && vecB (RL j) (X j)) = true) : matB N RL X = dimB N := by
  unfold matB
  rw [all_upto.2 h, Bool.true_and]

/-- The sum of the first k products. -/
def dotP (X Y : Nat → Nat × Nat) : Nat → Nat × Nat
  | 0 => (0, 0)
  | k + 1 => addP (dotP X Y k).1 (dotP X Y k).2 (mulP (X k).1 (X k).2 (Y k).1 (Y k).2).1 (mulP (X k).1 (X k).2 (Y k).1 (Y k).2).2

theorem dotP_lt {n : Nat} {X Y : Nat → Nat × Nat} (hx : ∀ i, i < n → (X i).1 < 18446744073709551616 ∧ (X i).2 < 18446744073709551616) (hy : ∀ i, i < n → (Y i).1 < 18446744073709551616 ∧ (Y i).2 < 18446744073709551616) : (dotP X Y n).1 < 18446744073709551616 ∧ (dotP X Y n).2 < 18446744073709551616 := by
  induction n with
  | zero => exact ⟨show 0 < 18446744073709551616 by omega, show 0 < 18446744073709551616 by omega⟩
  | succ n ih =>
    have d := ih (fun i hi => hx i (by omega)) (fun i hi => hy i (by omega))
    have a := hx n (by omega)
    have b := hy n (by omega)
    have m := mulP_lt a.1 a.2 b.1 b.2
    exact addP_lt d.1 d.2 m.1 m.2

theorem zero_make (w : World) : Calls Tryz.prog 48 #[.float .f64 0, .float .f64 0] w fun e w' => e = .returned (.agg #[.float .f64 0, .float .f64 0]) ∧ Below w.heap.size w w' := by
  have h := rmake_w 0 0 (by omega) (by omega) w
  have e : makeP 0 0 = (0, 0) := by decide
  rw [e] at h
  exact h

theorem ivs_words {w : World} {A : Option Addr} {n : Nat} {X : Nat → Nat × Nat} (V : Ivs w A n X) : ∀ i, i < n → (X i).1 < 18446744073709551616 ∧ (X i).2 < 18446744073709551616 := fun i hi => by
  obtain ⟨b, o, e, l, c0, c1, r⟩ := V i hi
  exact r

end Go.Proofs.YtnchhfhoaepjnaaGreat
