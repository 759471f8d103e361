/- Slices of intervals, and slices of those, as they lie in memory; what vectorMayBe, Vector and isDimension answer. -/
import Derived.Test.YtddkojmdhckleaaIi
import Derived.Test.YtddkojmdhckleaaTl
import Derived.Deep.LoopGhost
namespace Go.Proofs.Ytddkojmdhckleaa
open Go.ChangeShapes Go.WideShapes Go.ChangeAt Go.RowKit

/-- n intervals from an address on: X i are the words of the one at i. -/
def Ivs (w : World) (A : Option Addr) (n : Nat) (X : Nat → Nat × Nat) : Prop :=
  ∀ i, i < n → ∃ b o, A = some ⟨b, o, none⟩ ∧ b < w.heap.size ∧ w.cell? ⟨b, o + i * 2, none⟩ = some (.float .f64 (X i).1) ∧ w.cell? ⟨b, o + i * 2 + 1, none⟩ = some (.float .f64 (X i).2) ∧ (X i).1 < 18446744073709551616 ∧ (X i).2 < 18446744073709551616

theorem Ivs.keep {w w2 : World} {A : Option Addr} {n : Nat} {X : Nat → Nat × Nat} (h : Ivs w A n X) (hb : Below w.heap.size w w2) : Ivs w2 A n X := fun i hi => by
  obtain ⟨b, o, e, l, c0, c1, r⟩ := h i hi
  exact ⟨b, o, e, Nat.lt_of_lt_of_le l hb.size, keepsC hb c0 l, keepsC hb c1 l, r⟩

/-- May a length be? -/
def dimB (n : Nat) : Bool := decide (1 ≤ n ∧ n ≤ 24)
theorem dim_yes {n : Nat} (h1 : 1 ≤ n) (h2 : n ≤ 24) : dimB n = true := decide_eq_true ⟨h1, h2⟩
theorem dim_no {n : Nat} (h : n = 0 ∨ 24 < n) : dimB n = false := decide_eq_false (by omega)

/-- May a vector be? -/
def vecB (n : Nat) (X : Nat → Nat × Nat) : Bool := (List.range n).all (fun i => rightB (X i).1 (X i).2) && dimB n

theorem all_upto {p : Nat → Bool} {n : Nat} : (List.range n).all p = true ↔ ∀ i, i < n → p i = true := by
  rw [List.all_eq_true]
  exact ⟨fun h i hi => h i (List.mem_range.2 hi), fun h i hi => h i (List.mem_range.1 hi)⟩

theorem all_not {p : Nat → Bool} {n i : Nat} (hi : i < n) (h : p i = false) : (List.range n).all p = false := by
  cases c : (List.range n).all p
  · rfl
  · rw [all_upto.1 c i hi] at h; cases h

theorem vecB_all {n : Nat} {X : Nat → Nat × Nat} (h : ∀ j, j < n → rightB (X j).1 (X j).2 = true) : vecB n X = dimB n := by
  unfold vecB
  rw [all_upto.2 h, Bool.true_and]

theorem isDim_w (n : Nat) (hn : n ≤ 9223372036854775807) (w : World) : Calls Try.prog 42 #[.int .i64 (n : Int)] w fun e w' => e = .returned (.bool (dimB n)) ∧ w = w' := by
  by_cases c1 : 1 ≤ n
  · by_cases c2 : n ≤ 24
    · have h1 : (1 : Int) ≤ (n : Int) := by omega
      have h2 : (n : Int) ≤ 24 := by omega
      rw [dim_yes c1 c2]
      go_enter Try.func42, Try.ntmps42
      go_wp2_with fail
      go_ret
      exact ⟨rfl, rfl⟩
    · have h1 : (1 : Int) ≤ (n : Int) := by omega
      have h2 : ¬ (n : Int) ≤ 24 := by omega
      rw [dim_no (by omega)]
      go_enter Try.func42, Try.ntmps42
      go_wp2_with fail
      go_ret
      exact ⟨rfl, rfl⟩
  · have h1 : ¬ (1 : Int) ≤ (n : Int) := by omega
    rw [dim_no (by omega)]
    go_enter Try.func42, Try.ntmps42
    go_wp2_with fail
    go_ret
    exact ⟨rfl, rfl⟩


set_option maxHeartbeats 1000000 in
theorem vecMay_w (A : Option Addr) (n C : Nat) (X : Nat → Nat × Nat) (hC : n ≤ 9223372036854775807) (w : World) (V : Ivs w A n X) :
    Calls Try.prog 31 #[.slice A n C] w fun e w' => e = .returned (.bool (vecB n X)) ∧ Below w.heap.size w w' := by
  have cr := fun (i : Nat) (h1 : (X i).1 < 18446744073709551616) (h2 : (X i).2 < 18446744073709551616) w => right_w (X i).1 (X i).2 h1 h2 w
  go_enter Try.func31, Try.ntmps31
  go_wp2_with fail
  go_loopg [7] n (fun G s7 wx => Below w.heap.size w wx ∧ ∃ i : Nat, i + G = n ∧ s7 = .int .i64 (i : Int) ∧ Hid (∀ j, j < i → rightB (X j).1 (X j).2 = true))
  case atStart => exact ⟨Below.refl _ _, 0, by omega, rfl, fun j hj => absurd hj (by omega)⟩
  case round =>
    obtain ⟨HB, i, hi, rfl, hall⟩ := hrel
    by_cases ci : i = n
    · subst ci
      go_wp2_with (go_at_call 42; refine (isDim_w i hC _).mono ?_; rintro _ _ ⟨rfl, rfl⟩)
      go_ret
      exact ⟨(congrArg (fun q => Ending.returned (Value.bool q)) (vecB_all hall)).symm, HB⟩
    · have hlt : (i : Int) < (n : Int) := by omega
      obtain ⟨b, o, hA, hb, x0, x1, l0, l1⟩ := (V.keep HB) i (by omega)
      have c := cr i l0 l1
      have hcase : rightB (X i).1 (X i).2 = true ∨ rightB (X i).1 (X i).2 = false := by cases rightB (X i).1 (X i).2 <;> simp
      rcases hcase with hq | hq
      · rw [hq] at c
        subst hA
        go_wp2_with (go_at_call 51; refine (c _).mono ?_; rintro _ w1 ⟨rfl, hb1⟩; replace HB := later (below_alloc HB _) hb1)
        go_roundg (n - i - 1)
        case measure => omega
        case rel => exact ⟨HB, i + 1, by omega, by go_num, fun j hj => by rcases Nat.lt_or_ge j i with h | h; exact hall j h; rw [show j = i by omega]; exact hq⟩
      · rw [hq] at c
        have e : vecB n X = false := by
          unfold vecB
          rw [all_not (i := i) (by omega) hq, Bool.false_and]
        subst hA
        go_wp2_with (go_at_call 51; refine (c _).mono ?_; rintro _ w1 ⟨rfl, hb1⟩; replace HB := later (below_alloc HB _) hb1)
        go_ret
        exact ⟨(congrArg (fun q => Ending.returned (Value.bool q)) e).symm, HB⟩

set_option maxHeartbeats 1000000 in
theorem rvec_w (A : Option Addr) (n C : Nat) (X : Nat → Nat × Nat) (hC : n ≤ 9223372036854775807) (w : World) (V : Ivs w A n X) :
    Calls Try.prog 8 #[.slice A n C] w fun e w' => e = .returned (.bool (vecB n X)) ∧ Below w.heap.size w w' := by
  have cr := fun (i : Nat) (h1 : (X i).1 < 18446744073709551616) (h2 : (X i).2 < 18446744073709551616) w => refRight_w (X i).1 (X i).2 h1 h2 w
  go_enter Try.func8, Try.ntmps8
  go_wp2_with fail
  go_loopg [7] n (fun G s7 wx => Below w.heap.size w wx ∧ ∃ i : Nat, i + G = n ∧ s7 = .int .i64 (i : Int) ∧ Hid (∀ j, j < i → rightB (X j).1 (X j).2 = true))
  case atStart => exact ⟨Below.refl _ _, 0, by omega, rfl, fun j hj => absurd hj (by omega)⟩
  case round =>
    obtain ⟨HB, i, hi, rfl, hall⟩ := hrel
    by_cases ci : i = n
    · subst ci
      by_cases c1 : 1 ≤ i
      · by_cases c2 : i ≤ 24
        · have h1 : (1 : Int) ≤ (i : Int) := by omega
          have h2 : (i : Int) ≤ 24 := by omega
          go_wp2_with fail
          go_ret
          exact ⟨(congrArg (fun q => Ending.returned (Value.bool q)) ((vecB_all hall).trans (dim_yes c1 c2))).symm, HB⟩
        · have h1 : (1 : Int) ≤ (i : Int) := by omega
          have h2 : ¬ (i : Int) ≤ 24 := by omega
          go_wp2_with fail
          go_ret
          exact ⟨(congrArg (fun q => Ending.returned (Value.bool q)) ((vecB_all hall).trans (dim_no (show i = 0 ∨ 24 < i by omega)))).symm, HB⟩
      · have h1 : ¬ (1 : Int) ≤ (i : Int) := by omega
        go_wp2_with fail
        go_ret
        exact ⟨(congrArg (fun q => Ending.returned (Value.bool q)) ((vecB_all hall).trans (dim_no (show i = 0 ∨ 24 < i by omega)))).symm, HB⟩
    · have hlt : (i : Int) < (n : Int) := by omega
      obtain ⟨b, o, hA, hb, x0, x1, l0, l1⟩ := (V.keep HB) i (by omega)
      have c := cr i l0 l1
      have hcase : rightB (X i).1 (X i).2 = true ∨ rightB (X i).1 (X i).2 = false := by cases rightB (X i).1 (X i).2 <;> simp
      rcases hcase with hq | hq
      · rw [hq] at c
        subst hA
        go_wp2_with (go_at_call 33; refine (c _).mono ?_; rintro _ w1 ⟨rfl, hb1⟩; replace HB := later (below_alloc HB _) hb1)
        go_roundg (n - i - 1)
        case measure => omega
        case rel => exact ⟨HB, i + 1, by omega, by go_num, fun j hj => by rcases Nat.lt_or_ge j i with h | h; exact hall j h; rw [show j = i by omega]; exact hq⟩
      · rw [hq] at c
        have e : vecB n X = false := by
          unfold vecB
          rw [all_not (i := i) (by omega) hq, Bool.false_and]
        subst hA
        go_wp2_with (go_at_call 33; refine (c _).mono ?_; rintro _ w1 ⟨rfl, hb1⟩; replace HB := later (below_alloc HB _) hb1)
        go_ret
        exact ⟨(congrArg (fun q => Ending.returned (Value.bool q)) e).symm, HB⟩

end Go.Proofs.Ytddkojmdhckleaa
