/- Matrices of intervals: may they be? -/
import Derived.Test.YtddkojmdhckleaaLa
namespace Go.Proofs.Ytddkojmdhckleaa
open Go.ChangeShapes Go.WideShapes Go.ChangeAt Go.RowKit

/-- N rows from an address on, each a slice of intervals. -/
def Rws (w : World) (A : Option Addr) (N : Nat) (RA : Nat → Option Addr) (RL RC : Nat → Nat) (X : Nat → Nat → Nat × Nat) : Prop :=
  ∀ r, r < N → ∃ b o, A = some ⟨b, o, none⟩ ∧ b < w.heap.size ∧ w.cell? ⟨b, o + r, none⟩ = some (.slice (RA r) (RL r) (RC r)) ∧ RL r ≤ 9223372036854775807 ∧ Ivs w (RA r) (RL r) (X r)

theorem Rws.keep {w w2 : World} {A : Option Addr} {N : Nat} {RA : Nat → Option Addr} {RL RC : Nat → Nat} {X : Nat → Nat → Nat × Nat} (h : Rws w A N RA RL RC X) (hb : Below w.heap.size w w2) : Rws w2 A N RA RL RC X := fun r hr => by
  obtain ⟨b, o, e, l, c0, c1, i⟩ := h r hr
  exact ⟨b, o, e, Nat.lt_of_lt_of_le l hb.size, keepsC hb c0 l, c1, i.keep hb⟩

/-- May a matrix be? -/
def matB (N : Nat) (RL : Nat → Nat) (X : Nat → Nat → Nat × Nat) : Bool := (List.range N).all (fun r => decide (RL r = RL 0) && vecB (RL r) (X r)) && dimB N

theorem matB_all {N : Nat} {RL : Nat → Nat} {X : Nat → Nat → Nat × Nat} (h : ∀ j, j < N → (decide (RL j = RL 0) && vecB (RL j) (X j)) = true) : matB N RL X = dimB N := by
  unfold matB
  rw [all_upto.2 h, Bool.true_and]

set_option maxHeartbeats 2000000 in
theorem matMay_w (A : Option Addr) (N C : Nat) (RA : Nat → Option Addr) (RL RC : Nat → Nat) (X : Nat → Nat → Nat × Nat) (hN : N ≤ 9223372036854775807) (w : World) (V : Rws w A N RA RL RC X) :
    Calls Try.prog 37 #[.slice A N C] w fun e w' => e = .returned (.bool (matB N RL X)) ∧ Below w.heap.size w w' := by
  go_enter Try.func37, Try.ntmps37
  go_wp2_with fail
  go_loopg [7] N (fun G s7 wx => Below w.heap.size w wx ∧ ∃ r : Nat, r + G = N ∧ s7 = .int .i64 (r : Int) ∧ Hid (∀ j, j < r → (decide (RL j = RL 0) && vecB (RL j) (X j)) = true))
  case atStart => exact ⟨Below.refl _ _, 0, by omega, rfl, fun j hj => absurd hj (by omega)⟩
  case round =>
    obtain ⟨HB, r, hr, rfl, hall⟩ := hrel
    by_cases cr : r = N
    · subst cr
      go_wp2_with (go_at_call 42; refine (isDim_w r hN _).mono ?_; rintro _ _ ⟨rfl, rfl⟩)
      go_ret
      exact ⟨(congrArg (fun q => Ending.returned (Value.bool q)) (matB_all hall)).symm, HB⟩
    · have hlt : (r : Int) < (N : Int) := by omega
      have hlt0 : (0 : Int) < (N : Int) := by omega
      obtain ⟨b, o, hA, hb, x0, l0, I⟩ := (V.keep HB) r (by omega)
      obtain ⟨b', o', hA', hb', x1, l1, -⟩ := (V.keep HB) 0 (by omega)
      have hE : b' = b ∧ o' = o := by
        rw [hA] at hA'
        simp only [Option.some.injEq, Addr.mk.injEq] at hA'
        exact ⟨hA'.1.symm, hA'.2.1.symm⟩
      obtain ⟨rfl, rfl⟩ := hE
      rw [Nat.add_zero] at x1
      clear hA' hb'
      have c : ∀ w2, Below wr.heap.size wr w2 → Calls Try.prog 31 #[.slice (RA r) (RL r) (RC r)] w2 fun e w' => e = .returned (.bool (vecB (RL r) (X r))) ∧ Below w2.heap.size w2 w' := fun w2 hw => vecMay_w (RA r) (RL r) (RC r) (X r) l0 w2 (I.keep hw)
      replace c := c wr (Below.refl _ _)
      by_cases ce : RL r = RL 0
      · have ce' : ((RL r : Int) != (RL 0 : Int)) = false := by simp [ce]
        have CE : Hid (RL r = RL 0) := ce
        clear ce
        have hcase : vecB (RL r) (X r) = true ∨ vecB (RL r) (X r) = false := by cases vecB (RL r) (X r) <;> simp
        rcases hcase with hq | hq
        · rw [hq] at c
          subst hA
          go_wp2_with (go_at_call 31; refine c.mono ?_; rintro _ w1 ⟨rfl, hb1⟩; have y1 := keepsC hb1 x1 hb; replace HB := later HB hb1)
          go_roundg (N - r - 1)
          case measure => omega
          case rel => exact ⟨HB, r + 1, by omega, by go_num, fun j hj => by rcases Nat.lt_or_ge j r with h | h; exact hall j h; rw [show j = r by omega, hq, decide_eq_true (show RL r = RL 0 from CE)]; rfl⟩
        · rw [hq] at c
          have e : matB N RL X = false := by
            unfold matB
            rw [all_not (i := r) (by omega) (by rw [hq, Bool.and_false]), Bool.false_and]
          subst hA
          go_wp2_with (go_at_call 31; refine c.mono ?_; rintro _ w1 ⟨rfl, hb1⟩; have y1 := keepsC hb1 x1 hb; replace HB := later HB hb1)
          go_ret
          exact ⟨(congrArg (fun q => Ending.returned (Value.bool q)) e).symm, HB⟩
      · have ce' : ((RL r : Int) != (RL 0 : Int)) = true := by simp; omega
        have e : matB N RL X = false := by
          unfold matB
          rw [all_not (i := r) (by omega) (by rw [decide_eq_false ce, Bool.false_and]), Bool.false_and]
        generalize vecB (RL r) (X r) = q at *
        subst hA
        cases q
        all_goals
          go_wp2_with (go_at_call 31; refine c.mono ?_; rintro _ w1 ⟨rfl, hb1⟩; have y1 := keepsC hb1 x1 hb; replace HB := later HB hb1)
          go_ret
          exact ⟨(congrArg (fun q => Ending.returned (Value.bool q)) e).symm, HB⟩

set_option maxHeartbeats 2000000 in
theorem rmat_w (A : Option Addr) (N C : Nat) (RA : Nat → Option Addr) (RL RC : Nat → Nat) (X : Nat → Nat → Nat × Nat) (hN : N ≤ 9223372036854775807) (w : World) (V : Rws w A N RA RL RC X) :
    Calls Try.prog 12 #[.slice A N C] w fun e w' => e = .returned (.bool (matB N RL X)) ∧ Below w.heap.size w w' := by
  go_enter Try.func12, Try.ntmps12
  go_wp2_with fail
  go_loopg [7] N (fun G s7 wx => Below w.heap.size w wx ∧ ∃ r : Nat, r + G = N ∧ s7 = .int .i64 (r : Int) ∧ Hid (∀ j, j < r → (decide (RL j = RL 0) && vecB (RL j) (X j)) = true))
  case atStart => exact ⟨Below.refl _ _, 0, by omega, rfl, fun j hj => absurd hj (by omega)⟩
  case round =>
    obtain ⟨HB, r, hr, rfl, hall⟩ := hrel
    by_cases cr : r = N
    · subst cr
      by_cases c1 : 1 ≤ r
      · by_cases c2 : r ≤ 24
        · have h1 : (1 : Int) ≤ (r : Int) := by omega
          have h2 : (r : Int) ≤ 24 := by omega
          go_wp2_with fail
          go_ret
          exact ⟨(congrArg (fun q => Ending.returned (Value.bool q)) ((matB_all hall).trans (dim_yes c1 c2))).symm, HB⟩
        · have h1 : (1 : Int) ≤ (r : Int) := by omega
          have h2 : ¬ (r : Int) ≤ 24 := by omega
          go_wp2_with fail
          go_ret
          exact ⟨(congrArg (fun q => Ending.returned (Value.bool q)) ((matB_all hall).trans (dim_no (show r = 0 ∨ 24 < r by omega)))).symm, HB⟩
      · have h1 : ¬ (1 : Int) ≤ (r : Int) := by omega
        go_wp2_with fail
        go_ret
        exact ⟨(congrArg (fun q => Ending.returned (Value.bool q)) ((matB_all hall).trans (dim_no (show r = 0 ∨ 24 < r by omega)))).symm, HB⟩
    · have hlt : (r : Int) < (N : Int) := by omega
      have hlt0 : (0 : Int) < (N : Int) := by omega
      obtain ⟨b, o, hA, hb, x0, l0, I⟩ := (V.keep HB) r (by omega)
      obtain ⟨b', o', hA', hb', x1, l1, -⟩ := (V.keep HB) 0 (by omega)
      have hE : b' = b ∧ o' = o := by
        rw [hA] at hA'
        simp only [Option.some.injEq, Addr.mk.injEq] at hA'
        exact ⟨hA'.1.symm, hA'.2.1.symm⟩
      obtain ⟨rfl, rfl⟩ := hE
      rw [Nat.add_zero] at x1
      clear hA' hb'
      have c : ∀ w2, Below wr.heap.size wr w2 → Calls Try.prog 8 #[.slice (RA r) (RL r) (RC r)] w2 fun e w' => e = .returned (.bool (vecB (RL r) (X r))) ∧ Below w2.heap.size w2 w' := fun w2 hw => rvec_w (RA r) (RL r) (RC r) (X r) l0 w2 (I.keep hw)
      replace c := c wr (Below.refl _ _)
      by_cases ce : RL r = RL 0
      · have ce' : ((RL r : Int) != (RL 0 : Int)) = false := by simp [ce]
        have CE : Hid (RL r = RL 0) := ce
        clear ce
        have hcase : vecB (RL r) (X r) = true ∨ vecB (RL r) (X r) = false := by cases vecB (RL r) (X r) <;> simp
        rcases hcase with hq | hq
        · rw [hq] at c
          subst hA
          go_wp2_with (go_at_call 8; refine c.mono ?_; rintro _ w1 ⟨rfl, hb1⟩; have y1 := keepsC hb1 x1 hb; replace HB := later HB hb1)
          go_roundg (N - r - 1)
          case measure => omega
          case rel => exact ⟨HB, r + 1, by omega, by go_num, fun j hj => by rcases Nat.lt_or_ge j r with h | h; exact hall j h; rw [show j = r by omega, hq, decide_eq_true (show RL r = RL 0 from CE)]; rfl⟩
        · rw [hq] at c
          have e : matB N RL X = false := by
            unfold matB
            rw [all_not (i := r) (by omega) (by rw [hq, Bool.and_false]), Bool.false_and]
          subst hA
          go_wp2_with (go_at_call 8; refine c.mono ?_; rintro _ w1 ⟨rfl, hb1⟩; have y1 := keepsC hb1 x1 hb; replace HB := later HB hb1)
          go_ret
          exact ⟨(congrArg (fun q => Ending.returned (Value.bool q)) e).symm, HB⟩
      · have ce' : ((RL r : Int) != (RL 0 : Int)) = true := by simp; omega
        have e : matB N RL X = false := by
          unfold matB
          rw [all_not (i := r) (by omega) (by rw [decide_eq_false ce, Bool.false_and]), Bool.false_and]
        generalize vecB (RL r) (X r) = q at *
        subst hA
        cases q
        all_goals
          go_wp2_with (go_at_call 8; refine c.mono ?_; rintro _ w1 ⟨rfl, hb1⟩; have y1 := keepsC hb1 x1 hb; replace HB := later HB hb1)
          go_ret
          exact ⟨(congrArg (fun q => Ending.returned (Value.bool q)) e).symm, HB⟩

end Go.Proofs.Ytddkojmdhckleaa
