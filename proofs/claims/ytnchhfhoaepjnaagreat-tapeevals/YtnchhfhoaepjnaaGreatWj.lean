/- The walk of rootOfWords: the whole part of the root of a word times 2^64. -/
import Derived.Test.YtnchhfhoaepjnaaGreatWd
import Derived.Deep.CutBlock
import Derived.Deep.CutRange
import Derived.Deep.LoopGhost
namespace Go.Proofs.YtnchhfhoaepjnaaGreat
open Go.ChangeShapes Go.WideShapes Go.ChangeAt Go.RowKit

set_option maxHeartbeats 2000000 in
theorem rootw_core (hi M top0 low0 : Nat) (ex : Bool) (P : Nat → Nat → Nat → Prop) (h0 : P 64 0 9223372036854775808) (hz : ∀ m b, P 0 m b → b = 0 ∧ m = M)
    (hs : ∀ j m b, P (j + 1) m b → ∃ t top low b' : Nat, ((b : Int) != 0) = true ∧ bits .or .u64 (m : Int) (b : Int) = (t : Int) ∧ (b : Int) / 2 = (b' : Int) ∧
      (∀ w, Calls Tryz.prog 203 #[.int .u64 t, .int .u64 t] w fun r w' => r = .returned (.tuple #[.int .u64 top, .int .u64 low]) ∧ w = w') ∧
      ((top : Int) < (hi : Int) ∧ P j t b' ∨ ¬ (top : Int) < (hi : Int) ∧ ((top : Int) == (hi : Int)) = true ∧ ((low : Int) == 0) = true ∧ P j t b' ∨
       ¬ (top : Int) < (hi : Int) ∧ ((top : Int) == (hi : Int)) = true ∧ ((low : Int) == 0) = false ∧ P j m b' ∨ ¬ (top : Int) < (hi : Int) ∧ ((top : Int) == (hi : Int)) = false ∧ P j m b'))
    (hfin : ∀ w, Calls Tryz.prog 203 #[.int .u64 M, .int .u64 M] w fun r w' => r = .returned (.tuple #[.int .u64 top0, .int .u64 low0]) ∧ w = w')
    (hex : (((top0 : Int) == (hi : Int)) && ((low0 : Int) == 0)) = ex) (w : World) :
    Calls Tryz.prog 206 #[.int .u64 hi] w fun r w' => r = .returned (.tuple #[.int .u64 M, .bool ex]) ∧ Below w.heap.size w w' := by
  go_enter Tryz.func206, Tryz.ntmps206
  go_upto_block 0 with fail
  go_cut [2, 4] from 9 to 37 (fun s2 _ wx => w = wx ∧ s2 = .int .u64 (M : Int))
  case first =>
    clear hfin hex
    go_wp2_with fail
    go_loopg [2, 4] 64 (fun g s2 s4 wx => w = wx ∧ ∃ m b : Nat, P g m b ∧ s2 = .int .u64 (m : Int) ∧ s4 = .int .u64 (b : Int))
    case atStart => exact ⟨rfl, 0, 9223372036854775808, h0, rfl, rfl⟩
    case round =>
      obtain ⟨rfl, m, b, hP, rfl, rfl⟩ := hrel
      cases gk with
      | zero =>
        obtain ⟨rfl, rfl⟩ := hz _ _ hP
        clear hz hs hP h0
        go_wp2
        go_meet
        exact ⟨rfl, rfl⟩
      | succ j =>
        obtain ⟨t, top, low, b', r1, r2, r3, r4, r5⟩ := hs _ _ _ hP
        clear hz hs hP h0
        rcases r5 with ⟨c1, hn⟩ | ⟨c1, c2, c3, hn⟩ | ⟨c1, c2, c3, hn⟩ | ⟨c1, c2, hn⟩
        all_goals
          have HN := (show Hid _ from hn)
          clear hn
          go_wp2_with (first | (go_at_call 203; refine (r4 _).mono ?_; rintro _ _ ⟨rfl, rfl⟩))
          go_roundg j
          case rel => exact ⟨rfl, _, b', HN.out, rfl, rfl⟩
          case measure => omega
  case rest =>
  obtain ⟨rfl, rfl⟩ := hcut
  clear h0 hz hs
  go_wp2_with (first | (go_at_call 203; refine (hfin _).mono ?_; rintro _ _ ⟨rfl, rfl⟩))
  all_goals
    go_ret2
    refine ⟨?_, Below.refl _ _⟩
    rename_i h
    rw [← hex]
    show Ending.returned (Value.tuple #[Value.int IntKind.u64 _, Value.bool _]) = _
    simp [h]

/-- What holds ahead of each round: j bits are still to be found. -/
def RootP (N : Nat) (j m b : Nat) : Prop := (b = if j = 0 then 0 else 2 ^ (j - 1)) ∧ m % 2 ^ j = 0 ∧ m + 2 ^ j ≤ 18446744073709551616 ∧ m * m ≤ N ∧ N < (m + 2 ^ j) * (m + 2 ^ j) ∧ j ≤ 64

theorem rootP_start {N : Nat} (hN : N < 18446744073709551616 * 18446744073709551616) : RootP N 64 0 9223372036854775808 := by
  refine ⟨rfl, by simp, by simp, by simp, ?_, Nat.le_refl _⟩
  simpa using hN

theorem rootP_or {j m : Nat} (hm : m % 2 ^ (j + 1) = 0) : m ||| 2 ^ j = m + 2 ^ j := nat_join (j + 1) m (2 ^ j) hm (Nat.pow_lt_pow_right (by omega) (by omega))

theorem mod_pow_succ {j m : Nat} (hm : m % 2 ^ (j + 1) = 0) : m % 2 ^ j = 0 :=
  Nat.mod_eq_zero_of_dvd (Nat.dvd_trans (Nat.pow_dvd_pow 2 (by omega)) (Nat.dvd_of_mod_eq_zero hm))

theorem rootP_yes {N j m b : Nat} (h : RootP N (j + 1) m b) (hle : (m + 2 ^ j) * (m + 2 ^ j) ≤ N) : RootP N j (m + 2 ^ j) (b / 2) := by
  obtain ⟨h1, h2, h3, h4, h5, h6⟩ := h
  have e : 2 ^ (j + 1) = 2 ^ j + 2 ^ j := by rw [Nat.pow_succ]; omega
  rw [e] at h3 h5
  refine ⟨?_, ?_, by omega, hle, by rw [Nat.add_assoc]; exact h5, by omega⟩
  · rw [h1, if_neg (by omega), Nat.add_sub_cancel]
    cases j with
    | zero => rfl
    | succ k => rw [if_neg (by omega), Nat.add_sub_cancel, Nat.pow_succ]; omega
  · rw [Nat.add_mod, mod_pow_succ h2, Nat.mod_self]; simp

theorem rootP_no {N j m b : Nat} (h : RootP N (j + 1) m b) (hlt : N < (m + 2 ^ j) * (m + 2 ^ j)) : RootP N j m (b / 2) := by
  obtain ⟨h1, h2, h3, h4, h5, h6⟩ := h
  have e : 2 ^ (j + 1) = 2 ^ j + 2 ^ j := by rw [Nat.pow_succ]; omega
  rw [e] at h3
  refine ⟨?_, mod_pow_succ h2, by omega, h4, hlt, by omega⟩
  rw [h1, if_neg (by omega), Nat.add_sub_cancel]
  cases j with
  | zero => rfl
  | succ k => rw [if_neg (by omega), Nat.add_sub_cancel, Nat.pow_succ]; omega

/-- The whole part of the root of N is M. -/
def IsRoot (N M : Nat) : Prop := M * M ≤ N ∧ N < (M + 1) * (M + 1)

theorem isRoot_unique {N M K : Nat} (h : IsRoot N M) (k : IsRoot N K) : M = K := by
  rcases Nat.lt_trichotomy M K with l | l | l
  · have := Nat.mul_le_mul (show M + 1 ≤ K by omega) (show M + 1 ≤ K by omega); have := h.2; have := k.1; omega
  · exact l
  · have := Nat.mul_le_mul (show K + 1 ≤ M by omega) (show K + 1 ≤ M by omega); have := k.2; have := h.1; omega

theorem rootw_w (hi M : Nat) (hh : hi < 18446744073709551616) (hM : IsRoot (hi * 18446744073709551616) M) (w : World) :
    Calls Tryz.prog 206 #[.int .u64 hi] w fun r w' => r = .returned (.tuple #[.int .u64 M, .bool (decide (M * M = hi * 18446744073709551616))]) ∧ Below w.heap.size w w' := by
  have hMl : M < 18446744073709551616 := by
    rcases Nat.lt_or_ge M 18446744073709551616 with h | h
    · exact h
    · have := Nat.mul_le_mul h h; have := hM.1; omega
  refine rootw_core hi M (M * M / 18446744073709551616) (M * M % 18446744073709551616) _ (RootP (hi * 18446744073709551616)) (rootP_start (by omega)) ?_ ?_ (fun w => mul64_w M M hMl hMl w) ?_ w
  · intro m b h
    obtain ⟨h1, h2, h3, h4, h5, h6⟩ := h
    exact ⟨by simpa using h1, isRoot_unique ⟨h4, by simpa using h5⟩ hM⟩
  · intro j m b h
    have h' := h
    obtain ⟨h1, h2, h3, h4, h5, h6⟩ := h
    rw [if_neg (by omega), Nat.add_sub_cancel] at h1
    have hp : 0 < 2 ^ j := Nat.two_pow_pos _
    have e : 2 ^ (j + 1) = 2 ^ j + 2 ^ j := by rw [Nat.pow_succ]; omega
    have hb2 : (b : Int) / 2 = ((b / 2 : Nat) : Int) := by omega
    have ht : m + 2 ^ j < 18446744073709551616 := by omega
    refine ⟨m + 2 ^ j, (m + 2 ^ j) * (m + 2 ^ j) / 18446744073709551616, (m + 2 ^ j) * (m + 2 ^ j) % 18446744073709551616, b / 2, by simp; omega, ?_, hb2, fun w => mul64_w _ _ ht ht w, ?_⟩
    · rw [u64_or_nat m b (by omega) (by omega), h1, rootP_or h2]
    · by_cases hle : (m + 2 ^ j) * (m + 2 ^ j) ≤ hi * 18446744073709551616
      · have hP := rootP_yes h' hle
        generalize (m + 2 ^ j) * (m + 2 ^ j) = X at *
        by_cases c1 : X / 18446744073709551616 < hi
        · exact Or.inl ⟨by omega, hP⟩
        · exact Or.inr (Or.inl ⟨by omega, by simp; omega, by simp; omega, hP⟩)
      · have hP := rootP_no h' (by omega)
        generalize (m + 2 ^ j) * (m + 2 ^ j) = X at *
        by_cases c1 : X / 18446744073709551616 = hi
        · exact Or.inr (Or.inr (Or.inl ⟨by omega, by simp; omega, by simp; omega, hP⟩))
        · exact Or.inr (Or.inr (Or.inr ⟨by omega, by simp; omega, hP⟩))
  · generalize M * M = X
    rw [Bool.eq_iff_iff]
    simp only [Bool.and_eq_true, beq_iff_eq, decide_eq_true_eq]
    omega

end Go.Proofs.YtnchhfhoaepjnaaGreat
