/- The walk of sum: the exact sum of two finite floats, with a mark for what is lost. -/
import Derived.Test.YteapiigegbdopaaWe
import Derived.Deep.QuietTactic
import Derived.BigQuiet
namespace Go.Proofs.Yteapiigegbdopaa
open Go.ChangeShapes Go.WideShapes Go.ChangeAt Go.RowKit

theorem drewN_below {B : Nat} {w w1 : World} (n : Nat) (h : Below B w w1) : Below B w (w1.drewN n) := ⟨h.os, h.tape, h.output, h.size, h.block⟩

set_option maxHeartbeats 1000000 in
theorem sum_keep (gp gq : Bool) (mp mq s : Nat) (ep eq : Int) (hmp : ((mp : Int) == 0) = false) (hmq : ((mq : Int) == 0) = false) (h1 : mp < 9007199254740992) (h2 : mq < 9007199254740992) (he1 : -2000 ≤ ep ∧ ep ≤ 2000) (he2 : -2000 ≤ eq ∧ eq ≤ 2000)
    (hlt : ¬ ep < eq) (hor : (ep == eq) = false ∨ ((ep == eq) = true ∧ ¬ (mp : Int) < (mq : Int)))
    (hmv : ∀ w, Calls Try.prog 79 #[.int .u64 ((mq : Int) * 1024), .int .i64 (ep - eq)] w fun r w' => r = .returned (.int .u64 s) ∧ w' = w) (hs : s ≤ mp * 1024) (w : World) :
    Calls Try.prog 49 #[.agg #[.bool gp, .int .u64 mp, .int .i64 ep], .agg #[.bool gq, .int .u64 mq, .int .i64 eq]] w fun r w' => r = .returned (.agg #[.bool gp, .int .u64 (if gp != gq then (mp : Int) * 1024 - s else (mp : Int) * 1024 + s), .int .i64 (ep - 10)]) ∧ Below w.heap.size w w' := by
  generalize hd : (gp != gq) = d
  rcases hor with hor | ⟨ho1, ho2⟩ <;> cases d
  all_goals
    go_enter Try.func49, Try.ntmps49
    go_wp2_with fail
    go_quiet (first | (go_at_call 79; refine Calls.quiet_of_same (hmv _)))
    go_wp2
    all_goals
      go_returns
      first | refine ⟨rfl, ?_⟩ | (exfalso; clear hmv; cases gp <;> cases gq <;> simp_all; done)
      repeat' (first | (with_reducible exact Below.refl _ _) | (with_reducible refine Below.alloc ?_ ?_ _) | (with_reducible refine drewN_below _ ?_) | (with_reducible refine Below.setCell ?_ ?_ _) | go_size)

set_option maxHeartbeats 1000000 in
theorem sum_swap (gp gq : Bool) (mp mq s : Nat) (ep eq : Int) (hmp : ((mp : Int) == 0) = false) (hmq : ((mq : Int) == 0) = false) (h1 : mp < 9007199254740992) (h2 : mq < 9007199254740992) (he1 : -2000 ≤ ep ∧ ep ≤ 2000) (he2 : -2000 ≤ eq ∧ eq ≤ 2000)
    (hor : ep < eq ∨ (¬ ep < eq ∧ (ep == eq) = true ∧ (mp : Int) < (mq : Int)))
    (hmv : ∀ w, Calls Try.prog 79 #[.int .u64 ((mp : Int) * 1024), .int .i64 (eq - ep)] w fun r w' => r = .returned (.int .u64 s) ∧ w' = w) (hs : s ≤ mq * 1024) (w : World) :
    Calls Try.prog 49 #[.agg #[.bool gp, .int .u64 mp, .int .i64 ep], .agg #[.bool gq, .int .u64 mq, .int .i64 eq]] w fun r w' => r = .returned (.agg #[.bool gq, .int .u64 (if gq != gp then (mq : Int) * 1024 - s else (mq : Int) * 1024 + s), .int .i64 (eq - 10)]) ∧ Below w.heap.size w w' := by
  generalize hd : (gq != gp) = d
  rcases hor with hor | ⟨ho0, ho1, ho2⟩ <;> cases d
  all_goals
    go_enter Try.func49, Try.ntmps49
    go_wp2_with fail
    go_quiet (first | (go_at_call 79; refine Calls.quiet_of_same (hmv _)))
    go_wp2
    all_goals
      go_returns
      first | refine ⟨rfl, ?_⟩ | (exfalso; clear hmv; cases gp <;> cases gq <;> simp_all; done)
      repeat' (first | (with_reducible exact Below.refl _ _) | (with_reducible refine Below.alloc ?_ ?_ _) | (with_reducible refine drewN_below _ ?_) | (with_reducible refine Below.setCell ?_ ?_ _) | go_size)

theorem sum_zero1 (gp gq : Bool) (mq : Nat) (ep eq : Int) (w : World) :
    Calls Try.prog 49 #[.agg #[.bool gp, .int .u64 0, .int .i64 ep], .agg #[.bool gq, .int .u64 mq, .int .i64 eq]] w fun r w' => r = .returned (.agg #[.bool gq, .int .u64 mq, .int .i64 eq]) ∧ Below w.heap.size w w' := by
  go_enter Try.func49, Try.ntmps49
  go_wp2_with fail
  all_goals (go_returns; refine ⟨rfl, ?_⟩; go_grown)

theorem sum_zero2 (gp gq : Bool) (mp : Nat) (ep eq : Int) (hmp : ((mp : Int) == 0) = false) (w : World) :
    Calls Try.prog 49 #[.agg #[.bool gp, .int .u64 mp, .int .i64 ep], .agg #[.bool gq, .int .u64 0, .int .i64 eq]] w fun r w' => r = .returned (.agg #[.bool gp, .int .u64 mp, .int .i64 ep]) ∧ Below w.heap.size w w' := by
  go_enter Try.func49, Try.ntmps49
  go_wp2_with fail
  all_goals (go_returns; refine ⟨rfl, ?_⟩; go_grown)

/-- The exact sum's amount, its last bit a mark for what is lost: the first's exponent is not the lesser. -/
def addM (gp : Bool) (mp : Nat) (ep : Int) (gq : Bool) (mq : Nat) (eq : Int) : Nat :=
  if gp != gq then mp * 1024 - moveN (mq * 1024) (ep - eq).toNat else mp * 1024 + moveN (mq * 1024) (ep - eq).toNat
def swapP (mp : Nat) (ep : Int) (mq : Nat) (eq : Int) : Bool := decide (ep < eq ∨ ep = eq ∧ mp < mq)
def sumG (gp : Bool) (mp : Nat) (ep : Int) (gq : Bool) (mq : Nat) (eq : Int) : Bool := if mp = 0 then gq else if mq = 0 then gp else if swapP mp ep mq eq then gq else gp
def sumM (gp : Bool) (mp : Nat) (ep : Int) (gq : Bool) (mq : Nat) (eq : Int) : Nat := if mp = 0 then mq else if mq = 0 then mp else if swapP mp ep mq eq then addM gq mq eq gp mp ep else addM gp mp ep gq mq eq
def sumE (mp : Nat) (ep : Int) (mq : Nat) (eq : Int) : Int := if mp = 0 then eq else if mq = 0 then ep else if swapP mp ep mq eq then eq - 10 else ep - 10

theorem move_le {m n k : Nat} (h : m < 9007199254740992) (hk : n ≠ 0 ∧ 4503599627370496 ≤ k ∨ n = 0 ∧ m ≤ k) : moveN (m * 1024) n ≤ k * 1024 := by
  unfold moveN markN
  rcases hk with ⟨h0, hk⟩ | ⟨rfl, hk⟩
  · have h1 : m * 1024 / 2 ^ n ≤ m * 1024 / 2 ^ 1 := Nat.div_le_div_left (Nat.pow_le_pow_right (by omega) (by omega)) (by omega)
    split <;> omega
  · have : ¬ (m * 1024 % 2 ^ 0 ≠ 0) := by simp [Nat.mod_one]
    simp only [this, decide_false, Bool.false_eq_true, if_false, Nat.pow_zero, Nat.div_one]
    omega

theorem sum_w (gp gq : Bool) (mp mq : Nat) (ep eq : Int) (h1 : mp < 9007199254740992) (h2 : mq < 9007199254740992) (he1 : -1074 ≤ ep ∧ ep ≤ 971) (he2 : -1074 ≤ eq ∧ eq ≤ 971)
    (hn1 : mp ≠ 0 → -1074 < ep → 4503599627370496 ≤ mp) (hn2 : mq ≠ 0 → -1074 < eq → 4503599627370496 ≤ mq) (w : World) :
    Calls Try.prog 49 #[.agg #[.bool gp, .int .u64 mp, .int .i64 ep], .agg #[.bool gq, .int .u64 mq, .int .i64 eq]] w fun r w' => r = .returned (.agg #[.bool (sumG gp mp ep gq mq eq), .int .u64 (sumM gp mp ep gq mq eq), .int .i64 (sumE mp ep mq eq)]) ∧ Below w.heap.size w w' := by
  unfold sumG sumM sumE
  by_cases z1 : mp = 0
  · subst z1
    exact sum_zero1 gp gq mq ep eq w
  · rw [if_neg z1, if_neg z1, if_neg z1]
    by_cases z2 : mq = 0
    · subst z2
      exact sum_zero2 gp gq mp ep eq (by simp; omega) w
    · rw [if_neg z2, if_neg z2, if_neg z2]
      by_cases hsw : ep < eq ∨ ep = eq ∧ mp < mq
      · have hsw' : swapP mp ep mq eq = true := by unfold swapP; simp only [hsw, decide_true]
        simp only [hsw', if_true]
        have hle : moveN (mp * 1024) (eq - ep).toNat ≤ mq * 1024 := by
          refine move_le h1 ?_
          rcases hsw with h | ⟨h, h'⟩
          · exact Or.inl ⟨by omega, hn2 z2 (by omega)⟩
          · exact Or.inr ⟨by omega, by omega⟩
        have hc := sum_swap gp gq mp mq (moveN (mp * 1024) (eq - ep).toNat) ep eq (by simp; omega) (by simp; omega) h1 h2 (by omega) (by omega)
          (by rcases hsw with h | ⟨h, h'⟩
              · exact Or.inl h
              · exact Or.inr ⟨by omega, by simp; omega, by omega⟩)
          (fun w => by
            have hm := moveDown_w (mp * 1024) (eq - ep).toNat (by omega) w
            have c1 : (((mp * 1024 : Nat)) : Int) = (mp : Int) * 1024 := by omega
            have c2 : (((eq - ep).toNat : Nat) : Int) = eq - ep := by omega
            rw [c1, c2] at hm
            exact hm.mono fun _ _ h => ⟨h.1, h.2.symm⟩) hle w
        have ea : ((addM gq mq eq gp mp ep : Nat) : Int) = if gq != gp then (mq : Int) * 1024 - ((moveN (mp * 1024) (eq - ep).toNat : Nat) : Int) else (mq : Int) * 1024 + ((moveN (mp * 1024) (eq - ep).toNat : Nat) : Int) := by
          unfold addM; split <;> omega
        rw [ea]
        exact hc
      · have hsw' : swapP mp ep mq eq = false := by unfold swapP; simp only [hsw, decide_false]
        simp only [hsw', Bool.false_eq_true, if_false]
        have hle : moveN (mq * 1024) (ep - eq).toNat ≤ mp * 1024 := by
          refine move_le h2 ?_
          by_cases h : ep = eq
          · exact Or.inr ⟨by omega, by omega⟩
          · exact Or.inl ⟨by omega, hn1 z1 (by omega)⟩
        have hc := sum_keep gp gq mp mq (moveN (mq * 1024) (ep - eq).toNat) ep eq (by simp; omega) (by simp; omega) h1 h2 (by omega) (by omega) (by omega)
          (by by_cases h : ep = eq
              · exact Or.inr ⟨by simp; omega, by omega⟩
              · exact Or.inl (by simp; omega))
          (fun w => by
            have hm := moveDown_w (mq * 1024) (ep - eq).toNat (by omega) w
            have c1 : (((mq * 1024 : Nat)) : Int) = (mq : Int) * 1024 := by omega
            have c2 : (((ep - eq).toNat : Nat) : Int) = ep - eq := by omega
            rw [c1, c2] at hm
            exact hm.mono fun _ _ h => ⟨h.1, h.2.symm⟩) hle w
        have ea : ((addM gp mp ep gq mq eq : Nat) : Int) = if gp != gq then (mp : Int) * 1024 - ((moveN (mq * 1024) (ep - eq).toNat : Nat) : Int) else (mp : Int) * 1024 + ((moveN (mq * 1024) (ep - eq).toNat : Nat) : Int) := by
          unfold addM; split <;> omega
        rw [ea]
        exact hc

end Go.Proofs.Yteapiigegbdopaa
