/- The reference's below and same: what they answer of an exact number. -/
import Derived.Test.YtgigndboadmacaaBo
namespace Go.Proofs.Ytgigndboadmacaa
open Go.ChangeShapes Go.WideShapes Go.ChangeAt Go.RowKit

/-- A quotient; a root: by what halves of the least float are not above, and not below. -/
def exD (az bz : Int) : Ex := ⟨fun h => if bz < 0 then az ≤ h * bz else h * bz ≤ az, fun h => if bz < 0 then h * bz ≤ az else az ≤ h * bz⟩
def exR (az : Int) : Ex := ⟨fun h => h ≤ 0 ∨ h * h ≤ az, fun h => 0 ≤ h ∧ az ≤ h * h⟩

/-- The value x is, in w, the exact number X. -/
def XIs (w : World) (x : Value) (X : Ex) : Prop :=
  ∃ (ga : Bool) (ao : Option Addr) (la ca : Nat) (ea : Int) (gb : Bool) (bo : Option Addr) (lb cb : Nat) (eb : Int) (root : Bool),
    x = .agg #[.bool ga, .slice ao la ca, .int .i64 ea, .bool gb, .slice bo lb cb, .int .i64 eb, .bool root] ∧
    (root = false ∧ (∃ Sb az bz, -5000 ≤ Sb ∧ Sb ≤ 0 ∧ NumZ (Sb - 1075) 6000 20000 w (.agg #[.bool ga, .slice ao la ca, .int .i64 ea]) az ∧ NumZ Sb 1024 3000 w (.agg #[.bool gb, .slice bo lb cb, .int .i64 eb]) bz ∧ X = exD az bz) ∨
     root = true ∧ ∃ az, 0 ≤ az ∧ NumZ (-2150) 6000 20000 w (.agg #[.bool ga, .slice ao la ca, .int .i64 ea]) az ∧ X = exR az)

theorem XIs.keep {w w' : World} {x : Value} {X : Ex} (h : XIs w x X) (hb : Below w.heap.size w w') : XIs w' x X := by
  obtain ⟨ga, ao, la, ca, ea, gb, bo, lb, cb, eb, root, h1, ⟨h2, Sb, az, bz, s1, s2, h3, h4, h5⟩ | ⟨h2, az, h3, h4, h5⟩⟩ := h
  · exact ⟨ga, ao, la, ca, ea, gb, bo, lb, cb, eb, root, h1, Or.inl ⟨h2, Sb, az, bz, s1, s2, h3.keep hb, h4.keep hb, h5⟩⟩
  · exact ⟨ga, ao, la, ca, ea, gb, bo, lb, cb, eb, root, h1, Or.inr ⟨h2, az, h3, h4.keep hb, h5⟩⟩

theorem cmpZ_ge (a b : Int) : 0 ≤ cmpZ a b ↔ b ≤ a := by unfold cmpZ; split <;> (try split) <;> omega
theorem cmpZ_le (a b : Int) : cmpZ a b ≤ 0 ↔ a ≤ b := by unfold cmpZ; split <;> (try split) <;> omega
theorem cmpZ_lt (a b : Int) : cmpZ a b < 0 ↔ a < b := by unfold cmpZ; split <;> (try split) <;> omega
theorem cmpZ_eq (a b : Int) : cmpZ a b = 0 ↔ a = b := by unfold cmpZ; split <;> (try split) <;> omega
theorem cmpZ_three (a b : Int) : cmpZ a b = -1 ∨ cmpZ a b = 0 ∨ cmpZ a b = 1 := by unfold cmpZ; split <;> (try split) <;> omega

theorem below_x {w : World} {r x : Value} {h : Int} {X : Ex} (hr : NumZ (-1075) 1024 3000 w r h) (hx : XIs w x X) :
    Calls Try.prog 65 #[r, x] w fun e w' => (∃ b : Bool, e = .returned (.bool b) ∧ (b = true ↔ X.le h)) ∧ Below w.heap.size w w' := by
  obtain ⟨gr, ro, lr, cr, er, rfl⟩ := hr.shape
  obtain ⟨ga, ao, la, ca, ea, gb, bo, lb, cb, eb, root, rfl, ⟨rfl, Sb, az, bz, s1, s2, hA, hB, rfl⟩ | ⟨rfl, az, h0, hA, rfl⟩⟩ := hx
  · obtain ⟨R, hR⟩ : ∃ R : Bool, (cmpZ bz 0 < 0 ∧ R = decide (0 ≤ cmpZ (h * bz) az) ∨ ¬ cmpZ bz 0 < 0 ∧ R = decide (cmpZ (h * bz) az ≤ 0)) := by
      by_cases c : cmpZ bz 0 < 0
      · exact ⟨_, Or.inl ⟨c, rfl⟩⟩
      · exact ⟨_, Or.inr ⟨c, rfl⟩⟩
    refine (below_q_core gr ga gb ro ao bo lr la lb cr ca cb er ea eb (cmpZ (h * bz) az) (cmpZ bz 0) w (fun W v => NumZ (Sb - 1075) 6000 20000 W v (h * bz)) (fun W hW => ?_) (fun W v hW hv => order_z (by omega) (by omega) (by omega) hv (hA.keep hW)) (fun W hW => sign_z (hB.keep hW)) R hR).mono ?_
    · refine (prod_z (S := -1075) (T := 1024) (S' := Sb) (T' := 1024) (K := 3000) (by omega) (by omega) (by omega) (by omega) (hr.keep hW) (hB.keep hW)).mono ?_
      rintro _ w' ⟨⟨v, rfl, hv⟩, hb⟩
      rw [show (-1075 : Int) + Sb = Sb - 1075 by omega] at hv
      exact ⟨⟨v, rfl, hv.wide (by omega) (by omega)⟩, hb⟩
    · rintro _ w' ⟨rfl, hb⟩
      refine ⟨⟨R, rfl, ?_⟩, hb⟩
      show R = true ↔ (if bz < 0 then az ≤ h * bz else h * bz ≤ az)
      rcases hR with ⟨c, rfl⟩ | ⟨c, rfl⟩
      · rw [cmpZ_lt] at c
        rw [if_pos c, decide_eq_true_iff, cmpZ_ge]
      · rw [cmpZ_lt] at c
        rw [if_neg c, decide_eq_true_iff, cmpZ_le]
  · obtain ⟨R, hR⟩ : ∃ R : Bool, (cmpZ h 0 = -1 ∧ R = true ∨ cmpZ h 0 = 0 ∧ R = true ∨ ¬ cmpZ h 0 ≤ 0 ∧ R = decide (cmpZ (h * h) az ≤ 0)) := by
      rcases cmpZ_three h 0 with c | c | c
      · exact ⟨_, Or.inl ⟨c, rfl⟩⟩
      · exact ⟨_, Or.inr (Or.inl ⟨c, rfl⟩)⟩
      · exact ⟨_, Or.inr (Or.inr ⟨by omega, rfl⟩)⟩
    refine (below_r_core gr ga gb ro ao bo lr la lb cr ca cb er ea eb (cmpZ (h * h) az) (cmpZ h 0) w (fun W v => NumZ (-2150) 6000 20000 W v (h * h)) (fun W hW => ?_) (fun W v hW hv => order_z (by omega) (by omega) (by omega) hv (hA.keep hW)) (fun W hW => sign_z (hr.keep hW)) R hR).mono ?_
    · refine (prod_z (S := -1075) (T := 1024) (S' := -1075) (T' := 1024) (K := 3000) (by omega) (by omega) (by omega) (by omega) (hr.keep hW) (hr.keep hW)).mono ?_
      rintro _ w' ⟨⟨v, rfl, hv⟩, hb⟩
      rw [show (-1075 : Int) + -1075 = -2150 by omega] at hv
      exact ⟨⟨v, rfl, hv.wide (by omega) (by omega)⟩, hb⟩
    · rintro _ w' ⟨rfl, hb⟩
      refine ⟨⟨R, rfl, ?_⟩, hb⟩
      show R = true ↔ (h ≤ 0 ∨ h * h ≤ az)
      have c0 := cmpZ_le h 0
      have c1 := cmpZ_le (h * h) az
      rcases hR with ⟨c, rfl⟩ | ⟨c, rfl⟩ | ⟨c, rfl⟩
      · simp; left; omega
      · simp; left; omega
      · rw [decide_eq_true_iff, c1]
        constructor
        · exact Or.inr
        · rintro (q | q)
          · omega
          · exact q

theorem same_x {w : World} {r x : Value} {h : Int} {X : Ex} (hr : NumZ (-1075) 1024 3000 w r h) (hx : XIs w x X) :
    Calls Try.prog 63 #[r, x] w fun e w' => (∃ b : Bool, e = .returned (.bool b) ∧ (b = true ↔ X.le h ∧ X.ge h)) ∧ Below w.heap.size w w' := by
  obtain ⟨gr, ro, lr, cr, er, rfl⟩ := hr.shape
  obtain ⟨ga, ao, la, ca, ea, gb, bo, lb, cb, eb, root, rfl, ⟨rfl, Sb, az, bz, s1, s2, hA, hB, rfl⟩ | ⟨rfl, az, h0, hA, rfl⟩⟩ := hx
  · refine (same_q_core gr ga gb ro ao bo lr la lb cr ca cb er ea eb (cmpZ (h * bz) az) w (fun W v => NumZ (Sb - 1075) 6000 20000 W v (h * bz)) (fun W hW => ?_) (fun W v hW hv => order_z (by omega) (by omega) (by omega) hv (hA.keep hW)) _ rfl).mono ?_
    · refine (prod_z (S := -1075) (T := 1024) (S' := Sb) (T' := 1024) (K := 3000) (by omega) (by omega) (by omega) (by omega) (hr.keep hW) (hB.keep hW)).mono ?_
      rintro _ w' ⟨⟨v, rfl, hv⟩, hb⟩
      rw [show (-1075 : Int) + Sb = Sb - 1075 by omega] at hv
      exact ⟨⟨v, rfl, hv.wide (by omega) (by omega)⟩, hb⟩
    · rintro _ w' ⟨rfl, hb⟩
      refine ⟨⟨_, rfl, ?_⟩, hb⟩
      show _ ↔ (if bz < 0 then az ≤ h * bz else h * bz ≤ az) ∧ (if bz < 0 then h * bz ≤ az else az ≤ h * bz)
      rw [beq_iff_eq, cmpZ_eq]
      split <;> omega
  · obtain ⟨R, hR⟩ : ∃ R : Bool, (cmpZ h 0 = -1 ∧ R = false ∨ 0 ≤ cmpZ h 0 ∧ R = (cmpZ (h * h) az == 0)) := by
      rcases cmpZ_three h 0 with c | c | c
      · exact ⟨_, Or.inl ⟨c, rfl⟩⟩
      · exact ⟨_, Or.inr ⟨by omega, rfl⟩⟩
      · exact ⟨_, Or.inr ⟨by omega, rfl⟩⟩
    refine (same_r_core gr ga gb ro ao bo lr la lb cr ca cb er ea eb (cmpZ (h * h) az) (cmpZ h 0) w (fun W v => NumZ (-2150) 6000 20000 W v (h * h)) (fun W hW => ?_) (fun W v hW hv => order_z (by omega) (by omega) (by omega) hv (hA.keep hW)) (fun W hW => sign_z (hr.keep hW)) R hR).mono ?_
    · refine (prod_z (S := -1075) (T := 1024) (S' := -1075) (T' := 1024) (K := 3000) (by omega) (by omega) (by omega) (by omega) (hr.keep hW) (hr.keep hW)).mono ?_
      rintro _ w' ⟨⟨v, rfl, hv⟩, hb⟩
      rw [show (-1075 : Int) + -1075 = -2150 by omega] at hv
      exact ⟨⟨v, rfl, hv.wide (by omega) (by omega)⟩, hb⟩
    · rintro _ w' ⟨rfl, hb⟩
      refine ⟨⟨R, rfl, ?_⟩, hb⟩
      show R = true ↔ (h ≤ 0 ∨ h * h ≤ az) ∧ (0 ≤ h ∧ az ≤ h * h)
      have c0 := cmpZ_ge h 0
      have c1 := cmpZ_eq (h * h) az
      rcases hR with ⟨c, rfl⟩ | ⟨c, rfl⟩
      · simp; omega
      · rw [beq_iff_eq, c1]
        constructor
        · intro e; omega
        · rintro ⟨q1 | q1, q2, q3⟩
          · have : h = 0 := by omega
            subst this
            omega
          · omega

end Go.Proofs.Ytgigndboadmacaa
