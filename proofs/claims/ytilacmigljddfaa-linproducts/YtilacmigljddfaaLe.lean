/- The program's Dot, a matrix's first row, and both images of a vector. -/
import Derived.Test.YtilacmigljddfaaLb
import Derived.Test.YtilacmigljddfaaLd
namespace Go.Proofs.Ytilacmigljddfaa
open Go.ChangeShapes Go.WideShapes Go.ChangeAt Go.RowKit

theorem first_none (A : Option Addr) (C : Nat) (w : World) : Calls Try.prog 6 #[.slice A 0 C] w fun e w' => e = .returned (.slice none 0 0) ∧ w = w' := by
  go_enter Try.func6, Try.ntmps6
  go_wp2_with fail
  go_ret
  exact ⟨rfl, rfl⟩

theorem first_some (A : Option Addr) (N C : Nat) (RA : Nat → Option Addr) (RL RC : Nat → Nat) (X : Nat → Nat → Nat × Nat) (hN : 0 < N) (w : World) (V : Rws w A N RA RL RC X) : Calls Try.prog 6 #[.slice A N C] w fun e w' => e = .returned (.slice (RA 0) (RL 0) (RC 0)) ∧ w = w' := by
  obtain ⟨b, o, rfl, hb, x0, l0, -⟩ := V 0 hN
  rw [Nat.add_zero] at x0
  have h1 : ((N : Int) == 0) = false := by rw [beq_eq_false_iff_ne]; omega
  have h2 : (0 : Int) < (N : Int) := by omega
  clear V
  go_enter Try.func6, Try.ntmps6
  go_wp2_with fail
  go_ret
  exact ⟨rfl, rfl⟩

set_option maxHeartbeats 2000000 in
theorem Dot_core (A B : Option Addr) (n m C D d1 d2 : Nat) (b1 b2 b3 : Bool) (w : World)
    (c1 : ∀ w2, Below w.heap.size w w2 → Calls Try.prog 23 #[.slice A n C] w2 fun e w' => e = .returned (.bool b1) ∧ Below w2.heap.size w2 w')
    (c2 : ∀ w2, Below w.heap.size w w2 → Calls Try.prog 23 #[.slice B m D] w2 fun e w' => e = .returned (.bool b2) ∧ Below w2.heap.size w2 w')
    (h3 : ((n : Int) != (m : Int)) = !b3)
    (c3 : (b1 && b2 && b3) = true → ∀ w2, Below w.heap.size w w2 → Calls Try.prog 24 #[.slice A n C, .slice B m D] w2 fun e w' => e = .returned (.agg #[.float .f64 d1, .float .f64 d2]) ∧ Below w2.heap.size w2 w')
    (r1 r2 : Nat) (r3 : Int) (e1 : r1 = if b1 && b2 && b3 then d1 else 0) (e2 : r2 = if b1 && b2 && b3 then d2 else 0) (e3 : r3 = if b1 && b2 && b3 then 0 else 1) :
    Calls Try.prog 5 #[.slice A n C, .slice B m D] w fun e w' => e = .returned (.tuple #[.agg #[.float .f64 r1, .float .f64 r2], .int .i64 r3]) ∧ Below w.heap.size w w' := by
  have R : Has2 (w.alloc (.cells #[.float .f64 0, .float .f64 0] 26)) w.heap.size (.float .f64 0) (.float .f64 0) := has2_new _ _ _ _
  have HB : Below w.heap.size w (w.alloc (.cells #[.float .f64 0, .float .f64 0] 26)) := below_alloc (Below.refl _ _) _
  cases b1
  case' true => cases b2
  case' true.true => cases b3
  all_goals
    simp only [Bool.and_self, Bool.and_false, Bool.false_and, Bool.not_true, Bool.not_false, Bool.false_eq_true, if_true, if_false] at e1 e2 e3 h3
    subst e1 e2 e3
    first | replace c3 := c3 rfl | clear c3
    go_enter Try.func5, Try.ntmps5
    go_upto_region 1 with fail
    generalize w.alloc (.cells #[.float .f64 0, .float .f64 0] 26) = V0 at *
    obtain ⟨k0, k1, k2, k3, k4⟩ := id R
    go_wp2_with (first
      | (go_at_call 23; with_reducible refine (c1 _ HB).mono ?_; rintro _ w1 ⟨rfl, hb1⟩; replace R := R.keep hb1; replace HB := later HB hb1; clear hb1; clear k0 k1 k2 k3 k4
         obtain ⟨k0, k1, k2, k3, k4⟩ := id R)
      | (go_at_call 23; with_reducible refine (c2 _ HB).mono ?_; rintro _ w1 ⟨rfl, hb1⟩; replace R := R.keep hb1; replace HB := later HB hb1; clear hb1; clear k0 k1 k2 k3 k4
         obtain ⟨k0, k1, k2, k3, k4⟩ := id R)
      | (go_at_call 24; with_reducible refine (c3 _ HB).mono ?_; rintro _ w1 ⟨rfl, hb1⟩; replace R := R.keep hb1; replace HB := later HB hb1; clear hb1; clear k0 k1 k2 k3 k4
         obtain ⟨k0, k1, k2, k3, k4⟩ := id R))
    first
      | (refine bodyPost_ret (v := .tuple #[.agg #[.float .f64 0, .float .f64 0], .int .i64 1]) (by simp [results, Try.results5, go_sem, *]) rfl ⟨rfl, ?_⟩
         repeat' (first | (with_reducible exact HB) | (with_reducible refine Below.setCell ?_ ?_ _) | go_size))
      | (refine bodyPost_ret (v := .tuple #[.agg #[.float .f64 r1, .float .f64 r2], .int .i64 0]) (by simp [results, Try.results5, go_sem, *]) rfl ⟨rfl, ?_⟩
         repeat' (first | (with_reducible exact HB) | (with_reducible refine Below.setCell ?_ ?_ _) | go_size))

/-- The image of a vector, row by row. -/
def imageP (X : Nat → Nat → Nat × Nat) (Y : Nat → Nat × Nat) (k : Nat) (n : Nat) : List (Nat × Nat) := (List.range n).map fun r => dotP (X r) Y k

theorem imageP_step (X : Nat → Nat → Nat × Nat) (Y : Nat → Nat × Nat) (k n : Nat) : imageP X Y k (n + 1) = imageP X Y k n ++ [((dotP (X n) Y k).1, (dotP (X n) Y k).2)] := by
  unfold imageP
  rw [List.range_succ, List.map_append]
  rfl

theorem imageP_len (X : Nat → Nat → Nat × Nat) (Y : Nat → Nat × Nat) (k n : Nat) : (imageP X Y k n).length = n := by simp [imageP]

set_option maxHeartbeats 2000000 in
theorem rapply_w (A B : Option Addr) (N C k D : Nat) (RA : Nat → Option Addr) (RL RC : Nat → Nat) (X : Nat → Nat → Nat × Nat) (Y : Nat → Nat × Nat) (hN : N ≤ 24) (hk : k ≤ 24) (hR : ∀ r, r < N → RL r = k) (w : World) (V : Rws w A N RA RL RC X) (U : Ivs w B k Y) :
    Calls Try.prog 13 #[.slice A N C, .slice B k D] w fun e w' => ∃ v, e = .returned v ∧ OwnI w.heap.size w' v (imageP X Y k N) ∧ Below w.heap.size w w' := by
  obtain ⟨Z, hZ⟩ : ∃ Z : Nat → List (Nat × Nat), ∀ n, Z n = imageP X Y k n := ⟨_, fun _ => rfl⟩
  have hs : ∀ n, Z (n + 1) = Z n ++ [((dotP (X n) Y k).1, (dotP (X n) Y k).2)] := fun n => by rw [hZ, hZ]; exact imageP_step X Y k n
  have hl : ∀ n, (Z n).length = n := fun n => by rw [hZ]; exact imageP_len X Y k n
  have h0 : Z 0 = [] := by rw [hZ]; rfl
  rw [← hZ N]
  clear hZ
  have E := ownI_empty w
  rw [← h0] at E
  have HE : Hid (∀ n, Z (n + 1) = Z n ++ [((dotP (X n) Y k).1, (dotP (X n) Y k).2)]) := hs
  have HL : Hid (∀ n, (Z n).length = n) := hl
  have HR : Hid (∀ r, r < N → RL r = k) := hR
  clear hs hl h0 hR
  have hB0 : Below w.heap.size w (w.alloc (.cells #[] 26)) := below_alloc (Below.refl _ _) _
  go_enter Try.func13, Try.ntmps13
  go_wp2_with fail
  go_loopg [5, 11] N (fun G s5 s11 wx => Below w.heap.size w wx ∧ w.heap.size ≤ wx.heap.size ∧ ∃ r : Nat, r + G = N ∧ s11 = .int .i64 (r : Int) ∧ OwnI w.heap.size wx s5 (Z r))
  case atStart => exact ⟨hB0, hB0.size, 0, by omega, rfl, E⟩
  case round =>
    clear E hB0
    obtain ⟨HB, hS, r, hr, rfl, hown⟩ := hrel
    by_cases cr : r = N
    · subst cr
      go_wp2_with fail
      go_ret
      exact ⟨_, rfl, hown, HB⟩
    · have hlt : (r : Int) < (N : Int) := by omega
      obtain ⟨b, o, hA, hb, x0, l0, I⟩ := (V.keep HB) r (by omega)
      have c : Calls Try.prog 9 #[.slice (RA r) (RL r) (RC r), .slice B k D] wr fun e w' => e = .returned (.agg #[.float .f64 (dotP (X r) Y (RL r)).1, .float .f64 (dotP (X r) Y (RL r)).2]) ∧ Below wr.heap.size wr w' :=
        rdot_w (RA r) B (RL r) k (RC r) D (X r) Y l0 (by omega) (by have := HR r (by omega); omega) wr I (U.keep HB)
      have e1 : (dotP (X r) Y (RL r)) = dotP (X r) Y k := by rw [HR r (by omega)]
      rw [e1] at c
      clear e1
      have hlen : (Z r).length ≤ 2000000 := by rw [HL r]; omega
      subst hA
      go_wp2_with (first
        | (go_at_call 9; refine c.mono ?_; rintro _ w1 ⟨rfl, hb1⟩; replace hown := OwnI.keep hown hb1; replace HB := later HB hb1; have hS1 := HB.size)
        | (at_builtin; refine wpList_pushI (by rfl) _ _ (by rfl) _ (Z r) (dotP (X r) Y k).1 (dotP (X r) Y k).2 (by rfl) (by rfl) hown hlen hS1 HB ?_; intro v' w' hown' hB' hS'))
      go_roundg (N - r - 1)
      case measure => omega
      case rel => exact ⟨hB', hS', r + 1, by omega, by go_num, by rw [HE r]; exact hown'⟩

end Go.Proofs.Ytilacmigljddfaa
