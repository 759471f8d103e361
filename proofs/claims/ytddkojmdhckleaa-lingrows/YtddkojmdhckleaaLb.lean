/- Sums of products of intervals: the program's and the reference's. -/
import Derived.Test.YtddkojmdhckleaaLa
import Derived.Test.YtddkojmdhckleaaKh
namespace Go.Proofs.Ytddkojmdhckleaa
open Go.ChangeShapes Go.WideShapes Go.ChangeAt Go.RowKit

/-- The sum of the first k products. -/
def dotP (X Y : Nat → Nat × Nat) : Nat → Nat × Nat
  | 0 => (0, 0)
  | k + 1 => addP (dotP X Y k).1 (dotP X Y k).2 (mulP (X k).1 (X k).2 (Y k).1 (Y k).2).1 (mulP (X k).1 (X k).2 (Y k).1 (Y k).2).2

theorem dotP_lt {n : Nat} {X Y : Nat → Nat × Nat} (hx : ∀ i, i < n → (X i).1 < 18446744073709551616 ∧ (X i).2 < 18446744073709551616) (hy : ∀ i, i < n → (Y i).1 < 18446744073709551616 ∧ (Y i).2 < 18446744073709551616) : (dotP X Y n).1 < 18446744073709551616 ∧ (dotP X Y n).2 < 18446744073709551616 := by
  induction n with
  | zero => exact ⟨show 0 < 18446744073709551616 by omega, show 0 < 18446744073709551616 by omega⟩
  | succ n ih =>
    have d := ih (fun i hi => hx i (by omega)) (fun i hi => hy i (by omega))
    have a := hx n (by omega)
    have b := hy n (by omega)
    have m := mulP_lt a.1 a.2 b.1 b.2
    exact addP_lt d.1 d.2 m.1 m.2

set_option maxHeartbeats 4000000 in
theorem dot_core (A B : Option Addr) (n m C D : Nat) (X Y P Q : Nat → Nat × Nat) (hn : n ≤ 9223372036854775807) (hm : m ≤ 9223372036854775807) (hnm : n ≤ m) (w : World) (V : Ivs w A n X) (U : Ivs w B m Y)
    (cz : ∀ w, Calls Try.prog 44 #[.float .f64 0] w fun e w' => e = .returned (.agg #[.float .f64 (P 0).1, .float .f64 (P 0).2]) ∧ Below w.heap.size w w')
    (cm : ∀ i, i < n → ∀ w, Calls Try.prog 53 #[.agg #[.float .f64 (X i).1, .float .f64 (X i).2], .agg #[.float .f64 (Y i).1, .float .f64 (Y i).2]] w fun e w' => e = .returned (.agg #[.float .f64 (Q i).1, .float .f64 (Q i).2]) ∧ Below w.heap.size w w')
    (ca : ∀ i, i < n → ∀ w, Calls Try.prog 52 #[.agg #[.float .f64 (P i).1, .float .f64 (P i).2], .agg #[.float .f64 (Q i).1, .float .f64 (Q i).2]] w fun e w' => e = .returned (.agg #[.float .f64 (P (i + 1)).1, .float .f64 (P (i + 1)).2]) ∧ Below w.heap.size w w') :
    Calls Try.prog 32 #[.slice A n C, .slice B m D] w fun e w' => e = .returned (.agg #[.float .f64 (P n).1, .float .f64 (P n).2]) ∧ Below w.heap.size w w' := by
  have R : Has2 (w.alloc (.cells #[.float .f64 0, .float .f64 0] 26)) w.heap.size (.float .f64 0) (.float .f64 0) := has2_new _ _ _ _
  have HB : Below w.heap.size w (w.alloc (.cells #[.float .f64 0, .float .f64 0] 26)) := below_alloc (Below.refl _ _) _
  go_enter Try.func32, Try.ntmps32
  go_upto_region 1 with fail
  generalize w.alloc (.cells #[.float .f64 0, .float .f64 0] 26) = V0 at *
  go_upto_region 2 with (go_at_call 44; refine (cz _).mono ?_; rintro _ V1 ⟨rfl, hb1⟩; replace R := R.keep hb1; replace HB := later HB hb1; clear hb1)
  have lo : w.heap.size < V1.heap.size := R.2.2.2.2
  have O := has2_new V1 (.float .f64 (P 0).1) (.float .f64 (P 0).2) 26
  replace R := R.alloc (.cells #[.float .f64 (P 0).1, .float .f64 (P 0).2] 26)
  replace HB := below_alloc HB (.cells #[.float .f64 (P 0).1, .float .f64 (P 0).2] 26)
  generalize V1.alloc (.cells #[.float .f64 (P 0).1, .float .f64 (P 0).2] 26) = V2 at *
  generalize V1.heap.size = ob at *
  clear V1 V0 cz
  go_wp2_with fail
  go_loopg [10] n (fun G s10 wx => Below w.heap.size w wx ∧ Has2 wx w.heap.size (.float .f64 0) (.float .f64 0) ∧ ∃ i : Nat, i + G = n ∧ s10 = .int .i64 (i : Int) ∧ Has2 wx ob (.float .f64 (P i).1) (.float .f64 (P i).2))
  case atStart => exact ⟨HB, R, 0, by omega, rfl, O⟩
  case round =>
    clear HB R O
    obtain ⟨HB, R, i, hi, rfl, O⟩ := hrel
    by_cases ci : i = n
    · subst ci
      obtain ⟨z0, z1, z2, z3, z4⟩ := id O
      obtain ⟨r0, r1, r2, r3, r4⟩ := id R
      go_wp2_with fail
      refine bodyPost_ret (v := .agg #[.float .f64 (P i).1, .float .f64 (P i).2]) (by simp [results, Try.results32, go_sem, *]) rfl ⟨rfl, ?_⟩
      repeat' (first | (with_reducible exact HB) | (with_reducible refine Below.setCell ?_ ?_ _) | go_size)
    · have hlt : (i : Int) < (n : Int) := by omega
      have hlt2 : (i : Int) < (m : Int) := by omega
      obtain ⟨b, o, hA, hb, x0, x1, -, -⟩ := (V.keep HB) i (by omega)
      obtain ⟨b', o', hB, hb', y0, y1, -, -⟩ := (U.keep HB) i (by omega)
      have c1 := cm i (by omega)
      have c2 := ca i (by omega)
      subst hA hB
      go_upto_region 5 with fail
      have kx0 := fun n : Behind wr => n.cell x0 hb
      have kx1 := fun n : Behind wr => n.cell x1 hb
      have ky0 := fun n : Behind wr => n.cell y0 hb'
      have ky1 := fun n : Behind wr => n.cell y1 hb'
      have ko0 := fun n : Behind wr => n.cell O.1 O.2.2.2.2
      have ko1 := fun n : Behind wr => n.cell O.2.1 O.2.2.2.2
      clear x0 x1 y0 y1
      refine tail_behind 11 (by kernel_rfl) (by kernel_rfl) ?_
      simp only [List.take_succ_cons, List.take_zero, List.drop_succ_cons, List.drop_zero]
      repeat (go_big_quiet_step (first
        | (go_at_call 53; with_reducible refine Behind.call (c1 _))
        | (go_at_call 52; with_reducible refine Behind.call (c2 _))))
      refine wpQuiet_nil ?_
      rintro _ ⟨q, rfl⟩
      obtain ⟨W, hb1⟩ := q
      dsimp only
      clear kx0 kx1 ky0 ky1 ko0 ko1
      replace R := R.keep hb1; replace O := O.keep hb1; replace HB := later HB hb1; clear hb1
      obtain ⟨z0, z1, z2, z3, z4⟩ := id O
      go_wp2_with fail
      go_roundg (n - i - 1)
      case measure => omega
      case rel =>
        refine ⟨?_, R.far (by omega) _ _, i + 1, by omega, by go_num, O.put _ _⟩
        repeat' (first | (with_reducible exact HB) | (with_reducible refine Below.setCell ?_ ?_ _) | go_size | omega)

set_option maxHeartbeats 4000000 in
theorem rdot_core (A B : Option Addr) (n m C D : Nat) (X Y P Q : Nat → Nat × Nat) (hn : n ≤ 9223372036854775807) (hm : m ≤ 9223372036854775807) (hnm : n ≤ m) (w : World) (V : Ivs w A n X) (U : Ivs w B m Y)
    (cz : ∀ w, Calls Try.prog 28 #[.float .f64 0, .float .f64 0] w fun e w' => e = .returned (.agg #[.float .f64 (P 0).1, .float .f64 (P 0).2]) ∧ Below w.heap.size w w')
    (cm : ∀ i, i < n → ∀ w, Calls Try.prog 36 #[.agg #[.float .f64 (X i).1, .float .f64 (X i).2], .agg #[.float .f64 (Y i).1, .float .f64 (Y i).2]] w fun e w' => e = .returned (.agg #[.float .f64 (Q i).1, .float .f64 (Q i).2]) ∧ Below w.heap.size w w')
    (ca : ∀ i, i < n → ∀ w, Calls Try.prog 35 #[.agg #[.float .f64 (P i).1, .float .f64 (P i).2], .agg #[.float .f64 (Q i).1, .float .f64 (Q i).2]] w fun e w' => e = .returned (.agg #[.float .f64 (P (i + 1)).1, .float .f64 (P (i + 1)).2]) ∧ Below w.heap.size w w') :
    Calls Try.prog 10 #[.slice A n C, .slice B m D] w fun e w' => e = .returned (.agg #[.float .f64 (P n).1, .float .f64 (P n).2]) ∧ Below w.heap.size w w' := by
  have R : Has2 (w.alloc (.cells #[.float .f64 0, .float .f64 0] 26)) w.heap.size (.float .f64 0) (.float .f64 0) := has2_new _ _ _ _
  have HB : Below w.heap.size w (w.alloc (.cells #[.float .f64 0, .float .f64 0] 26)) := below_alloc (Below.refl _ _) _
  go_enter Try.func10, Try.ntmps10
  go_upto_region 1 with fail
  generalize w.alloc (.cells #[.float .f64 0, .float .f64 0] 26) = V0 at *
  go_upto_region 2 with (go_at_call 28; refine (cz _).mono ?_; rintro _ V1 ⟨rfl, hb1⟩; replace R := R.keep hb1; replace HB := later HB hb1; clear hb1)
  have lo : w.heap.size < V1.heap.size := R.2.2.2.2
  have O := has2_new V1 (.float .f64 (P 0).1) (.float .f64 (P 0).2) 26
  replace R := R.alloc (.cells #[.float .f64 (P 0).1, .float .f64 (P 0).2] 26)
  replace HB := below_alloc HB (.cells #[.float .f64 (P 0).1, .float .f64 (P 0).2] 26)
  generalize V1.alloc (.cells #[.float .f64 (P 0).1, .float .f64 (P 0).2] 26) = V2 at *
  generalize V1.heap.size = ob at *
  clear V1 V0 cz
  go_wp2_with fail
  go_loopg [10] n (fun G s10 wx => Below w.heap.size w wx ∧ Has2 wx w.heap.size (.float .f64 0) (.float .f64 0) ∧ ∃ i : Nat, i + G = n ∧ s10 = .int .i64 (i : Int) ∧ Has2 wx ob (.float .f64 (P i).1) (.float .f64 (P i).2))
  case atStart => exact ⟨HB, R, 0, by omega, rfl, O⟩
  case round =>
    clear HB R O
    obtain ⟨HB, R, i, hi, rfl, O⟩ := hrel
    by_cases ci : i = n
    · subst ci
      obtain ⟨z0, z1, z2, z3, z4⟩ := id O
      obtain ⟨r0, r1, r2, r3, r4⟩ := id R
      go_wp2_with fail
      refine bodyPost_ret (v := .agg #[.float .f64 (P i).1, .float .f64 (P i).2]) (by simp [results, Try.results10, go_sem, *]) rfl ⟨rfl, ?_⟩
      repeat' (first | (with_reducible exact HB) | (with_reducible refine Below.setCell ?_ ?_ _) | go_size)
    · have hlt : (i : Int) < (n : Int) := by omega
      have hlt2 : (i : Int) < (m : Int) := by omega
      obtain ⟨b, o, hA, hb, x0, x1, -, -⟩ := (V.keep HB) i (by omega)
      obtain ⟨b', o', hB, hb', y0, y1, -, -⟩ := (U.keep HB) i (by omega)
      have c1 := cm i (by omega)
      have c2 := ca i (by omega)
      subst hA hB
      go_upto_region 5 with fail
      have kx0 := fun n : Behind wr => n.cell x0 hb
      have kx1 := fun n : Behind wr => n.cell x1 hb
      have ky0 := fun n : Behind wr => n.cell y0 hb'
      have ky1 := fun n : Behind wr => n.cell y1 hb'
      have ko0 := fun n : Behind wr => n.cell O.1 O.2.2.2.2
      have ko1 := fun n : Behind wr => n.cell O.2.1 O.2.2.2.2
      clear x0 x1 y0 y1
      refine tail_behind 11 (by kernel_rfl) (by kernel_rfl) ?_
      simp only [List.take_succ_cons, List.take_zero, List.drop_succ_cons, List.drop_zero]
      repeat (go_big_quiet_step (first
        | (go_at_call 36; with_reducible refine Behind.call (c1 _))
        | (go_at_call 35; with_reducible refine Behind.call (c2 _))))
      refine wpQuiet_nil ?_
      rintro _ ⟨q, rfl⟩
      obtain ⟨W, hb1⟩ := q
      dsimp only
      clear kx0 kx1 ky0 ky1 ko0 ko1
      replace R := R.keep hb1; replace O := O.keep hb1; replace HB := later HB hb1; clear hb1
      obtain ⟨z0, z1, z2, z3, z4⟩ := id O
      go_wp2_with fail
      go_roundg (n - i - 1)
      case measure => omega
      case rel =>
        refine ⟨?_, R.far (by omega) _ _, i + 1, by omega, by go_num, O.put _ _⟩
        repeat' (first | (with_reducible exact HB) | (with_reducible refine Below.setCell ?_ ?_ _) | go_size | omega)

theorem zero_make (w : World) : Calls Try.prog 28 #[.float .f64 0, .float .f64 0] w fun e w' => e = .returned (.agg #[.float .f64 0, .float .f64 0]) ∧ Below w.heap.size w w' := by
  have h := rmake_w 0 0 (by omega) (by omega) w
  have e : makeP 0 0 = (0, 0) := by decide
  rw [e] at h
  exact h

theorem ivs_words {w : World} {A : Option Addr} {n : Nat} {X : Nat → Nat × Nat} (V : Ivs w A n X) : ∀ i, i < n → (X i).1 < 18446744073709551616 ∧ (X i).2 < 18446744073709551616 := fun i hi => by
  obtain ⟨b, o, e, l, c0, c1, r⟩ := V i hi
  exact r

theorem dot_w (A B : Option Addr) (n m C D : Nat) (X Y : Nat → Nat × Nat) (hn : n ≤ 9223372036854775807) (hm : m ≤ 9223372036854775807) (hnm : n ≤ m) (w : World) (V : Ivs w A n X) (U : Ivs w B m Y) :
    Calls Try.prog 32 #[.slice A n C, .slice B m D] w fun e w' => e = .returned (.agg #[.float .f64 (dotP X Y n).1, .float .f64 (dotP X Y n).2]) ∧ Below w.heap.size w w' := by
  have a := ivs_words V
  have b := ivs_words U
  exact dot_core A B n m C D X Y (dotP X Y) (fun i => mulP (X i).1 (X i).2 (Y i).1 (Y i).2) hn hm hnm w V U point0_w (fun i hi w => Mul_w _ _ _ _ (a i hi).1 (a i hi).2 (b i (by omega)).1 (b i (by omega)).2 w)
    (fun i hi w => Add_w _ _ _ _ (dotP_lt (n := i) (fun j hj => a j (by omega)) (fun j hj => b j (by omega))).1 (dotP_lt (n := i) (fun j hj => a j (by omega)) (fun j hj => b j (by omega))).2 (mulP_lt (a i hi).1 (a i hi).2 (b i (by omega)).1 (b i (by omega)).2).1 (mulP_lt (a i hi).1 (a i hi).2 (b i (by omega)).1 (b i (by omega)).2).2 w)

theorem rdot_w (A B : Option Addr) (n m C D : Nat) (X Y : Nat → Nat × Nat) (hn : n ≤ 9223372036854775807) (hm : m ≤ 9223372036854775807) (hnm : n ≤ m) (w : World) (V : Ivs w A n X) (U : Ivs w B m Y) :
    Calls Try.prog 10 #[.slice A n C, .slice B m D] w fun e w' => e = .returned (.agg #[.float .f64 (dotP X Y n).1, .float .f64 (dotP X Y n).2]) ∧ Below w.heap.size w w' := by
  have a := ivs_words V
  have b := ivs_words U
  exact rdot_core A B n m C D X Y (dotP X Y) (fun i => mulP (X i).1 (X i).2 (Y i).1 (Y i).2) hn hm hnm w V U zero_make (fun i hi w => rMul_w _ _ _ _ (a i hi).1 (a i hi).2 (b i (by omega)).1 (b i (by omega)).2 w)
    (fun i hi w => rAdd_w _ _ _ _ (dotP_lt (n := i) (fun j hj => a j (by omega)) (fun j hj => b j (by omega))).1 (dotP_lt (n := i) (fun j hj => a j (by omega)) (fun j hj => b j (by omega))).2 (mulP_lt (a i hi).1 (a i hi).2 (b i (by omega)).1 (b i (by omega)).2).1 (mulP_lt (a i hi).1 (a i hi).2 (b i (by omega)).1 (b i (by omega)).2).2 w)

end Go.Proofs.Ytddkojmdhckleaa
