/- A tape's values: refused, atOuts and Eval of the program. -/
import Derived.Test.YtnchhfhoaepjnaaGreatVd
import Derived.Test.YtnchhfhoaepjnaaGreatTc
import Derived.Test.YtnchhfhoaepjnaaGreatLf
namespace Go.Proofs.YtnchhfhoaepjnaaGreat
open Go.ChangeShapes Go.WideShapes Go.ChangeAt Go.RowKit

/-- A tape's three fields in a block. -/
structure HasT (w : World) (b : Nat) (v : Int) (A : Option Addr) (n C : Nat) (D : Option Addr) (m E : Nat) : Prop where
  c0 : w.cell? ⟨b, 0, none⟩ = some (.int .i64 v)
  c1 : w.cell? ⟨b, 1, none⟩ = some (.slice A n C)
  c2 : w.cell? ⟨b, 2, none⟩ = some (.slice D m E)
  lt : b < w.heap.size
theorem HasT.keep {w w2 : World} {b : Nat} {v : Int} {A : Option Addr} {n C : Nat} {D : Option Addr} {m E : Nat} (h : HasT w b v A n C D m E) (hb : Below w.heap.size w w2) : HasT w2 b v A n C D m E :=
  ⟨keepsC hb h.c0 h.lt, keepsC hb h.c1 h.lt, keepsC hb h.c2 h.lt, Nat.lt_of_lt_of_le h.lt hb.size⟩
theorem hasT_new (w : World) (v : Int) (A : Option Addr) (n C : Nat) (D : Option Addr) (m E : Nat) : HasT (w.alloc (.cells #[.int .i64 v, .slice A n C, .slice D m E] 25)) w.heap.size v A n C D m E :=
  ⟨by go_simp, by go_simp, by go_simp, by go_size⟩

set_option maxHeartbeats 1000000 in
theorem ref_bad (v : Int) (A : Option Addr) (n C : Nat) (D : Option Addr) (m E : Nat) (xs : Value) (e : Int) (he : e = 50) (w : World) (c1 : ∀ W, Below w.heap.size w W → Calls Tryz.prog 10 #[tapeV v A n C D m E] W fun e' w' => e' = .returned (.int .i64 e) ∧ Below W.heap.size W w') :
    Calls Tryz.prog 15 #[tapeV v A n C D m E, xs] w fun e w' => e = .returned (.int .i64 50) ∧ Below w.heap.size w w' := by
  subst he
  unfold tapeV at *
  have T := hasT_new w v A n C D m E
  have HB : Below w.heap.size w (w.alloc (.cells #[.int .i64 v, .slice A n C, .slice D m E] 25)) := by go_grown
  go_enter Tryz.func15, Tryz.ntmps15
  go_upto_region 1 with fail
  generalize (w.alloc (.cells #[.int .i64 v, .slice A n C, .slice D m E] 25)) = V1 at *
  obtain ⟨t0, t1, t2, tl⟩ := id T
  go_wp2_with (go_at_call 10; refine (c1 _ HB).mono ?_; rintro _ VV ⟨rfl, hb1⟩; replace HB := later HB hb1)
  go_ret
  exact ⟨rfl, HB⟩

set_option maxHeartbeats 1000000 in
theorem ref_len (v : Int) (A : Option Addr) (n C : Nat) (D : Option Addr) (m E : Nat) (AX : Option Addr) (mx CX : Nat) (hne : ((mx : Int) != v) = true) (w : World) (c1 : ∀ W, Below w.heap.size w W → Calls Tryz.prog 10 #[tapeV v A n C D m E] W fun e' w' => e' = .returned (.int .i64 0) ∧ Below W.heap.size W w') :
    Calls Tryz.prog 15 #[tapeV v A n C D m E, .slice AX mx CX] w fun e w' => e = .returned (.int .i64 1) ∧ Below w.heap.size w w' := by
  unfold tapeV at *
  have T := hasT_new w v A n C D m E
  have HB : Below w.heap.size w (w.alloc (.cells #[.int .i64 v, .slice A n C, .slice D m E] 25)) := by go_grown
  go_enter Tryz.func15, Tryz.ntmps15
  go_upto_region 1 with fail
  generalize (w.alloc (.cells #[.int .i64 v, .slice A n C, .slice D m E] 25)) = V1 at *
  obtain ⟨t0, t1, t2, tl⟩ := id T
  go_wp2_with (go_at_call 10; refine (c1 _ HB).mono ?_; rintro _ VV ⟨rfl, hb1⟩; replace HB := later HB hb1; replace T := T.keep hb1; clear t0 t1 t2 tl; obtain ⟨t0, t1, t2, tl⟩ := id T)
  go_ret
  exact ⟨rfl, HB⟩

/-- Do all intervals hold some number? -/
def allB (m : Nat) (X : Nat → Nat × Nat) : Bool := (List.range m).all fun i => hsB (X i).1 (X i).2

set_option maxHeartbeats 1000000 in
theorem ref_all (v : Int) (A : Option Addr) (n C : Nat) (D : Option Addr) (m E : Nat) (AX : Option Addr) (mx CX : Nat) (X : Nat → Nat × Nat) (hm : mx ≤ 9223372036854775807) (hne : ((mx : Int) != v) = false) (w : World) (VX : Ivs w AX mx X) (c1 : ∀ W, Below w.heap.size w W → Calls Tryz.prog 10 #[tapeV v A n C D m E] W fun e' w' => e' = .returned (.int .i64 0) ∧ Below W.heap.size W w') :
    Calls Tryz.prog 15 #[tapeV v A n C D m E, .slice AX mx CX] w fun e w' => e = .returned (.int .i64 (if allB mx X then 0 else 1)) ∧ Below w.heap.size w w' := by
  have cr := fun (i : Nat) (h1 : (X i).1 < 18446744073709551616) (h2 : (X i).2 < 18446744073709551616) w => mayHold_w (X i).1 (X i).2 h1 h2 w
  unfold tapeV at *
  have T := hasT_new w v A n C D m E
  have HB : Below w.heap.size w (w.alloc (.cells #[.int .i64 v, .slice A n C, .slice D m E] 25)) := by go_grown
  go_enter Tryz.func15, Tryz.ntmps15
  go_upto_region 1 with fail
  generalize (w.alloc (.cells #[.int .i64 v, .slice A n C, .slice D m E] 25)) = V1 at *
  obtain ⟨t0, t1, t2, tl⟩ := id T
  go_wp2_with (go_at_call 10; refine (c1 _ HB).mono ?_; rintro _ VV ⟨rfl, hb1⟩; replace HB := later HB hb1; replace T := T.keep hb1; clear t0 t1 t2 tl; obtain ⟨t0, t1, t2, tl⟩ := id T)
  clear t0 t1 t2 tl T c1
  go_loopg [20] mx (fun G s20 wx => Below w.heap.size w wx ∧ ∃ i : Nat, i + G = mx ∧ s20 = .int .i64 (i : Int) ∧ Hid (∀ j, j < i → hsB (X j).1 (X j).2 = true))
  case atStart => exact ⟨HB, 0, by omega, rfl, fun j hj => absurd hj (by omega)⟩
  case round =>
    clear HB
    obtain ⟨HB, i, hi, rfl, hall⟩ := hrel
    by_cases ci : i = mx
    · subst ci
      have e : allB i X = true := by unfold allB; exact all_upto.2 hall
      go_wp2_with fail
      go_ret
      exact ⟨rfl, HB⟩
    · have hlt : (i : Int) < (mx : Int) := by omega
      obtain ⟨b, o, hA, hb, x0, x1, l0, l1⟩ := (VX.keep HB) i (by omega)
      have c := cr i l0 l1
      have hcase : hsB (X i).1 (X i).2 = true ∨ hsB (X i).1 (X i).2 = false := by cases hsB (X i).1 (X i).2 <;> simp
      rcases hcase with hq | hq
      · rw [hq] at c
        subst hA
        go_wp2_with (go_at_call 33; refine (c _).mono ?_; rintro _ w1 ⟨rfl, hb1⟩; replace HB := later (below_alloc HB _) hb1)
        go_roundg (mx - i - 1)
        case measure => omega
        case rel => exact ⟨HB, i + 1, by omega, by go_num, fun j hj => by rcases Nat.lt_or_ge j i with h | h; exact hall j h; rw [show j = i by omega]; exact hq⟩
      · rw [hq] at c
        have e : allB mx X = false := by
          unfold allB
          exact all_not (i := i) (by omega) hq
        subst hA
        go_wp2_with (go_at_call 33; refine (c _).mono ?_; rintro _ w1 ⟨rfl, hb1⟩; replace HB := later (below_alloc HB _) hb1)
        all_goals
          go_ret
          exact ⟨rfl, HB⟩

set_option maxHeartbeats 2000000 in
theorem outs_i (v : Int) (A : Option Addr) (n C : Nat) (D : Option Addr) (m E : Nat) (Y : Nat → Int) (B : Option Addr) (k F : Nat) (V : Nat → Nat × Nat) (hm : m ≤ 400) (hY : ∀ i, i < m → 0 ≤ Y i ∧ Y i < (k : Int)) (w : World) (U : Ivs w B k V) (VY : Ins w D m Y) :
    Calls Tryz.prog 17 #[tapeV v A n C D m E, .slice B k F] w fun e w' => ∃ g, e = .returned (.slice (some ⟨g, 0, none⟩) m m) ∧ Img w' g m (fun i => V (Y i).toNat) ∧ Below w.heap.size w w' := by
  have HY : Hid (∀ i, i < m → 0 ≤ Y i ∧ Y i < (k : Int)) := hY
  clear hY
  unfold tapeV at *
  have T := hasT_new w v A n C D m E
  have HB : Below w.heap.size w (w.alloc (.cells #[.int .i64 v, .slice A n C, .slice D m E] 25)) := by go_grown
  go_enter Tryz.func17, Tryz.ntmps17
  go_upto_region 1 with fail
  generalize (w.alloc (.cells #[.int .i64 v, .slice A n C, .slice D m E] 25)) = V1 at *
  obtain ⟨t0, t1, t2, tl⟩ := id T
  go_wp2_with (at_make; refine wpList_makeI (by rfl) _ _ (by rfl) m (by rfl) (by rfl) (by omega) ?_; intro w3 hI hb3 hS3; replace T := T.keep hb3; clear t0 t1 t2 tl; obtain ⟨t0, t1, t2, tl⟩ := id T)
  clear t0 t1 t2 tl T
  have hg : w.heap.size ≤ V1.heap.size := HB.size
  replace HB := later HB hb3
  clear hb3
  generalize V1.heap.size = g at *
  go_loopg [15] m (fun G s15 wx => Below w.heap.size w wx ∧ ∃ r : Nat, r + G = m ∧ s15 = .int .i64 (r : Int) ∧ Img wx g m (fun i => if i < r then V (Y i).toNat else (0, 0)))
  case atStart => exact ⟨HB, 0, by omega, rfl, hI.congr fun i _ => by simp⟩
  case round =>
    clear HB hI
    obtain ⟨HB, r, hr, rfl, hI⟩ := hrel
    by_cases cr : r = m
    · subst cr
      go_wp2_with fail
      go_ret
      exact ⟨g, rfl, hI.congr fun i hi => by simp [hi], HB⟩
    · have hlt : (r : Int) < (m : Int) := by omega
      obtain ⟨b', o', hA, hb', y0⟩ := (VY.keep HB) r (by omega)
      obtain ⟨j, hj⟩ : ∃ j : Nat, Y r = (j : Int) := ⟨(Y r).toNat, by have := HY r (by omega); omega⟩
      have hjk : (j : Int) < (k : Int) := by have := HY r (by omega); omega
      obtain ⟨xb, xo, hB, hxb, x0, x1, -⟩ := (U.keep HB) j (by omega)
      have ej : V (Y r).toNat = V j := by rw [hj]; rfl
      rw [hj] at y0
      obtain ⟨i0, i1, f0, f1⟩ := id (hI.2 r (by omega))
      subst hA
      subst hB
      go_wp2_with fail
      go_roundg (m - r - 1)
      case measure => omega
      case rel =>
        refine ⟨?_, r + 1, by omega, by go_num, (hI.set r _ _ (by omega)).congr fun i hi => ?_⟩
        · repeat' (first | (with_reducible exact HB) | (with_reducible refine Below.setCell ?_ ?_ _) | go_size | omega)
        · by_cases e : i = r
          · subst e
            simp [ej]
          · simp only [e, if_false]
            by_cases q : i < r
            · simp [q, show i < r + 1 by omega]
            · simp [q, show ¬ i < r + 1 by omega]

end Go.Proofs.YtnchhfhoaepjnaaGreat
