/- LinGrows: its closure, and the column that holds nothing. -/
import Derived.Test.YtddkojmdhckleaaMg
namespace Go.Proofs.Ytddkojmdhckleaa
open Go.ChangeShapes Go.WideShapes Go.ChangeAt Go.RowKit

theorem midP_lt {lo hi : Nat} (hl : lo < 18446744073709551616) (hh : hi < 18446744073709551616) : midP lo hi < 18446744073709551616 := by
  unfold midP
  cases h : hsB lo hi
  · rw [if_neg (by simp)]; omega
  · rw [if_pos rfl]
    have E := mid_ends hl hh (hs_iff.1 h)
    have A := midM_facts lo hi
    split
    · exact E.2.2.2.2.1
    · split
      · exact E.2.2.2.2.2.1
      · exact A.2.2

theorem point_core (lo hi c : Nat) (p : Nat × Nat) (b1 b2 : Bool)
    (cm : ∀ w, Calls Try.prog 25 #[.agg #[.float .f64 lo, .float .f64 hi]] w fun e w' => e = .returned (.float .f64 c) ∧ Below w.heap.size w w')
    (cn : ∀ w, Calls Try.prog 26 #[.agg #[.float .f64 lo, .float .f64 hi]] w fun e w' => e = .returned (.bool b1) ∧ Below w.heap.size w w')
    (ch : ∀ w, Calls Try.prog 27 #[.agg #[.float .f64 lo, .float .f64 hi], .float .f64 c] w fun e w' => e = .returned (.bool b2) ∧ Below w.heap.size w w')
    (ck : ∀ w, Calls Try.prog 28 #[.float .f64 c, .float .f64 c] w fun e w' => e = .returned (.agg #[.float .f64 p.1, .float .f64 p.2]) ∧ Below w.heap.size w w') (w : World) :
    Calls Try.prog 24 #[.agg #[.float .f64 lo, .float .f64 hi]] w fun e w' => e = .returned (.agg #[.float .f64 (if !b1 && b2 then p else (lo, hi)).1, .float .f64 (if !b1 && b2 then p else (lo, hi)).2]) ∧ Below w.heap.size w w' := by
  have X : Has2 ((w.alloc (.cells #[.float .f64 lo, .float .f64 hi] 26)).alloc (.cells #[.float .f64 0, .float .f64 0] 26)) w.heap.size (.float .f64 lo) (.float .f64 hi) := (has2_new _ _ _ _).alloc _
  have R : Has2 ((w.alloc (.cells #[.float .f64 lo, .float .f64 hi] 26)).alloc (.cells #[.float .f64 0, .float .f64 0] 26)) (w.heap.size + 1) (.float .f64 0) (.float .f64 0) := has2_new1 _ _ _ _ _
  have HB : Below w.heap.size w ((w.alloc (.cells #[.float .f64 lo, .float .f64 hi] 26)).alloc (.cells #[.float .f64 0, .float .f64 0] 26)) := below_alloc (below_alloc (Below.refl _ _) _) _
  cases b1
  case' false => cases b2
  all_goals
    go_enter Try.func24, Try.ntmps24
    go_wp2_with fail
    generalize (w.alloc (.cells #[.float .f64 lo, .float .f64 hi] 26)).alloc (.cells #[.float .f64 0, .float .f64 0] 26) = V0 at *
    obtain ⟨x0, x1, x2, x3, x4⟩ := id X
    obtain ⟨r0, r1, r2, r3, r4⟩ := id R
    go_wp2_with (first
      | (go_at_call 25; with_reducible refine (cm _).mono ?_; rintro _ w1 ⟨rfl, hb1⟩; replace X := X.keep hb1; replace R := R.keep hb1; replace HB := later HB hb1; clear hb1; clear x0 x1 x2 x3 x4 r0 r1 r2 r3 r4
         obtain ⟨x0, x1, x2, x3, x4⟩ := id X
         obtain ⟨r0, r1, r2, r3, r4⟩ := id R)
      | (go_at_call 26; with_reducible refine (cn _).mono ?_; rintro _ w1 ⟨rfl, hb1⟩; replace X := X.keep hb1; replace R := R.keep hb1; replace HB := later HB hb1; clear hb1; clear x0 x1 x2 x3 x4 r0 r1 r2 r3 r4
         obtain ⟨x0, x1, x2, x3, x4⟩ := id X
         obtain ⟨r0, r1, r2, r3, r4⟩ := id R)
      | (go_at_call 27; with_reducible refine (ch _).mono ?_; rintro _ w1 ⟨rfl, hb1⟩; replace X := X.keep hb1; replace R := R.keep hb1; replace HB := later HB hb1; clear hb1; clear x0 x1 x2 x3 x4 r0 r1 r2 r3 r4
         obtain ⟨x0, x1, x2, x3, x4⟩ := id X
         obtain ⟨r0, r1, r2, r3, r4⟩ := id R)
      | (go_at_call 28; with_reducible refine (ck _).mono ?_; rintro _ w1 ⟨rfl, hb1⟩; replace X := X.keep hb1; replace R := R.keep hb1; replace HB := later HB hb1; clear hb1; clear x0 x1 x2 x3 x4 r0 r1 r2 r3 r4
         obtain ⟨x0, x1, x2, x3, x4⟩ := id X
         obtain ⟨r0, r1, r2, r3, r4⟩ := id R))
    first
      | refine bodyPost_ret (v := .agg #[.float .f64 lo, .float .f64 hi]) (by simp [results, Try.results24, go_sem, *]) rfl ⟨rfl, ?_⟩
      | refine bodyPost_ret (v := .agg #[.float .f64 p.1, .float .f64 p.2]) (by simp [results, Try.results24, go_sem, *]) rfl ⟨rfl, ?_⟩
    repeat' (first | (with_reducible exact HB) | (with_reducible refine Below.setCell ?_ ?_ _) | omega | go_size)

theorem point_c (x : Nat × Nat) (hx : W2 x) (w : World) :
    Calls Try.prog 24 #[.agg #[.float .f64 x.1, .float .f64 x.2]] w fun e w' => e = .returned (.agg #[.float .f64 (pointP x).1, .float .f64 (pointP x).2]) ∧ Below w.heap.size w w' := by
  have h := point_core x.1 x.2 (midP x.1 x.2) (makeP (midP x.1 x.2) (midP x.1 x.2)) _ _ (fun w => rMid_w x.1 x.2 hx.1 hx.2 w) (fun w => none_w x.1 x.2 hx.1 hx.2 w) (fun w => rhas_w x.1 x.2 (midP x.1 x.2) hx.1 hx.2 (midP_lt hx.1 hx.2) w) (fun w => rmake_w _ _ (midP_lt hx.1 hx.2) (midP_lt hx.1 hx.2) w) w
  have e : pointP x = (if (!!hsB x.1 x.2) && hasB x.1 x.2 (midP x.1 x.2) then makeP (midP x.1 x.2) (midP x.1 x.2) else (x.1, x.2)) := by
    unfold pointP
    rw [Bool.not_not]
  rw [e]
  exact h

/-- Does a column hold an empty interval? -/
def hollowB (N : Nat) (X : Nat → Nat → Nat × Nat) (j : Nat) : Bool := !(List.range N).all fun r => hsB (X r j).1 (X r j).2

set_option maxHeartbeats 2000000 in
theorem hollow_w (A : Option Addr) (N C j : Nat) (RA : Nat → Option Addr) (RL RC : Nat → Nat) (X : Nat → Nat → Nat × Nat) (hN : N ≤ 9223372036854775807) (hj : ∀ r, r < N → j < RL r) (w : World) (V : Rws w A N RA RL RC X) :
    Calls Try.prog 30 #[.slice A N C, .int .i64 (j : Int)] w fun e w' => e = .returned (.bool (hollowB N X j)) ∧ Below w.heap.size w w' := by
  have HJ : Hid (∀ r, r < N → j < RL r) := hj
  have hd : Hid (hollowB N X j = !(List.range N).all fun r => hsB (X r j).1 (X r j).2) := Eq.refl _
  clear hj
  go_enter Try.func30, Try.ntmps30
  go_wp2_with fail
  go_loopg [9] N (fun G s9 wx => Below w.heap.size w wx ∧ ∃ r : Nat, r + G = N ∧ s9 = .int .i64 (r : Int) ∧ Hid (∀ q, q < r → hsB (X q j).1 (X q j).2 = true))
  case atStart => exact ⟨Below.refl _ _, 0, by omega, rfl, fun q hq => absurd hq (by omega)⟩
  case round =>
    obtain ⟨HB, r, hr, rfl, hall⟩ := hrel
    by_cases cr : r = N
    · subst cr
      have ee : Hid (hollowB r X j = false) := Eq.trans hd (congrArg (fun q => !q) (all_upto.2 hall))
      clear hd
      go_wp2_with fail
      go_ret
      exact ⟨congrArg (fun q => Ending.returned (Value.bool q)) (Eq.symm ee), HB⟩
    · have hlt : (r : Int) < (N : Int) := by omega
      obtain ⟨b, o, hA, hb, x0, l0, I⟩ := (V.keep HB) r (by omega)
      have hjr : (j : Int) < (RL r : Int) := by have := HJ r (by omega); omega
      obtain ⟨b', o', hA', hb', z0, z1, y0, y1⟩ := I j (by omega)
      have c := fun w => none_w (X r j).1 (X r j).2 y0 y1 w
      have hcase : hsB (X r j).1 (X r j).2 = true ∨ hsB (X r j).1 (X r j).2 = false := by cases hsB (X r j).1 (X r j).2 <;> simp
      clear l0 I HJ V
      generalize RA r = P at *
      generalize RL r = L at *
      generalize RC r = Q at *
      subst hA hA'
      rcases hcase with hq | hq
      · rw [hq] at c
        replace hq : Hid _ := hq
        go_wp2_with (go_at_call 26; with_reducible refine (c _).mono ?_; rintro _ w1 ⟨rfl, hb1⟩; replace HB := later (by first | exact HB | exact below_alloc HB _) hb1)
        go_roundg (N - r - 1)
        case measure => omega
        case rel => exact ⟨HB, r + 1, by omega, by go_num, fun q hq' => by rcases Nat.lt_or_ge q r with h | h; exact hall q h; rw [show q = r by omega]; exact hq⟩
      · rw [hq] at c
        have ee : Hid (hollowB N X j = true) := Eq.trans hd (congrArg (fun q => !q) (all_not (i := r) (by omega) hq))
        clear hd hq
        go_wp2_with (go_at_call 26; with_reducible refine (c _).mono ?_; rintro _ w1 ⟨rfl, hb1⟩; replace HB := later (by first | exact HB | exact below_alloc HB _) hb1)
        go_ret
        exact ⟨congrArg (fun q => Ending.returned (Value.bool q)) (Eq.symm ee), HB⟩

end Go.Proofs.Ytddkojmdhckleaa
