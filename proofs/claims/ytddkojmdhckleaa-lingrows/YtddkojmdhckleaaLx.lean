/- Sums of amounts, rounded up: they are always told, and are amounts. Norms: lin.norm and the reference's Norm. lin.Norm with its refusal; Points and One of both sides as rows in memory, under one contract each. LinNorms: the law's walk. -/
import Derived.Test.YtddkojmdhckleaaKc
import Derived.Test.YtddkojmdhckleaaLa
import Derived.Test.YtddkojmdhckleaaKh
import Derived.Test.YtddkojmdhckleaaLn
namespace Go.Proofs.Ytddkojmdhckleaa
open Go.ChangeShapes Go.WideShapes Go.ChangeAt Go.RowKit

/-- A word that is an amount: no sign, no NaN. -/
def Am (a : Nat) : Prop := a ≤ 9218868437227405312

theorem Am.lt {a : Nat} (h : Am a) : a < 18446744073709551616 := by unfold Am at h; omega
theorem Am.num {a : Nat} (h : Am a) : nanB a = false := by unfold Am at h; unfold nanB; simp; omega

theorem mag_am {lo hi : Nat} : Am (magP lo hi) := by
  unfold magP
  by_cases h : hsB lo hi = true
  · rw [if_pos h]
    obtain ⟨a, b⟩ := hs_nan h
    unfold nanB at a b
    simp at a b
    unfold Am maxW
    split
    · exact b
    · split
      · split
        · exact b
        · exact a
      · exact a
  · rw [if_neg h]; unfold Am; omega

theorem add_am {a b : Nat} (ha : Am a) (hb : Am b) : ∃ u, addR a b 1 = some u ∧ Am u := by
  have S : ∀ {x : Nat}, Am x → Some2 0 x := fun {x} hx => by
    have k0 : key 0 = 0 := by decide
    have kx : key x = (x : Int) := by unfold Am at hx; unfold key; rw [if_pos (by omega)]
    unfold Am at hx
    constructor <;> first | (show nanB 0 = false; decide) | exact Am.num hx | (rw [k0, kx]; omega) | (rw [k0]; omega) | (rw [kx]; omega) | omega
  obtain ⟨l, u, e1, e2, T, hl, hu⟩ := add_some (xl := 0) (xh := a) (yl := 0) (yh := b) (by omega) ha.lt (by omega) hb.lt (S ha) (S hb)
  have e0 : addR 0 0 (-1) = some 0 := by decide
  rw [e0] at e1
  obtain rfl := Option.some.inj e1
  refine ⟨u, e2, ?_⟩
  have nz := addR_nz e2
  have k0 : key 0 = 0 := by decide
  have le : key 0 ≤ key u := T.le
  have nu := T.nh
  rw [k0] at le
  unfold key at le
  unfold nanB at nu
  simp at nu
  unfold Am
  split at le <;> omega

/-- The sum of the first k amounts, rounded up. -/
def sumP (X : Nat → Nat × Nat) : Nat → Nat
  | 0 => 0
  | k + 1 => (addR (sumP X k) (magP (X k).1 (X k).2) 1).getD 0

theorem sum_am (X : Nat → Nat × Nat) (k : Nat) : Am (sumP X k) ∧ addR (sumP X k) (magP (X k).1 (X k).2) 1 = some (sumP X (k + 1)) := by
  have step : ∀ k, Am (sumP X k) → Am (sumP X (k + 1)) ∧ addR (sumP X k) (magP (X k).1 (X k).2) 1 = some (sumP X (k + 1)) := fun k h => by
    obtain ⟨u, e, hu⟩ := add_am h (mag_am (lo := (X k).1) (hi := (X k).2))
    have q : sumP X (k + 1) = u := by show (addR (sumP X k) (magP (X k).1 (X k).2) 1).getD 0 = u; rw [e]; rfl
    rw [q]
    exact ⟨hu, e⟩
  have am : ∀ k, Am (sumP X k) := fun k => by
    induction k with
    | zero => exact Nat.zero_le _
    | succ k ih => exact (step k ih).1
  exact ⟨am k, (step k (am k)).2⟩

/-- The greatest of the first r rows' sums. -/
def normP (RL : Nat → Nat) (X : Nat → Nat → Nat × Nat) : Nat → Nat
  | 0 => 0
  | r + 1 => if normP RL X r < sumP (X r) (RL r) then sumP (X r) (RL r) else normP RL X r

theorem norm_am (RL : Nat → Nat) (X : Nat → Nat → Nat × Nat) (r : Nat) : Am (normP RL X r) := by
  induction r with
  | zero => exact Nat.zero_le _
  | succ r ih =>
    show Am (if normP RL X r < sumP (X r) (RL r) then sumP (X r) (RL r) else normP RL X r)
    split
    · exact (sum_am _ _).1
    · exact ih

theorem sumadd_w (X : Nat → Nat × Nat) (j : Nat) (w : World) : Calls Try.prog 60 #[.float .f64 (sumP X j), .float .f64 (magP (X j).1 (X j).2), .int .i64 1] w fun e w' => e = .returned (.float .f64 (sumP X (j + 1))) ∧ Below w.heap.size w w' := by
  obtain ⟨a, e⟩ := sum_am X j
  refine (add_w _ _ 1 a.lt mag_am.lt w).mono fun x w' ⟨h, b⟩ => ⟨?_, b⟩
  rw [e] at h
  obtain ⟨r, hx, -, hr⟩ := h
  rw [hx, show r = _ from hr]

theorem rsumadd_w (X : Nat → Nat × Nat) (j : Nat) (w : World) : Calls Try.prog 40 #[.float .f64 (sumP X j), .float .f64 (magP (X j).1 (X j).2), .int .i64 1] w fun e w' => e = .returned (.float .f64 (sumP X (j + 1))) ∧ Below w.heap.size w w' := by
  obtain ⟨a, e⟩ := sum_am X j
  refine (radd_w _ _ 1 a.lt mag_am.lt w).mono fun x w' ⟨h, b⟩ => ⟨?_, b⟩
  rw [e] at h
  obtain ⟨r, hx, -, hr⟩ := h
  rw [hx, show r = _ from hr]

theorem key_am {a : Nat} (h : Am a) : key a = (a : Int) := by unfold Am at h; unfold key; rw [if_pos (by omega)]

theorem ltB_am {a b : Nat} (ha : Am a) (hb : Am b) : ltB a b = decide (a < b) := by
  unfold ltB
  rw [ha.num, hb.num, key_am ha, key_am hb]
  simp

theorem maxW_am {a b : Nat} (ha : Am a) (hb : Am b) : maxW a b = if a < b then b else a := by
  unfold maxW
  rw [key_am ha, key_am hb]
  by_cases h : a < b
  · rw [if_pos (by omega), if_pos h]
  · rw [if_neg (by omega), if_neg h]
    split
    · split
      · omega
      · rfl
    · rfl

set_option maxHeartbeats 8000000 in
theorem rnorm_w (A : Option Addr) (N C : Nat) (RA : Nat → Option Addr) (RL RC : Nat → Nat) (X : Nat → Nat → Nat × Nat) (hN : N ≤ 9223372036854775807) (w : World) (V : Rws w A N RA RL RC X) :
    Calls Try.prog 19 #[.slice A N C] w fun e w' => e = .returned (.float .f64 (normP RL X N)) ∧ Below w.heap.size w w' := by
  go_enter Try.func19, Try.ntmps19
  go_wp2_with fail
  go_loopg [3, 11] N (fun G s3 s11 wx => Below w.heap.size w wx ∧ ∃ r : Nat, r + G = N ∧ s11 = .int .i64 (r : Int) ∧ s3 = .float .f64 (normP RL X r))
  case atStart => exact ⟨Below.refl _ _, 0, by omega, rfl, rfl⟩
  case round =>
    obtain ⟨HB, r, hr, rfl, rfl⟩ := hrel
    by_cases cr : r = N
    · subst cr
      go_wp2_with fail
      go_ret
      exact ⟨rfl, HB⟩
    · have hlti : (r : Int) < (N : Int) := by omega
      obtain ⟨b', o', hA, hb', y0, l0, I⟩ := V r (by omega)
      replace y0 := keepsC HB y0 hb'
      have ma : Hid (Am (normP RL X r)) := norm_am RL X r
      have sa : Hid (Am (sumP (X r) (RL r))) := (sum_am (X r) (RL r)).1
      have nx : Hid (normP RL X (r + 1) = if normP RL X r < sumP (X r) (RL r) then sumP (X r) (RL r) else normP RL X r) := rfl
      obtain ⟨M, hM⟩ : ∃ M, M = normP RL X r := ⟨_, rfl⟩
      rw [← hM] at ma nx ⊢
      clear hM
      subst hA
      generalize RA r = P at *
      generalize RL r = L at *
      go_wp2_with fail
      go_loopg [6, 17] L (fun G s6 s17 wy => Below w.heap.size w wy ∧ ∃ j : Nat, j + G = L ∧ s17 = .int .i64 (j : Int) ∧ s6 = .float .f64 (sumP (X r) j))
      case atStart => exact ⟨HB, 0, by omega, rfl, rfl⟩
      case round =>
        clear HB y0
        obtain ⟨HB, j, hj, rfl, rfl⟩ := hrel
        by_cases cj : j = L
        · subst cj
          have o := o_gt (a := sumP (X r) j) (b := M) (Am.lt sa) (Am.lt ma)
          rw [ltB_am ma sa] at o
          by_cases q : M < sumP (X r) j
          · have nx' : Hid (normP RL X (r + 1) = sumP (X r) j) := (show normP RL X (r + 1) = _ from nx).trans (if_pos q)
            rw [decide_eq_true q] at o
            clear nx q
            go_wp2_with fail
            go_roundg (N - r - 1)
            case measure => omega
            case rel => exact ⟨HB, r + 1, by omega, by go_num, by rw [show normP RL X (r + 1) = _ from nx']⟩
          · have nx' : Hid (normP RL X (r + 1) = M) := (show normP RL X (r + 1) = _ from nx).trans (if_neg q)
            rw [decide_eq_false q] at o
            clear nx q
            go_wp2_with fail
            go_roundg (N - r - 1)
            case measure => omega
            case rel => exact ⟨HB, r + 1, by omega, by go_num, by rw [show normP RL X (r + 1) = _ from nx']⟩
        · have hltj : (j : Int) < (L : Int) := by omega
          obtain ⟨b2, o2, hA2, hb2, z0, z1, k0, k1⟩ := (I.keep HB) j (by omega)
          have cm := fun w => rMag_w (X r j).1 (X r j).2 k0 k1 w
          have ca := fun w => rsumadd_w (X r) j w
          subst hA2
          go_wp2_with (first
            | (go_at_call 41; refine (cm _).mono ?_; rintro _ w1 ⟨rfl, hb1⟩; replace HB := later (below_alloc HB _) hb1)
            | (go_at_call 40; refine (ca _).mono ?_; rintro _ w2 ⟨rfl, hb2⟩; replace HB := later HB hb2))
          go_roundg (L - j - 1)
          case measure => omega
          case rel => exact ⟨HB, j + 1, by omega, by go_num, rfl⟩

set_option maxHeartbeats 8000000 in
theorem norm_w (A : Option Addr) (N C : Nat) (RA : Nat → Option Addr) (RL RC : Nat → Nat) (X : Nat → Nat → Nat × Nat) (hN : N ≤ 9223372036854775807) (w : World) (V : Rws w A N RA RL RC X) :
    Calls Try.prog 39 #[.slice A N C] w fun e w' => e = .returned (.float .f64 (normP RL X N)) ∧ Below w.heap.size w w' := by
  go_enter Try.func39, Try.ntmps39
  go_wp2_with fail
  go_loopg [3, 11] N (fun G s3 s11 wx => Below w.heap.size w wx ∧ ∃ r : Nat, r + G = N ∧ s11 = .int .i64 (r : Int) ∧ s3 = .float .f64 (normP RL X r))
  case atStart => exact ⟨Below.refl _ _, 0, by omega, rfl, rfl⟩
  case round =>
    obtain ⟨HB, r, hr, rfl, rfl⟩ := hrel
    by_cases cr : r = N
    · subst cr
      go_wp2_with fail
      go_ret
      exact ⟨rfl, HB⟩
    · have hlti : (r : Int) < (N : Int) := by omega
      obtain ⟨b', o', hA, hb', y0, l0, I⟩ := V r (by omega)
      replace y0 := keepsC HB y0 hb'
      have ma : Hid (Am (normP RL X r)) := norm_am RL X r
      have sa : Hid (Am (sumP (X r) (RL r))) := (sum_am (X r) (RL r)).1
      have nx : Hid (normP RL X (r + 1) = if normP RL X r < sumP (X r) (RL r) then sumP (X r) (RL r) else normP RL X r) := rfl
      obtain ⟨M, hM⟩ : ∃ M, M = normP RL X r := ⟨_, rfl⟩
      rw [← hM] at ma nx ⊢
      clear hM
      subst hA
      generalize RA r = P at *
      generalize RL r = L at *
      go_wp2_with fail
      go_loopg [6, 17] L (fun G s6 s17 wy => Below w.heap.size w wy ∧ ∃ j : Nat, j + G = L ∧ s17 = .int .i64 (j : Int) ∧ s6 = .float .f64 (sumP (X r) j))
      case atStart => exact ⟨HB, 0, by omega, rfl, rfl⟩
      case round =>
        clear HB y0
        obtain ⟨HB, j, hj, rfl, rfl⟩ := hrel
        by_cases cj : j = L
        · subst cj
          have hm : ∀ ts t w, (Builtin.max_ ts t #[.float .f64 M, .float .f64 (sumP (X r) j)]).run Try.prog w = .ok (.float .f64 (maxW M (sumP (X r) j))) w := fun ts t w => max_f (Am.lt ma) (Am.lt sa) (Am.num ma) (Am.num sa) _ ts t w
          have nx' : Hid (normP RL X (r + 1) = maxW M (sumP (X r) j)) := (show normP RL X (r + 1) = _ from nx).trans (maxW_am ma sa).symm
          clear nx
          go_wp2_with fail
          go_roundg (N - r - 1)
          case measure => omega
          case rel => exact ⟨HB, r + 1, by omega, by go_num, by rw [show normP RL X (r + 1) = _ from nx']⟩
        · have hltj : (j : Int) < (L : Int) := by omega
          obtain ⟨b2, o2, hA2, hb2, z0, z1, k0, k1⟩ := (I.keep HB) j (by omega)
          have cm := fun w => mag_w (X r j).1 (X r j).2 k0 k1 w
          have ca := fun w => sumadd_w (X r) j w
          subst hA2
          go_wp2_with (first
            | (go_at_call 61; refine (cm _).mono ?_; rintro _ w1 ⟨rfl, hb1⟩; replace HB := later (below_alloc HB _) hb1)
            | (go_at_call 60; refine (ca _).mono ?_; rintro _ w2 ⟨rfl, hb2⟩; replace HB := later HB hb2))
          go_roundg (L - j - 1)
          case measure => omega
          case rel => exact ⟨HB, j + 1, by omega, by go_num, rfl⟩

set_option maxHeartbeats 2000000 in
theorem Norm_w (A : Option Addr) (N C : Nat) (RA : Nat → Option Addr) (RL RC : Nat → Nat) (X : Nat → Nat → Nat × Nat) (hN : N ≤ 9223372036854775807) (w : World) (V : Rws w A N RA RL RC X) :
    Calls Try.prog 18 #[.slice A N C] w fun e w' => e = .returned (.tuple #[.float .f64 (if matB N RL X then normP RL X N else 0), .int .i64 (if matB N RL X then 0 else 1)]) ∧ Below w.heap.size w w' := by
  have c := matMay_w A N C RA RL RC X hN w V
  have d := fun w2 (hb : Below w.heap.size w w2) => norm_w A N C RA RL RC X hN w2 (V.keep hb)
  generalize normP RL X N = v at *
  generalize matB N RL X = b at *
  cases b
  · rw [if_neg (by simp), if_neg (by simp)]
    go_enter Try.func18, Try.ntmps18
    go_wp2_with (go_at_call 37; refine c.mono ?_; rintro _ w1 ⟨rfl, hb1⟩)
    go_returns
    exact ⟨rfl, hb1⟩
  · rw [if_pos rfl, if_pos rfl]
    go_enter Try.func18, Try.ntmps18
    go_wp2_with (first
      | (go_at_call 37; refine c.mono ?_; rintro _ w1 ⟨rfl, hb1⟩)
      | (go_at_call 39; refine (d _ hb1).mono ?_; rintro _ w2 ⟨rfl, hb2⟩; have HB := later hb1 hb2))
    go_returns
    exact ⟨rfl, HB⟩

theorem rfs_words {w : World} {A : Option Addr} {N : Nat} {RA : Nat → Option Addr} {RL RC : Nat → Nat} {X : Nat → Nat → Nat} (V : Rfs w A N RA RL RC X) {r c : Nat} (hr : r < N) (hc : c < RL r) : X r c < 18446744073709551616 := by
  obtain ⟨_, _, _, _, _, _, I⟩ := V r hr
  obtain ⟨_, _, _, _, _, q⟩ := I c hc
  exact q

theorem Points_any (A : Option Addr) (N C : Nat) (RA : Nat → Option Addr) (RL RC : Nat → Nat) (X : Nat → Nat → Nat) (hN : N ≤ 9223372036854775807) (w : World) (V : Rfs w A N RA RL RC X) :
    Calls Try.prog 21 #[.slice A N C] w fun e w' => ∃ B D SA SC, e = .returned (.slice B (if fltB N RL X then N else 0) D) ∧ Rws w' B (if fltB N RL X then N else 0) SA (fun _ => RL 0) SC (ptsP X) ∧ Below w.heap.size w w' := by
  cases h : fltB N RL X
  · exact (Points_bad A N C RA RL RC X hN h w V).mono fun e w' ⟨he, hb⟩ => ⟨none, 0, fun _ => none, fun _ => 0, he, fun r hr => absurd hr (by simp), hb⟩
  · obtain ⟨-, -, hR, -, m2⟩ := fltB_parts h
    exact (Points_good A N C RA RL RC X hN h w V).mono fun e w' ⟨g, k, he, G, hb⟩ => ⟨_, _, _, _, he, G.rws (by omega) fun r hr c hc => makeP_lt (rfs_words V hr (by rw [hR r hr]; exact hc)) (rfs_words V hr (by rw [hR r hr]; exact hc)), hb⟩

theorem rPoints_any (A : Option Addr) (N C : Nat) (RA : Nat → Option Addr) (RL RC : Nat → Nat) (X : Nat → Nat → Nat) (hN : N ≤ 9223372036854775807) (w : World) (V : Rfs w A N RA RL RC X) :
    Calls Try.prog 22 #[.slice A N C] w fun e w' => ∃ B D SA SC, e = .returned (.slice B (if fltB N RL X then N else 0) D) ∧ Rws w' B (if fltB N RL X then N else 0) SA (fun _ => RL 0) SC (ptsP X) ∧ Below w.heap.size w w' := by
  cases h : fltB N RL X
  · exact (rPoints_bad A N C RA RL RC X hN h w V).mono fun e w' ⟨B, D, he, hb⟩ => ⟨B, D, fun _ => none, fun _ => 0, he, fun r hr => absurd hr (by simp), hb⟩
  · obtain ⟨-, -, hR, -, m2⟩ := fltB_parts h
    refine (rPoints_good A N C RA RL RC X hN h w V).mono fun e w' ⟨v, vs, he, hO, hG, hb⟩ => ?_
    obtain ⟨B, D, SA, SC, e1, J⟩ := hG.rws hO (by omega) fun r hr c hc => makeP_lt (rfs_words V hr (by rw [hR r hr]; exact hc)) (rfs_words V hr (by rw [hR r hr]; exact hc))
    exact ⟨B, D, SA, SC, by rw [he, e1]; rfl, J, hb⟩

theorem oneP_lt (r c : Nat) : (oneP r c).1 < 18446744073709551616 ∧ (oneP r c).2 < 18446744073709551616 := by
  unfold oneP
  split
  · exact makeP_lt (by omega) (by omega)
  · exact ⟨by simp, by simp⟩

theorem One_rws (n : Nat) (h1 : 1 ≤ n) (h2 : n ≤ 24) (w : World) : Calls Try.prog 20 #[.int .i64 (n : Int)] w fun e w' => ∃ B D SA SC, e = .returned (.slice B n D) ∧ Rws w' B n SA (fun _ => n) SC oneP ∧ Below w.heap.size w w' :=
  (One_good n h1 h2 w).mono fun e w' ⟨g, k, he, G, hb⟩ => ⟨_, _, _, _, he, G.rws (by omega) fun r _ c _ => oneP_lt r c, hb⟩

theorem rOne_rws (n : Nat) (h2 : n ≤ 24) (w : World) : Calls Try.prog 23 #[.int .i64 (n : Int)] w fun e w' => ∃ B D SA SC, e = .returned (.slice B n D) ∧ Rws w' B n SA (fun _ => n) SC oneP ∧ Below w.heap.size w w' := by
  refine (rOne_w n h2 w).mono fun e w' ⟨v, vs, he, hO, hG, hb⟩ => ?_
  obtain ⟨B, D, SA, SC, e1, J⟩ := hG.rws hO (by omega) fun r _ c _ => oneP_lt r c
  exact ⟨B, D, SA, SC, by rw [he, e1], J, hb⟩

set_option maxHeartbeats 4000000 in
theorem linNorms_ff (A B : Option Addr) (N C M D : Nat) (RA SA : Nat → Option Addr) (RL RC SL SC : Nat → Nat) (X : Nat → Nat → Nat × Nat) (Y : Nat → Nat → Nat) (z : Int) (hN : N ≤ 9223372036854775807) (hM : M ≤ 9223372036854775807) (hz : z < 1 ∨ 24 < z) (w : World)
    (UA : Rws w A N RA RL RC X) (UB : Rfs w B M SA SL SC Y) (hm : matB N RL X = false) :
    Calls Try.prog 4 #[.slice A N C, .slice B M D, .int .i64 z] w fun e w' => e = .returned (.bool true) ∧ Below w.heap.size w w' := by
  have cN := fun w2 (hb : Below w.heap.size w w2) => Norm_w A N C RA RL RC X hN w2 (UA.keep hb)
  have cM := fun w2 (hb : Below w.heap.size w w2) => rmat_w A N C RA RL RC X hN w2 (UA.keep hb)
  have cP := fun w2 (hb : Below w.heap.size w w2) => Points_any B M D SA SL SC Y hM w2 (UB.keep hb)
  have cRP := fun w2 (hb : Below w.heap.size w w2) => rPoints_any B M D SA SL SC Y hM w2 (UB.keep hb)
  have hK : (if fltB M SL Y then M else 0) ≤ 9223372036854775807 := by split <;> omega
  generalize (if fltB M SL Y then M else 0) = K at *
  simp only [hm, Bool.false_eq_true, if_false] at cN cM
  clear hm
  have oo : (FloatKind.f64.format.order 0 0 == some .eq) = true := by decide
  have cO := fun w => One_bad z hz w
  have HB : Below w.heap.size w w := Below.refl _ _
  by_cases q : z < 1
  · clear hz
    go_enter Try.func4, Try.ntmps4
    go_wp2_with (first
      | (go_at_call 18; refine (cN _ HB).mono ?_; rintro _ w1 ⟨rfl, hb1⟩; replace HB := later HB hb1; clear hb1)
      | (go_at_call 12; refine (cM _ HB).mono ?_; rintro _ w2 ⟨rfl, hb1⟩; replace HB := later HB hb1; clear hb1)
      | (go_at_call 20; refine (cO _).mono ?_; rintro _ _ ⟨rfl, rfl⟩)
      | (go_at_call 21; refine (cP _ HB).mono ?_; rintro _ w7 ⟨P1, P2, P3, P4, rfl, JP, hb1⟩; replace HB := later HB hb1; clear hb1)
      | (go_at_call 22; refine (cRP _ HB).mono ?_; rintro _ w8 ⟨S1, S2, S3, S4, rfl, JS, hb1⟩; replace HB := later HB hb1; replace JP := JP.keep hb1; clear hb1)
      | (go_at_call 16; refine (rsameA_w _ _ _ _ _ _ _ _ _ _ _ (ptsP Y) (ptsP Y) hK (fun _ _ => rfl) (fun _ _ _ _ => rfl) _ JP JS).mono ?_; rintro _ w9 ⟨rfl, hb1⟩; replace HB := later HB hb1; clear hb1))
    go_ret
    exact ⟨rfl, HB⟩
  · have q2 : 24 < z := by omega
    clear hz
    go_enter Try.func4, Try.ntmps4
    go_wp2_with (first
      | (go_at_call 18; refine (cN _ HB).mono ?_; rintro _ w1 ⟨rfl, hb1⟩; replace HB := later HB hb1; clear hb1)
      | (go_at_call 12; refine (cM _ HB).mono ?_; rintro _ w2 ⟨rfl, hb1⟩; replace HB := later HB hb1; clear hb1)
      | (go_at_call 20; refine (cO _).mono ?_; rintro _ _ ⟨rfl, rfl⟩)
      | (go_at_call 21; refine (cP _ HB).mono ?_; rintro _ w7 ⟨P1, P2, P3, P4, rfl, JP, hb1⟩; replace HB := later HB hb1; clear hb1)
      | (go_at_call 22; refine (cRP _ HB).mono ?_; rintro _ w8 ⟨S1, S2, S3, S4, rfl, JS, hb1⟩; replace HB := later HB hb1; replace JP := JP.keep hb1; clear hb1)
      | (go_at_call 16; refine (rsameA_w _ _ _ _ _ _ _ _ _ _ _ (ptsP Y) (ptsP Y) hK (fun _ _ => rfl) (fun _ _ _ _ => rfl) _ JP JS).mono ?_; rintro _ w9 ⟨rfl, hb1⟩; replace HB := later HB hb1; clear hb1))
    go_ret
    exact ⟨rfl, HB⟩

set_option maxHeartbeats 4000000 in
theorem linNorms_tf (A B : Option Addr) (N C M D : Nat) (RA SA : Nat → Option Addr) (RL RC SL SC : Nat → Nat) (X : Nat → Nat → Nat × Nat) (Y : Nat → Nat → Nat) (z : Int) (hN : N ≤ 9223372036854775807) (hM : M ≤ 9223372036854775807) (hz : z < 1 ∨ 24 < z) (w : World)
    (UA : Rws w A N RA RL RC X) (UB : Rfs w B M SA SL SC Y) (hm : matB N RL X = true) :
    Calls Try.prog 4 #[.slice A N C, .slice B M D, .int .i64 z] w fun e w' => e = .returned (.bool true) ∧ Below w.heap.size w w' := by
  have cN := fun w2 (hb : Below w.heap.size w w2) => Norm_w A N C RA RL RC X hN w2 (UA.keep hb)
  have cM := fun w2 (hb : Below w.heap.size w w2) => rmat_w A N C RA RL RC X hN w2 (UA.keep hb)
  have cR := fun w2 (hb : Below w.heap.size w w2) => rnorm_w A N C RA RL RC X hN w2 (UA.keep hb)
  have cP := fun w2 (hb : Below w.heap.size w w2) => Points_any B M D SA SL SC Y hM w2 (UB.keep hb)
  have cRP := fun w2 (hb : Below w.heap.size w w2) => rPoints_any B M D SA SL SC Y hM w2 (UB.keep hb)
  have hK : (if fltB M SL Y then M else 0) ≤ 9223372036854775807 := by split <;> omega
  generalize (if fltB M SL Y then M else 0) = K at *
  simp only [hm, if_true] at cN cM
  clear hm
  have oo : (FloatKind.f64.format.order (normP RL X N) (normP RL X N) == some .eq) = true := by
    rw [o_eq (norm_am RL X N).lt (norm_am RL X N).lt]
    unfold eqB
    rw [(norm_am RL X N).num]
    simp
  generalize normP RL X N = v at *
  have oo2 : (FloatKind.f64.format.order v v != some .eq) = false := by unfold bne; rw [oo]; rfl
  clear oo
  have cO := fun w => One_bad z hz w
  have HB : Below w.heap.size w w := Below.refl _ _
  by_cases q : z < 1
  · clear hz
    go_enter Try.func4, Try.ntmps4
    go_wp2_with (first
      | (go_at_call 18; refine (cN _ HB).mono ?_; rintro _ w1 ⟨rfl, hb1⟩; replace HB := later HB hb1; clear hb1)
      | (go_at_call 12; refine (cM _ HB).mono ?_; rintro _ w2 ⟨rfl, hb1⟩; replace HB := later HB hb1; clear hb1)
      | (go_at_call 19; refine (cR _ HB).mono ?_; rintro _ w3 ⟨rfl, hb1⟩; replace HB := later HB hb1; clear hb1)
      | (go_at_call 20; refine (cO _).mono ?_; rintro _ _ ⟨rfl, rfl⟩)
      | (go_at_call 21; refine (cP _ HB).mono ?_; rintro _ w7 ⟨P1, P2, P3, P4, rfl, JP, hb1⟩; replace HB := later HB hb1; clear hb1)
      | (go_at_call 22; refine (cRP _ HB).mono ?_; rintro _ w8 ⟨S1, S2, S3, S4, rfl, JS, hb1⟩; replace HB := later HB hb1; replace JP := JP.keep hb1; clear hb1)
      | (go_at_call 16; refine (rsameA_w _ _ _ _ _ _ _ _ _ _ _ (ptsP Y) (ptsP Y) hK (fun _ _ => rfl) (fun _ _ _ _ => rfl) _ JP JS).mono ?_; rintro _ w9 ⟨rfl, hb1⟩; replace HB := later HB hb1; clear hb1))
    go_ret
    exact ⟨rfl, HB⟩
  · have q2 : 24 < z := by omega
    clear hz
    go_enter Try.func4, Try.ntmps4
    go_wp2_with (first
      | (go_at_call 18; refine (cN _ HB).mono ?_; rintro _ w1 ⟨rfl, hb1⟩; replace HB := later HB hb1; clear hb1)
      | (go_at_call 12; refine (cM _ HB).mono ?_; rintro _ w2 ⟨rfl, hb1⟩; replace HB := later HB hb1; clear hb1)
      | (go_at_call 19; refine (cR _ HB).mono ?_; rintro _ w3 ⟨rfl, hb1⟩; replace HB := later HB hb1; clear hb1)
      | (go_at_call 20; refine (cO _).mono ?_; rintro _ _ ⟨rfl, rfl⟩)
      | (go_at_call 21; refine (cP _ HB).mono ?_; rintro _ w7 ⟨P1, P2, P3, P4, rfl, JP, hb1⟩; replace HB := later HB hb1; clear hb1)
      | (go_at_call 22; refine (cRP _ HB).mono ?_; rintro _ w8 ⟨S1, S2, S3, S4, rfl, JS, hb1⟩; replace HB := later HB hb1; replace JP := JP.keep hb1; clear hb1)
      | (go_at_call 16; refine (rsameA_w _ _ _ _ _ _ _ _ _ _ _ (ptsP Y) (ptsP Y) hK (fun _ _ => rfl) (fun _ _ _ _ => rfl) _ JP JS).mono ?_; rintro _ w9 ⟨rfl, hb1⟩; replace HB := later HB hb1; clear hb1))
    go_ret
    exact ⟨rfl, HB⟩

set_option maxHeartbeats 4000000 in
theorem linNorms_ft (A B : Option Addr) (N C M D : Nat) (RA SA : Nat → Option Addr) (RL RC SL SC : Nat → Nat) (X : Nat → Nat → Nat × Nat) (Y : Nat → Nat → Nat) (z : Nat) (hN : N ≤ 9223372036854775807) (hM : M ≤ 9223372036854775807) (h1 : 1 ≤ z) (h2 : z ≤ 24) (w : World)
    (UA : Rws w A N RA RL RC X) (UB : Rfs w B M SA SL SC Y) (hm : matB N RL X = false) :
    Calls Try.prog 4 #[.slice A N C, .slice B M D, .int .i64 (z : Int)] w fun e w' => e = .returned (.bool true) ∧ Below w.heap.size w w' := by
  have cN := fun w2 (hb : Below w.heap.size w w2) => Norm_w A N C RA RL RC X hN w2 (UA.keep hb)
  have cM := fun w2 (hb : Below w.heap.size w w2) => rmat_w A N C RA RL RC X hN w2 (UA.keep hb)
  have cP := fun w2 (hb : Below w.heap.size w w2) => Points_any B M D SA SL SC Y hM w2 (UB.keep hb)
  have cRP := fun w2 (hb : Below w.heap.size w w2) => rPoints_any B M D SA SL SC Y hM w2 (UB.keep hb)
  have hK : (if fltB M SL Y then M else 0) ≤ 9223372036854775807 := by split <;> omega
  generalize (if fltB M SL Y then M else 0) = K at *
  simp only [hm, Bool.false_eq_true, if_false] at cN cM
  clear hm
  have oo : (FloatKind.f64.format.order 0 0 == some .eq) = true := by decide
  have cO := fun w => One_rws z h1 h2 w
  have cRO := fun w => rOne_rws z h2 w
  have hz : z ≤ 9223372036854775807 := by omega
  have e1 : ¬ (z : Int) < 1 := by omega
  have e2 : ¬ (24 : Int) < (z : Int) := by omega
  have HB : Below w.heap.size w w := Below.refl _ _
  go_enter Try.func4, Try.ntmps4
  go_wp2_with (first
    | (go_at_call 18; refine (cN _ HB).mono ?_; rintro _ w1 ⟨rfl, hb1⟩; replace HB := later HB hb1; clear hb1)
    | (go_at_call 12; refine (cM _ HB).mono ?_; rintro _ w2 ⟨rfl, hb1⟩; replace HB := later HB hb1; clear hb1)
    | (go_at_call 20; refine (cO _).mono ?_; rintro _ w4 ⟨O1, O2, O3, O4, rfl, JO, hb1⟩; replace HB := later HB hb1; clear hb1)
    | (go_at_call 23; refine (cRO _).mono ?_; rintro _ w5 ⟨Q1, Q2, Q3, Q4, rfl, JQ, hb1⟩; replace HB := later HB hb1; replace JO := JO.keep hb1; clear hb1)
    | (go_at_call_of 16 (Value.slice O1 z O2); refine (rsameA_w _ _ _ _ _ _ _ _ _ _ _ oneP oneP hz (fun _ _ => rfl) (fun _ _ _ _ => rfl) _ JO JQ).mono ?_; rintro _ w6 ⟨rfl, hb1⟩; replace HB := later HB hb1; clear hb1)
    | (go_at_call 21; refine (cP _ HB).mono ?_; rintro _ w7 ⟨P1, P2, P3, P4, rfl, JP, hb1⟩; replace HB := later HB hb1; clear hb1)
    | (go_at_call 22; refine (cRP _ HB).mono ?_; rintro _ w8 ⟨S1, S2, S3, S4, rfl, JS, hb1⟩; replace HB := later HB hb1; replace JP := JP.keep hb1; clear hb1)
    | (go_at_call 16; refine (rsameA_w _ _ _ _ _ _ _ _ _ _ _ (ptsP Y) (ptsP Y) hK (fun _ _ => rfl) (fun _ _ _ _ => rfl) _ JP JS).mono ?_; rintro _ w9 ⟨rfl, hb1⟩; replace HB := later HB hb1; clear hb1))
  go_ret
  exact ⟨rfl, HB⟩

set_option maxHeartbeats 4000000 in
theorem linNorms_tt (A B : Option Addr) (N C M D : Nat) (RA SA : Nat → Option Addr) (RL RC SL SC : Nat → Nat) (X : Nat → Nat → Nat × Nat) (Y : Nat → Nat → Nat) (z : Nat) (hN : N ≤ 9223372036854775807) (hM : M ≤ 9223372036854775807) (h1 : 1 ≤ z) (h2 : z ≤ 24) (w : World)
    (UA : Rws w A N RA RL RC X) (UB : Rfs w B M SA SL SC Y) (hm : matB N RL X = true) :
    Calls Try.prog 4 #[.slice A N C, .slice B M D, .int .i64 (z : Int)] w fun e w' => e = .returned (.bool true) ∧ Below w.heap.size w w' := by
  have cN := fun w2 (hb : Below w.heap.size w w2) => Norm_w A N C RA RL RC X hN w2 (UA.keep hb)
  have cM := fun w2 (hb : Below w.heap.size w w2) => rmat_w A N C RA RL RC X hN w2 (UA.keep hb)
  have cR := fun w2 (hb : Below w.heap.size w w2) => rnorm_w A N C RA RL RC X hN w2 (UA.keep hb)
  have cP := fun w2 (hb : Below w.heap.size w w2) => Points_any B M D SA SL SC Y hM w2 (UB.keep hb)
  have cRP := fun w2 (hb : Below w.heap.size w w2) => rPoints_any B M D SA SL SC Y hM w2 (UB.keep hb)
  have hK : (if fltB M SL Y then M else 0) ≤ 9223372036854775807 := by split <;> omega
  generalize (if fltB M SL Y then M else 0) = K at *
  simp only [hm, if_true] at cN cM
  clear hm
  have oo : (FloatKind.f64.format.order (normP RL X N) (normP RL X N) == some .eq) = true := by
    rw [o_eq (norm_am RL X N).lt (norm_am RL X N).lt]
    unfold eqB
    rw [(norm_am RL X N).num]
    simp
  generalize normP RL X N = v at *
  have oo2 : (FloatKind.f64.format.order v v != some .eq) = false := by unfold bne; rw [oo]; rfl
  clear oo
  have cO := fun w => One_rws z h1 h2 w
  have cRO := fun w => rOne_rws z h2 w
  have hz : z ≤ 9223372036854775807 := by omega
  have e1 : ¬ (z : Int) < 1 := by omega
  have e2 : ¬ (24 : Int) < (z : Int) := by omega
  have HB : Below w.heap.size w w := Below.refl _ _
  go_enter Try.func4, Try.ntmps4
  go_wp2_with (first
    | (go_at_call 18; refine (cN _ HB).mono ?_; rintro _ w1 ⟨rfl, hb1⟩; replace HB := later HB hb1; clear hb1)
    | (go_at_call 12; refine (cM _ HB).mono ?_; rintro _ w2 ⟨rfl, hb1⟩; replace HB := later HB hb1; clear hb1)
    | (go_at_call 19; refine (cR _ HB).mono ?_; rintro _ w3 ⟨rfl, hb1⟩; replace HB := later HB hb1; clear hb1)
    | (go_at_call 20; refine (cO _).mono ?_; rintro _ w4 ⟨O1, O2, O3, O4, rfl, JO, hb1⟩; replace HB := later HB hb1; clear hb1)
    | (go_at_call 23; refine (cRO _).mono ?_; rintro _ w5 ⟨Q1, Q2, Q3, Q4, rfl, JQ, hb1⟩; replace HB := later HB hb1; replace JO := JO.keep hb1; clear hb1)
    | (go_at_call_of 16 (Value.slice O1 z O2); refine (rsameA_w _ _ _ _ _ _ _ _ _ _ _ oneP oneP hz (fun _ _ => rfl) (fun _ _ _ _ => rfl) _ JO JQ).mono ?_; rintro _ w6 ⟨rfl, hb1⟩; replace HB := later HB hb1; clear hb1)
    | (go_at_call 21; refine (cP _ HB).mono ?_; rintro _ w7 ⟨P1, P2, P3, P4, rfl, JP, hb1⟩; replace HB := later HB hb1; clear hb1)
    | (go_at_call 22; refine (cRP _ HB).mono ?_; rintro _ w8 ⟨S1, S2, S3, S4, rfl, JS, hb1⟩; replace HB := later HB hb1; replace JP := JP.keep hb1; clear hb1)
    | (go_at_call 16; refine (rsameA_w _ _ _ _ _ _ _ _ _ _ _ (ptsP Y) (ptsP Y) hK (fun _ _ => rfl) (fun _ _ _ _ => rfl) _ JP JS).mono ?_; rintro _ w9 ⟨rfl, hb1⟩; replace HB := later HB hb1; clear hb1))
  go_ret
  exact ⟨rfl, HB⟩

end Go.Proofs.Ytddkojmdhckleaa
