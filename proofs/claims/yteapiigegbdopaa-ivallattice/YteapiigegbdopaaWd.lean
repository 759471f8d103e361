/- The walks of normal, roundAmount, Round and Split, by plain functions on numbers. -/
import Derived.Test.YteapiigegbdopaaWc
import Derived.Handy
import Derived.Deep.RegionWith
namespace Go.Proofs.Yteapiigegbdopaa
open Go.ChangeShapes Go.WideShapes Go.ChangeAt Go.RowKit

/-- What a callee lays lies behind what its caller had laid. -/
theorem later {w W0 w1 : World} (h0 : Below w.heap.size w W0) (h : Below W0.heap.size W0 w1) : Below w.heap.size w w1 := h0.trans (h.mono h0.size)

def shiftN (m : Nat) : Nat := 63 - m.log2
def topN (m : Nat) : Nat := m * 2 ^ shiftN m
def dropN (e : Int) : Nat := (max 11 (-1074 - e)).toNat
def rungN (m : Nat) (e s : Int) : Nat :=
  if 971 < e + dropN e then boundN s else (e + dropN e + 1074).toNat * 4503599627370496 + keptN m (dropN e) + (goesN (keptN m (dropN e)) (restN m (dropN e)) s).toNat
def clampN (e : Int) : Int := min (max e (-4096)) 4096
def signN (g : Bool) (b : Nat) : Nat := if g then (if b = 0 then 0 else b + 9223372036854775808) else b
def roundN (g : Bool) (m : Nat) (e dir : Int) : Nat := if m = 0 then 0 else signN g (rungN (topN m) (clampN e - shiftN m) (sideN dir g))

theorem topN_bounds {m : Nat} (h0 : m ≠ 0) (h : m < 18446744073709551616) : 9223372036854775808 ≤ topN m ∧ topN m < 18446744073709551616 := by
  have hl : m.log2 < 64 := (Nat.log2_lt h0).2 h
  have a := Nat.log2_self_le h0
  have b := @Nat.lt_log2_self m
  unfold topN shiftN
  have e1 : 2 ^ m.log2 * 2 ^ (63 - m.log2) = 2 ^ 63 := by rw [← Nat.pow_add]; congr 1; omega
  have e2 : 2 ^ (m.log2 + 1) * 2 ^ (63 - m.log2) = 2 ^ 64 := by rw [← Nat.pow_add]; congr 1; omega
  have c1 := Nat.mul_le_mul_right (2 ^ (63 - m.log2)) a
  have c2 := Nat.mul_lt_mul_of_pos_right b (Nat.two_pow_pos (63 - m.log2))
  rw [e1] at c1
  rw [e2] at c2
  exact ⟨c1, c2⟩

theorem normal_core (g : Bool) (m l k : Nat) (e : Int) (hl : l ≤ 63) (he1 : -1000000 ≤ e) (he2 : e ≤ 1000000) (hlz : ∀ w, Calls Try.prog 92 #[.int .u64 m] w fun e w' => e = .returned (.int .i64 (l : Int)) ∧ w = w')
    (hk : IntKind.u64.wrap ((m : Int) * 2 ^ l) = (k : Int)) (w : World) :
    Calls Try.prog 76 #[.agg #[.bool g, .int .u64 m, .int .i64 e]] w fun r w' => r = .returned (.agg #[.bool g, .int .u64 k, .int .i64 (e - l)]) ∧ Below w.heap.size w w' := by
  go_enter Try.func76, Try.ntmps76
  go_wp2_with (go_at_call 92; refine (hlz _).mono ?_; rintro _ _ ⟨rfl, rfl⟩)
  all_goals (go_returns; exact ⟨rfl, by go_grown⟩)

theorem normal_w (g : Bool) (m : Nat) (e : Int) (h0 : m ≠ 0) (h : m < 18446744073709551616) (he1 : -1000000 ≤ e) (he2 : e ≤ 1000000) (w : World) :
    Calls Try.prog 76 #[.agg #[.bool g, .int .u64 m, .int .i64 e]] w fun r w' => r = .returned (.agg #[.bool g, .int .u64 (topN m), .int .i64 (e - shiftN m)]) ∧ Below w.heap.size w w' := by
  refine normal_core g m (shiftN m) (topN m) e (by unfold shiftN; omega) he1 he2 (fun w => lz_w m h0 h w) ?_ w
  have hb := topN_bounds h0 h
  have e1 : (m : Int) * 2 ^ shiftN m = ((topN m : Nat) : Int) := by unfold topN; simp
  rw [e1, IntKind.wrap_u64]; omega

theorem roundAmount_core (g : Bool) (m d k r : Nat) (e s : Int) (o : Bool) (he1 : -10000 ≤ e) (he2 : e ≤ 10000) (hd : max 11 (-1074 - e) = (d : Int)) (h971 : e + (d : Int) ≤ 971) (hd2 : -1074 ≤ e + (d : Int))
    (hcut : ∀ w, Calls Try.prog 90 #[.int .u64 m, .int .i64 d] w fun e w' => e = .returned (.tuple #[.int .u64 k, .int .u64 r]) ∧ Below w.heap.size w w')
    (hgo : ∀ w, Calls Try.prog 91 #[.int .u64 k, .int .u64 r, .int .i64 s] w fun e w' => e = .returned (.bool o) ∧ w = w')
    (hk : k ≤ 9007199254740992) (w : World) :
    Calls Try.prog 75 #[.agg #[.bool g, .int .u64 m, .int .i64 e], .int .i64 s] w fun r w' => r = .returned (.int .u64 ((e + d + 1074) * 4503599627370496 + (k + (if o then 1 else 0)))) ∧ Below w.heap.size w w' := by
  cases o
  all_goals
    go_enter Try.func75, Try.ntmps75
    go_wp2_with (first | (go_at_call 90; refine (hcut _).mono ?_; rintro _ w1 ⟨rfl, hb⟩) | (go_at_call 91; refine (hgo _).mono ?_; rintro _ _ ⟨rfl, rfl⟩))
    all_goals (go_ret; refine ⟨rfl, later ?_ hb⟩; go_grown)

theorem roundAmount_far (g : Bool) (m : Nat) (e s : Int) (he1 : -10000 ≤ e) (he2 : e ≤ 10000) (h971 : 971 < e + max 11 (-1074 - e)) (w : World) :
    Calls Try.prog 75 #[.agg #[.bool g, .int .u64 m, .int .i64 e], .int .i64 s] w fun r w' => r = .returned (.int .u64 (boundN s)) ∧ Below w.heap.size w w' := by
  go_enter Try.func75, Try.ntmps75
  go_wp2_with (first | (go_at_call 89; refine (boundOf_w s _).mono ?_; rintro _ _ ⟨rfl, rfl⟩))
  all_goals (go_ret; refine ⟨rfl, ?_⟩; go_grown)

theorem keptN_le {m d : Nat} (hm : m < 18446744073709551616) (hd : 11 ≤ d) : keptN m d ≤ 9007199254740992 := by
  unfold keptN
  split
  · omega
  · have h1 : m / 2 ^ d ≤ m / 2 ^ 11 := Nat.div_le_div_left (Nat.pow_le_pow_right (by omega) hd) (Nat.two_pow_pos _)
    have h2 : m / 2 ^ 11 < 2 ^ 53 := Nat.div_lt_of_lt_mul (by rw [← Nat.pow_add]; exact hm)
    omega

theorem roundAmount_w (g : Bool) (m : Nat) (e s : Int) (hm : m < 18446744073709551616) (he1 : -10000 ≤ e) (he2 : e ≤ 10000) (w : World) :
    Calls Try.prog 75 #[.agg #[.bool g, .int .u64 m, .int .i64 e], .int .i64 s] w fun r w' => r = .returned (.int .u64 (rungN m e s)) ∧ Below w.heap.size w w' := by
  have hd : max 11 (-1074 - e) = ((dropN e : Nat) : Int) := by unfold dropN; omega
  have hd11 : 11 ≤ dropN e := by unfold dropN; omega
  unfold rungN
  by_cases h : 971 < e + (dropN e : Int)
  · rw [if_pos h]
    exact roundAmount_far g m e s he1 he2 (by rw [hd]; exact h) w
  · rw [if_neg h]
    have hk := keptN_le (d := dropN e) hm hd11
    have hk2 : keptN m (dropN e) < 18446744073709551616 := by omega
    have hc := roundAmount_core g m (dropN e) (keptN m (dropN e)) (restN m (dropN e)) e s (goesN (keptN m (dropN e)) (restN m (dropN e)) s) he1 he2 hd (by omega) (by omega) (fun w => cut_w m (dropN e) w) (fun w => goesOut_w _ _ s hk2 w) hk w
    have e1 : (((e + (dropN e : Int) + 1074).toNat * 4503599627370496 + keptN m (dropN e) + (goesN (keptN m (dropN e)) (restN m (dropN e)) s).toNat : Nat) : Int) = (e + (dropN e : Int) + 1074) * 4503599627370496 + ((keptN m (dropN e) : Int) + (if goesN (keptN m (dropN e)) (restN m (dropN e)) s then 1 else 0)) := by
      cases goesN (keptN m (dropN e)) (restN m (dropN e)) s <;> simp <;> omega
    rw [e1]
    exact hc

theorem rungN_lt {m : Nat} {e s : Int} (hm : m < 18446744073709551616) : rungN m e s < 9223372036854775808 := by
  unfold rungN
  have hd11 : 11 ≤ dropN e := by unfold dropN; omega
  have hk := keptN_le (d := dropN e) hm hd11
  split
  · unfold boundN; split <;> omega
  · cases goesN (keptN m (dropN e)) (restN m (dropN e)) s <;> simp <;> omega

theorem round_zero (g : Bool) (e dir : Int) (w : World) :
    Calls Try.prog 48 #[.agg #[.bool g, .int .u64 0, .int .i64 e], .int .i64 dir] w fun r w' => r = .returned (.float .f64 0) ∧ Below w.heap.size w w' := by
  go_enter Try.func48, Try.ntmps48
  go_wp2_with fail
  all_goals (go_ret; refine ⟨rfl, ?_⟩; go_grown)

set_option maxHeartbeats 2000000 in
theorem round_core (g : Bool) (m m' b b' r : Nat) (e e0 e' dir s : Int) (hm : ((m : Int) == 0) = false) (he : min (max e (-4096)) 4096 = e0) (w : World)
    (hn : ∀ w, Calls Try.prog 76 #[.agg #[.bool g, .int .u64 m, .int .i64 e0]] w fun r w' => r = .returned (.agg #[.bool g, .int .u64 m', .int .i64 e']) ∧ Below w.heap.size w w')
    (ha : ∀ w, Calls Try.prog 75 #[.agg #[.bool g, .int .u64 m', .int .i64 e'], .int .i64 s] w fun r w' => r = .returned (.int .u64 b) ∧ Below w.heap.size w w')
    (hs : ∀ w, Calls Try.prog 77 #[.int .i64 dir, .bool g] w fun e w' => e = .returned (.int .i64 s) ∧ w = w')
    (hor : g = true → bits BinOp.or IntKind.u64 (b : Int) 9223372036854775808 = (b' : Int)) (hnot : g = false → b' = b)
    (hz : ∀ w, Calls Try.prog 78 #[.int .u64 b'] w fun e w' => e = .returned (.float .f64 r) ∧ w = w') :
    Calls Try.prog 48 #[.agg #[.bool g, .int .u64 m, .int .i64 e], .int .i64 dir] w fun x w' => x = .returned (.float .f64 r) ∧ Below w.heap.size w w' := by
  cases g
  · obtain rfl := hnot rfl
    clear hor hnot
    go_enter Try.func48, Try.ntmps48
    go_wp2_with fail
    go_region_with (first | (go_at_call 76; refine (hn _).mono ?_; rintro _ w1 ⟨rfl, hb⟩; have c0 : w1.cell? ⟨w.heap.size, 0, none⟩ = some (.bool false) := (hb.cell (by simp)).trans (by go_simp)) | (go_at_call 77; refine (hs _).mono ?_; rintro _ _ ⟨rfl, rfl⟩) | (go_at_call 75; refine (ha _).mono ?_; rintro _ w2 ⟨rfl, hb2⟩; have c2 : w2.cell? ⟨w.heap.size, 0, none⟩ = some (.bool false) := (hb2.cell (show w.heap.size < w1.heap.size by have := hb.size; simp at this; omega)).trans c0))
    all_goals
      go_wp2_with (go_at_call 78; refine (hz _).mono ?_; rintro _ _ ⟨rfl, rfl⟩)
      go_ret
      refine ⟨rfl, later (later ?_ hb) hb2⟩
      go_grown
  · have hor := hor rfl
    clear hnot
    go_enter Try.func48, Try.ntmps48
    go_wp2_with fail
    go_region_with (first | (go_at_call 76; refine (hn _).mono ?_; rintro _ w1 ⟨rfl, hb⟩; have c0 : w1.cell? ⟨w.heap.size, 0, none⟩ = some (.bool true) := (hb.cell (by simp)).trans (by go_simp)) | (go_at_call 77; refine (hs _).mono ?_; rintro _ _ ⟨rfl, rfl⟩) | (go_at_call 75; refine (ha _).mono ?_; rintro _ w2 ⟨rfl, hb2⟩; have c2 : w2.cell? ⟨w.heap.size, 0, none⟩ = some (.bool true) := (hb2.cell (show w.heap.size < w1.heap.size by have := hb.size; simp at this; omega)).trans c0))
    all_goals
      go_wp2_with (go_at_call 78; refine (hz _).mono ?_; rintro _ _ ⟨rfl, rfl⟩)
      go_ret
      refine ⟨rfl, later (later ?_ hb) hb2⟩
      go_grown

theorem or_sign {b : Nat} (hb : b < 9223372036854775808) : b ||| 9223372036854775808 = b + 9223372036854775808 := by
  have h := nat_join 63 9223372036854775808 b (by decide) hb
  rw [Nat.or_comm, h]; omega

theorem round_w (g : Bool) (m : Nat) (e dir : Int) (hm : m < 18446744073709551616) (w : World) :
    Calls Try.prog 48 #[.agg #[.bool g, .int .u64 m, .int .i64 e], .int .i64 dir] w fun x w' => x = .returned (.float .f64 (roundN g m e dir)) ∧ Below w.heap.size w w' := by
  by_cases h0 : m = 0
  · subst h0
    exact round_zero g e dir w
  · have hb := topN_bounds h0 hm
    have hsh : shiftN m ≤ 63 := by unfold shiftN; omega
    have he : min (max e (-4096)) 4096 = clampN e := rfl
    have hc : -4096 ≤ clampN e ∧ clampN e ≤ 4096 := by unfold clampN; omega
    have hr : rungN (topN m) (clampN e - shiftN m) (sideN dir g) < 9223372036854775808 := rungN_lt hb.2
    have hres : roundN g m e dir = (if (if g then rungN (topN m) (clampN e - shiftN m) (sideN dir g) + 9223372036854775808 else rungN (topN m) (clampN e - shiftN m) (sideN dir g)) = 9223372036854775808 then 0 else (if g then rungN (topN m) (clampN e - shiftN m) (sideN dir g) + 9223372036854775808 else rungN (topN m) (clampN e - shiftN m) (sideN dir g))) := by
      unfold roundN signN
      rw [if_neg h0]
      cases g
      · simp only [Bool.false_eq_true, if_false]
        rw [if_neg (by omega)]
      · simp only [if_true]
        by_cases hz : rungN (topN m) (clampN e - shiftN m) (sideN dir true) = 0
        · rw [if_pos hz, if_pos (by omega)]
        · rw [if_neg hz, if_neg (by omega)]
    rw [hres]
    refine round_core g m (topN m) (rungN (topN m) (clampN e - shiftN m) (sideN dir g)) _ _ e (clampN e) (clampN e - shiftN m) dir (sideN dir g) (by simp; omega) he w (fun w => normal_w g m (clampN e) h0 hm (by omega) (by omega) w)
      (fun w => roundAmount_w g (topN m) (clampN e - shiftN m) (sideN dir g) hb.2 (by omega) (by omega) w) (fun w => sideOf_w dir g w) ?_ ?_ (fun w => wos_w _ w)
    · rintro rfl
      rw [if_pos rfl, show (9223372036854775808 : Int) = ((9223372036854775808 : Nat) : Int) from rfl, u64_or_nat _ _ (by omega) (by decide), or_sign hr]
    · rintro rfl
      rfl

end Go.Proofs.Yteapiigegbdopaa
