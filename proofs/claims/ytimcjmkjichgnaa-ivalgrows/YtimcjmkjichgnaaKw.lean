/- Powers of intervals: what the program answers and what the reference does are the same, word for word. -/
import Derived.Test.YtimcjmkjichgnaaKh
import Derived.Test.YtimcjmkjichgnaaKj
namespace Go.Proofs.Ytimcjmkjichgnaa
open Go.ChangeShapes Go.WideShapes Go.ChangeAt Go.RowKit

theorem rpower_w (v : Nat) (d : Int) (hv : v < 18446744073709551616) (nv : nanB v = false) (k : Nat) : k ≤ 63 → ∀ (n : Int), n = (k : Int) + 1 → ∀ w, Calls Try.prog 99 #[.float .f64 v, .int .i64 n, .int .i64 d] w fun e w' => e = .returned (.float .f64 (powW v d k)) ∧ Below w.heap.size w w' := by
  induction k with
  | zero =>
    intro _ n hn w
    have : n = 1 := by omega
    subst this
    exact rpower_one v d w
  | succ k ih =>
    intro hk n hn w
    have f := pow_num d hv nv k
    exact rpower_step v (powW v d k) (powW v d (k + 1)) n d (by rw [beq_eq_false_iff_ne]; omega) (by omega) (by omega) (fun w => ih (by omega) (n - 1) (by omega) w) (fun w => rmulV_w (powW v d k) v d f.2 hv f.1 nv w) w

set_option maxHeartbeats 1000000 in
theorem power_w (v : Nat) (d : Int) (hv : v < 18446744073709551616) (nv : nanB v = false) (k : Nat) (hk : k ≤ 63) (n : Int) (hn : n = (k : Int) + 1) (w : World) : Calls Try.prog 106 #[.float .f64 v, .int .i64 n, .int .i64 d] w fun e w' => e = .returned (.float .f64 (powW v d k)) ∧ Below w.heap.size w w' := by
  have c := fun (i : Nat) (w : World) => mulV_w (powW v d i) v d (pow_num d hv nv i).2 hv (pow_num d hv nv i).1 nv w
  obtain ⟨P, hP⟩ : ∃ P : Nat → Nat, ∀ i, P i = powW v d i := ⟨_, fun _ => rfl⟩
  have hs : ∀ i, mulV (P i) v d = P (i + 1) := fun i => by rw [hP, hP]; rfl
  have h0 : P 0 = v := by rw [hP]; rfl
  rw [← hP k]
  simp only [← hP, hs] at c
  have hn1 : n - 1 = (k : Int) := by omega
  clear hP hs nv hn hv
  go_enter Try.func106, Try.ntmps106
  go_wp2_with fail
  go_loopg [7, 11] k (fun G s7 s11 wx => Below w.heap.size w wx ∧ ∃ i : Nat, i + G = k ∧ s7 = .float .f64 (P i) ∧ s11 = .int .i64 (i : Int))
  case atStart => exact ⟨Below.refl _ _, 0, by omega, by rw [h0], rfl⟩
  case round =>
    clear h0
    obtain ⟨HB, i, hi, rfl, rfl⟩ := hrel
    by_cases ci : i = k
    · subst ci
      go_wp2_with fail
      go_ret
      exact ⟨rfl, HB⟩
    · have hlt : (i : Int) < (k : Int) := by omega
      go_wp2_with (go_at_call 21; refine (c i _).mono ?_; rintro _ w1 ⟨rfl, hb1⟩)
      go_roundg (k - i - 1)
      case measure => omega
      case rel => exact ⟨later HB hb1, i + 1, by omega, rfl, by go_num⟩

/-- An odd power of an end, as the program and as the reference work it out. -/
def oddW (v : Nat) (k : Nat) (d : Int) : Nat := if ltB v 0 then negB (powW (negB v) (-d) k) else powW v d k
def rsignW (v : Nat) (k : Nat) (d : Int) : Nat := if ltB v 0 then zminus (powW (zminus v) (-d) k) else powW v d k

set_option maxHeartbeats 1000000 in
theorem odd_core (v nv p np q : Nat) (n d e : Int) (b : Bool) (o : (FloatKind.f64.format.order v 0 == some .lt) = b) (hd : -1 ≤ d ∧ d ≤ 1) (he : -d = e) (e1 : Op.negFloat .f64 v = nv) (e2 : Op.negFloat .f64 p = np)
    (c1 : b = true → ∀ w, Calls Try.prog 106 #[.float .f64 nv, .int .i64 n, .int .i64 e] w fun e w' => e = .returned (.float .f64 p) ∧ Below w.heap.size w w') (c2 : b = false → ∀ w, Calls Try.prog 106 #[.float .f64 v, .int .i64 n, .int .i64 d] w fun e w' => e = .returned (.float .f64 q) ∧ Below w.heap.size w w') (w : World) :
    Calls Try.prog 107 #[.float .f64 v, .int .i64 n, .int .i64 d] w fun e w' => e = .returned (.float .f64 (if b then np else q)) ∧ Below w.heap.size w w' := by
  cases b
  · replace c2 := c2 rfl
    clear c1
    go_enter Try.func107, Try.ntmps107
    go_wp2_with (go_at_call 106; refine (c2 _).mono ?_; rintro _ w1 ⟨rfl, hb1⟩)
    go_ret
    exact ⟨rfl, hb1⟩
  · replace c1 := c1 rfl
    clear c2
    go_enter Try.func107, Try.ntmps107
    go_wp2_with (go_at_call 106; refine (c1 _).mono ?_; rintro _ w1 ⟨rfl, hb1⟩)
    go_ret
    exact ⟨rfl, hb1⟩

set_option maxHeartbeats 1000000 in
theorem rsigned_core (v nv p np q : Nat) (n d e : Int) (b : Bool) (o : (FloatKind.f64.format.order v 0 == some .lt) = b) (hd : -1 ≤ d ∧ d ≤ 1) (he : 0 - d = e)
    (e1 : ∀ (t : TypeId) (w : World), (binOp .sub t (.float .f64 0) (.float .f64 v)).run Try.prog w = .ok (.float .f64 nv) w) (e2 : ∀ (t : TypeId) (w : World), (binOp .sub t (.float .f64 0) (.float .f64 p)).run Try.prog w = .ok (.float .f64 np) w)
    (c1 : b = true → ∀ w, Calls Try.prog 99 #[.float .f64 nv, .int .i64 n, .int .i64 e] w fun e w' => e = .returned (.float .f64 p) ∧ Below w.heap.size w w') (c2 : b = false → ∀ w, Calls Try.prog 99 #[.float .f64 v, .int .i64 n, .int .i64 d] w fun e w' => e = .returned (.float .f64 q) ∧ Below w.heap.size w w') (w : World) :
    Calls Try.prog 100 #[.float .f64 v, .int .i64 n, .int .i64 d] w fun e w' => e = .returned (.float .f64 (if b then np else q)) ∧ Below w.heap.size w w' := by
  cases b
  · replace c2 := c2 rfl
    clear c1 e1 e2
    go_enter Try.func100, Try.ntmps100
    go_wp2_with (go_at_call 99; refine (c2 _).mono ?_; rintro _ w1 ⟨rfl, hb1⟩)
    go_ret
    exact ⟨rfl, hb1⟩
  · replace c1 := c1 rfl
    clear c2
    go_enter Try.func100, Try.ntmps100
    go_wp2_with (go_at_call 99; refine (c1 _).mono ?_; rintro _ w1 ⟨rfl, hb1⟩)
    go_ret
    exact ⟨rfl, hb1⟩

theorem odd_w (v : Nat) (d : Int) (hd : d = -1 ∨ d = 1) (hv : v < 18446744073709551616) (nv : nanB v = false) (k : Nat) (hk : k ≤ 63) (n : Int) (hn : n = (k : Int) + 1) (w : World) : Calls Try.prog 107 #[.float .f64 v, .int .i64 n, .int .i64 d] w fun e w' => e = .returned (.float .f64 (oddW v k d)) ∧ Below w.heap.size w w' := by
  have nn : nanB (negB v) = false := by rw [nanB_negB hv]; exact nv
  have f := pow_num (-d) (negB_lt hv) nn k
  exact odd_core v (negB v) (powW (negB v) (-d) k) (negB (powW (negB v) (-d) k)) (powW v d k) n d (-d) _ (o_lt hv (by omega)) (by omega) rfl (negFloat_eq v hv) (negFloat_eq _ f.2)
    (fun _ w => power_w (negB v) (-d) (negB_lt hv) nn k hk n hn w) (fun _ w => power_w v d hv nv k hk n hn w) w

theorem rsigned_w (v : Nat) (d : Int) (hd : d = -1 ∨ d = 1) (hv : v < 18446744073709551616) (nv : nanB v = false) (k : Nat) (hk : k ≤ 63) (n : Int) (hn : n = (k : Int) + 1) (w : World) : Calls Try.prog 100 #[.float .f64 v, .int .i64 n, .int .i64 d] w fun e w' => e = .returned (.float .f64 (rsignW v k d)) ∧ Below w.heap.size w w' := by
  have nn : nanB (zminus v) = false := by rw [zminus_nan hv]; exact nv
  have f := pow_num (-d) (zminus_lt hv) nn k
  exact rsigned_core v (zminus v) (powW (zminus v) (-d) k) (zminus (powW (zminus v) (-d) k)) (powW v d k) n d (-d) _ (o_lt hv (by omega)) (by omega) (by omega) (zminus_run hv nv) (zminus_run f.2 f.1)
    (fun _ w => rpower_w (zminus v) (-d) (zminus_lt hv) nn k hk n hn w) (fun _ w => rpower_w v d hv nv k hk n hn w) w

theorem odd_facts {v : Nat} (hv : v < 18446744073709551616) (nv : nanB v = false) (k : Nat) (d : Int) : nanB (oddW v k d) = false ∧ oddW v k d < 18446744073709551616 ∧ nanB (rsignW v k d) = false ∧ rsignW v k d < 18446744073709551616 ∧ pz (rsignW v k d) = pz (oddW v k d) := by
  have nn : nanB (negB v) = false := by rw [nanB_negB hv]; exact nv
  have f := pow_num (-d) (negB_lt hv) nn k
  have g := pow_num d hv nv k
  unfold oddW rsignW
  rw [lt0 nv]
  by_cases c : key v < 0
  · rw [decide_eq_true c, if_pos rfl, if_pos rfl, zminus_is hv (by omega)]
    exact ⟨by rw [nanB_negB f.2]; exact f.1, negB_lt f.2, by rw [zminus_nan f.2]; exact f.1, zminus_lt f.2, pz_zminus f.2⟩
  · rw [decide_eq_false c, if_neg (by simp), if_neg (by simp)]
    exact ⟨g.1, g.2, g.1, g.2, rfl⟩

theorem odd_low {v : Nat} (hv : v < 18446744073709551616) (nv : nanB v = false) (k0 : key v < 9218868437227405312) (k : Nat) : key (oddW v k (-1)) ≤ 9218868437227405311 := by
  have nn : nanB (negB v) = false := by rw [nanB_negB hv]; exact nv
  unfold oddW
  rw [lt0 nv]
  by_cases c : key v < 0
  · rw [decide_eq_true c, if_pos rfl]
    have f := pow_num (-(-1)) (negB_lt hv) nn k
    have h := pow_nneg (-(-1)) (Or.inr rfl) (negB_lt hv) nn (by rw [key_negB hv]; omega) k
    rw [key_negB f.2]
    omega
  · rw [decide_eq_false c, if_neg (by simp)]
    exact pow_top hv nv (by omega) (by omega) k

theorem odd_high {v : Nat} (hv : v < 18446744073709551616) (nv : nanB v = false) (k0 : -9218868437227405312 < key v) (k : Nat) : -9218868437227405311 ≤ key (oddW v k 1) := by
  have nn : nanB (negB v) = false := by rw [nanB_negB hv]; exact nv
  unfold oddW
  rw [lt0 nv]
  by_cases c : key v < 0
  · rw [decide_eq_true c, if_pos rfl]
    have f := pow_num (-1) (negB_lt hv) nn k
    have h := pow_top (negB_lt hv) nn (by rw [key_negB hv]; omega) (by rw [key_negB hv]; omega) k
    rw [key_negB f.2]
    omega
  · rw [decide_eq_false c, if_neg (by simp)]
    have := pow_nneg 1 (Or.inr rfl) hv nv (by omega) k
    omega

def powO (lo hi k : Nat) : Nat × Nat := makeP (oddW lo k (-1)) (oddW hi k 1)
def powE (lo hi k : Nat) : Nat × Nat := (powW (migP lo hi) (-1) k, powW (magP lo hi) 1 k)

theorem rodd_is {lo hi : Nat} (hl : lo < 18446744073709551616) (hh : hi < 18446744073709551616) (S : Some2 lo hi) (k : Nat) : rendsP (rsignW lo k (-1)) (rsignW hi k 1) = powO lo hi k := by
  have f := odd_facts hl S.nl k (-1)
  have g := odd_facts hh S.nh k 1
  have a := odd_low hl S.nl S.lt k
  have b := odd_high hh S.nh S.gt k
  have ka : key (rsignW lo k (-1)) = key (oddW lo k (-1)) := by rw [← key_pz, f.2.2.2.2, key_pz]
  have kb : key (rsignW hi k 1) = key (oddW hi k 1) := by rw [← key_pz, g.2.2.2.2, key_pz]
  have k1 : key 9218868437227405311 = 9218868437227405311 := by decide
  have k2 : key 18442240474082181119 = -9218868437227405311 := by decide
  unfold rendsP powO
  rw [lt_is (by decide) f.2.2.1, lt_is g.2.2.1 (by decide), k1, k2, ka, kb, decide_eq_false (by omega), decide_eq_false (by omega), if_neg (by simp), if_neg (by simp)]
  unfold makeP
  rw [f.2.2.2.2, g.2.2.2.2]

end Go.Proofs.Ytimcjmkjichgnaa
