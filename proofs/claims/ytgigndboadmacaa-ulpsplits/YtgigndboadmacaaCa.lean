/- Parts of any exponent, rounded: the program's answer is the document's rounding of the exact number. The reference's Round: parts without the sign. The reference's Round: parts with the sign. The reference's Round is the program's; the walk of the statement UlpSplits. -/
import Derived.Test.YtgigndboadmacaaBv
namespace Go.Proofs.Ytgigndboadmacaa
open Go.ChangeShapes Go.WideShapes Go.ChangeAt Go.RowKit

/-- The exact number of parts. -/
def exP (g : Bool) (M : Nat) (e : Int) : Ex := exQ (sgnd g (M * 2 ^ (e + 1075).toNat)) (2 ^ (-(e + 1075)).toNat)

theorem exP_le (g : Bool) (M : Nat) (e h : Int) : (exP g M e).le h ↔ h * ((2 ^ (-(e + 1075)).toNat : Nat) : Int) ≤ sgnd g (M * 2 ^ (e + 1075).toNat) := Iff.rfl
theorem exP_ge (g : Bool) (M : Nat) (e h : Int) : (exP g M e).ge h ↔ sgnd g (M * 2 ^ (e + 1075).toNat) ≤ h * ((2 ^ (-(e + 1075)).toNat : Nat) : Int) := Iff.rfl

theorem sgnd_abs (g : Bool) (A : Nat) : (sgnd g A).natAbs = A := by unfold sgnd; cases g <;> simp

theorem exP_is {g : Bool} {M : Nat} {e dir : Int} (hM : M < 18446744073709551616) (he : -4096 ≤ e ∧ e ≤ 4096) : IsRnd (exP g M e) dir (key (roundN g M e dir)) := by
  have hp := Nat.two_pow_pos (-(e + 1075)).toNat
  have hN : if g then sgnd g (M * 2 ^ (e + 1075).toNat) ≤ 0 else 0 ≤ sgnd g (M * 2 ^ (e + 1075).toNat) := by
    unfold sgnd; cases g <;> simp only [Bool.false_eq_true, if_false, if_true] <;> omega
  refine round_is (exQ_ok _ hp) dir hM he (fun h0 => ?_) ?_ (fun h0 => ?_)
  · subst h0
    rw [Nat.zero_mul]
    have : sgnd g 0 = 0 := by unfold sgnd; cases g <;> rfl
    rw [this]
    exact ⟨by simp [exQ], by simp [exQ]⟩
  · cases g
    · simpa [exQ] using hN
    · simpa [exQ] using hN
  · refine ⟨(-(e + 1075)).toNat, (e + 1075).toNat, by omega, Or.inl fun h => ?_⟩
    have q := amt_Q (D := 2 ^ (-(e + 1075)).toNat) hN h
    rw [sgnd_abs] at q
    exact q

/-- What matters of an exact number for its rounding. -/
theorem isRnd_congr {X Y : Ex} {B : Int} (hB : B = 2 * V 9218868437227405312) (h : ∀ t, -B ≤ t → t ≤ B → (X.le t ↔ Y.le t) ∧ (X.ge t ↔ Y.ge t)) {dir k : Int} (hx : IsRnd X dir k) : IsRnd Y dir k := by
  obtain ⟨d, hd, hc⟩ := hx
  have b1 := hd.bot
  have b2 := hd.top
  have v1 := V_mono_le (show d ≤ 9218868437227405312 by omega)
  have v2 := V_mono_le (show -9218868437227405312 ≤ d by omega)
  have v3 := V_mono_le (show d + 1 ≤ 9218868437227405312 by omega)
  have v4 := V_mono_le (show -9218868437227405312 ≤ d + 1 by omega)
  rw [V_neg] at v2 v4
  have q1 := h (2 * V d) (by omega) (by omega)
  have q2 := h (2 * V (d + 1)) (by omega) (by omega)
  have q3 := h (V d + V (d + 1)) (by omega) (by omega)
  refine ⟨d, ⟨b1, b2, ?_, ?_⟩, ?_⟩
  · rcases hd.low with c | c
    · exact Or.inl c
    · exact Or.inr (q1.1.1 c)
  · rcases hd.up with c | c
    · exact Or.inl c
    · exact Or.inr fun e => c (q2.1.2 e)
  · rw [q1.1, q1.2, q3.1, q3.2] at hc
    exact hc

theorem exP_zero (g : Bool) (e t : Int) : ((exP g 0 e).le t ↔ t ≤ 0) ∧ ((exP g 0 e).ge t ↔ 0 ≤ t) := by
  rw [exP_le, exP_ge, Nat.zero_mul]
  have : sgnd g 0 = 0 := by unfold sgnd; cases g <;> rfl
  rw [this]
  have hp := Nat.two_pow_pos (-(e + 1075)).toNat
  generalize 2 ^ (-(e + 1075)).toNat = D at *
  constructor
  · constructor
    · intro h
      rcases Int.lt_or_le 0 t with c | c
      · have := Int.mul_pos c (show (0 : Int) < D by omega)
        omega
      · exact c
    · intro h
      exact Int.mul_nonpos_of_nonpos_of_nonneg h (by omega)
  · constructor
    · intro h
      rcases Int.lt_or_le t 0 with c | c
      · have := Int.mul_neg_of_neg_of_pos c (show (0 : Int) < D by omega)
        omega
      · exact c
    · intro h
      exact Int.mul_nonneg h (by omega)

theorem exP_big {g : Bool} {M : Nat} {e t B : Int} (h0 : M ≠ 0) (he : 4096 ≤ e) (hB : B = 2 * V 9218868437227405312) (h1 : -B ≤ t) (h2 : t ≤ B) : ((exP g M e).le t ↔ g = false) ∧ ((exP g M e).ge t ↔ g = true) := by
  rw [exP_le, exP_ge]
  obtain ⟨u, hu⟩ : ∃ u : Nat, u = 2098 := ⟨_, rfl⟩
  rw [V_top hu] at hB
  have e1 : (-(e + 1075)).toNat = 0 := by omega
  rw [e1, Nat.pow_zero]
  have hlt : 2 * 2 ^ u < M * 2 ^ (e + 1075).toNat := by
    have a1 := Nat.pow_le_pow_right (show 2 > 0 by omega) (show u + 2 ≤ (e + 1075).toNat by omega)
    rw [Nat.pow_add] at a1
    have a2 := Nat.mul_le_mul_right (2 ^ (e + 1075).toNat) (show 1 ≤ M by omega)
    have a3 := Nat.two_pow_pos u
    omega
  generalize M * 2 ^ (e + 1075).toNat = N at *
  generalize 2 ^ u = U at *
  unfold sgnd
  cases g
  · simp only [Bool.false_eq_true, if_false]
    constructor
    · constructor
      · intro _; trivial
      · intro _; omega
    · constructor
      · intro _; omega
      · intro c; cases c
  · simp only [if_true]
    constructor
    · constructor
      · intro _; omega
      · intro c; cases c
    · constructor
      · intro _; trivial
      · intro _; omega

theorem exP_tiny {g : Bool} {M : Nat} {e t : Int} (h0 : M ≠ 0) (hM : M < 18446744073709551616) (he : e ≤ -4096) : ((exP g M e).le t ↔ if g then t ≤ -1 else t ≤ 0) ∧ ((exP g M e).ge t ↔ if g then 0 ≤ t else 1 ≤ t) := by
  rw [exP_le, exP_ge]
  have e1 : (e + 1075).toNat = 0 := by omega
  rw [e1, Nat.pow_zero, Nat.mul_one]
  have hlt : 18446744073709551616 ≤ 2 ^ (-(e + 1075)).toNat := by
    have := Nat.pow_le_pow_right (show 2 > 0 by omega) (show 64 ≤ (-(e + 1075)).toNat by omega)
    omega
  generalize 2 ^ (-(e + 1075)).toNat = D at *
  have up : ∀ s : Int, 1 ≤ s → (D : Int) ≤ s * D := fun s hs => by
    have := Int.mul_le_mul_of_nonneg_right hs (show (0 : Int) ≤ D by omega)
    omega
  have dn : ∀ s : Int, s ≤ 0 → s * (D : Int) ≤ 0 := fun s hs => Int.mul_nonpos_of_nonpos_of_nonneg hs (by omega)
  have up2 : 1 ≤ t → (D : Int) ≤ t * D := up t
  have dn2 : t ≤ 0 → t * (D : Int) ≤ 0 := dn t
  have up3 : t ≤ -1 → t * (D : Int) ≤ -(D : Int) := fun hs => by
    have := up (-t) (by omega)
    rw [Int.neg_mul] at this
    omega
  have dn3 : 0 ≤ t → 0 ≤ t * (D : Int) := fun hs => Int.mul_nonneg hs (by omega)
  generalize t * (D : Int) = P at *
  unfold sgnd
  cases g
  · simp only [Bool.false_eq_true, if_false]
    omega
  · simp only [if_true]
    omega

def clamp5 (e : Int) : Int := if e > 5000 then 5000 else if e < -5000 then -5000 else e

/-- THE PROGRAM ROUNDS ANY PARTS AS THE DOCUMENT SAYS. -/
theorem parts_is {g : Bool} {M : Nat} (e dir : Int) (hM : M < 18446744073709551616) : IsRnd (exP g M (clamp5 e)) dir (key (roundN g M e dir)) := by
  have hc : ∀ e', clampN e = e' → roundN g M e dir = roundN g M e' dir := fun e' h => by
    unfold roundN
    rw [h]
    have : clampN e' = e' := by rw [← h]; unfold clampN; omega
    rw [this]
  by_cases h1 : 4096 < e
  · have ec : clampN e = 4096 := by unfold clampN; omega
    have e5 : 4096 ≤ clamp5 e := by unfold clamp5; split <;> (try split) <;> omega
    rw [hc _ ec]
    refine isRnd_congr rfl (fun t t1 t2 => ?_) (exP_is hM (by omega))
    by_cases h0 : M = 0
    · subst h0
      rw [(exP_zero g 4096 t).1, (exP_zero g 4096 t).2, (exP_zero g _ t).1, (exP_zero g _ t).2]
      exact ⟨Iff.rfl, Iff.rfl⟩
    · have q1 := exP_big (g := g) h0 (show (4096 : Int) ≤ 4096 by omega) rfl t1 t2
      have q2 := exP_big (g := g) h0 e5 rfl t1 t2
      exact ⟨q1.1.trans q2.1.symm, q1.2.trans q2.2.symm⟩
  · by_cases h2 : e < -4096
    · have ec : clampN e = -4096 := by unfold clampN; omega
      have e5 : clamp5 e ≤ -4096 := by unfold clamp5; split <;> (try split) <;> omega
      rw [hc _ ec]
      refine isRnd_congr rfl (fun t t1 t2 => ?_) (exP_is hM (by omega))
      by_cases h0 : M = 0
      · subst h0
        rw [(exP_zero g (-4096) t).1, (exP_zero g (-4096) t).2, (exP_zero g _ t).1, (exP_zero g _ t).2]
        exact ⟨Iff.rfl, Iff.rfl⟩
      · have q1 := exP_tiny (g := g) (t := t) h0 hM (show (-4096 : Int) ≤ -4096 by omega)
        have q2 := exP_tiny (g := g) (t := t) h0 hM e5
        exact ⟨q1.1.trans q2.1.symm, q1.2.trans q2.2.symm⟩
    · have e5 : clamp5 e = e := by unfold clamp5; rw [if_neg (by omega), if_neg (by omega)]
      rw [e5]
      exact exP_is hM (by omega)

/-- What was taken apart is rounded to itself. -/
theorem self_key {x : Nat} (hx : x < 18446744073709551616) (hf : finB x = true) (dir : Int) : key (roundN (splitG x) (splitM x) (splitE x) dir) = key x := by
  have h := self_is dir (g := splitG x) (splitM_lt x) (splitE_bounds hf)
  rw [← signed_val hx hf] at h
  obtain ⟨d, hd, hc⟩ := h
  have hr : x % 9223372036854775808 < 9218868437227405312 := by simpa [finB] using hf
  have hk : -9218868437227405311 ≤ key x ∧ key x ≤ 9218868437227405311 := by unfold key; split <;> omega
  have hkd : KDown (exQ (2 * V (key x)) 1) (key x) := ⟨by omega, by omega, Or.inr (by simp [exQ]), Or.inr fun c => by
    have c : 2 * V (key x + 1) * ((1 : Nat) : Int) ≤ 2 * V (key x) := c
    have := V_mono (show key x < key x + 1 by omega)
    omega⟩
  obtain rfl := kdown_unique (exQ_ok _ (by omega)) hd hkd
  rcases hc with ⟨-, e⟩ | ⟨c, -⟩
  · exact e
  · exact absurd ⟨by omega, by simp [exQ], by simp [exQ]⟩ c

set_option maxHeartbeats 2000000 in
theorem rround_pos (M R : Nat) (e e' dir : Int) (w : World) (he : e > 5000 ∧ e' = 5000 ∨ ¬ e > 5000 ∧ e < -5000 ∧ e' = -5000 ∨ ¬ e > 5000 ∧ ¬ e < -5000 ∧ e' = e)
    (co : ∀ W, Calls Try.prog 32 #[.int .u64 (M : Int)] W fun r w' => (∃ v, r = .returned v ∧ BigIs w' v M) ∧ Below W.heap.size W w')
    (cw : ∀ W v, BigIs W v M → Calls Try.prog 31 #[.agg #[.bool false, v, .int .i64 e'], .int .i64 dir] W fun r w' => r = .returned (.float .f64 R) ∧ Below W.heap.size W w') :
    Calls Try.prog 13 #[.agg #[.bool false, .int .u64 (M : Int), .int .i64 e], .int .i64 dir] w fun r w' => r = .returned (.float .f64 R) ∧ Below w.heap.size w w' := by
  go_enter Try.func13, Try.ntmps13
  go_upto_if 9 with fail
  go_cut [5] from 6 to 11 (fun s5 wx => (∃ e1, s5 = .int .i64 e1 ∧ (e > 5000 ∧ e1 = 5000 ∨ ¬ e > 5000 ∧ e1 = e)) ∧ Below w.heap.size w wx ∧ Has3 wx w.heap.size (.bool false) (.int .u64 (M : Int)) (.int .i64 e))
  case first =>
    by_cases h1 : e > 5000
    · go_wp2_with fail
      go_meet
      case rel => exact ⟨⟨_, rfl, Or.inl ⟨h1, rfl⟩⟩, by go_grown, ⟨by go_simp, by go_simp, by go_simp, by go_simp, by go_simp, by go_simp, by go_size⟩⟩
    · go_wp2_with fail
      go_meet
      case rel => exact ⟨⟨_, rfl, Or.inr ⟨h1, rfl⟩⟩, by go_grown, ⟨by go_simp, by go_simp, by go_simp, by go_simp, by go_simp, by go_simp, by go_size⟩⟩
  case rest =>
  obtain ⟨⟨e1, rfl, he1⟩, HB, X⟩ := hcut
  go_upto_if 11 with fail
  go_cut [5] from 6 to 11 (fun s5 wx => s5 = .int .i64 e' ∧ Below w.heap.size w wx ∧ Has3 wx w.heap.size (.bool false) (.int .u64 (M : Int)) (.int .i64 e))
  case first =>
    by_cases h2 : e1 < -5000
    · have : e' = -5000 := by omega
      subst this
      go_wp2_with fail
      go_meet
      case rel => exact ⟨rfl, HB, X⟩
    · have : e' = e1 := by omega
      subst this
      go_wp2_with fail
      go_meet
      case rel => exact ⟨rfl, HB, X⟩
  case rest =>
  clear HB X
  obtain ⟨rfl, HB, X⟩ := hcut
  go_upto_region 6 with fail
  replace X := X.drew
  replace HB := HB.drew
  clear he he1
  obtain ⟨x0, x1, x2, -⟩ := id X
  first
    | go_region_with (first
        | (go_at_call 32; refine (co _).mono ?_; rintro _ w2 ⟨⟨v, rfl, hv⟩, hb1⟩; obtain ⟨o3, l3, p3, rfl, -⟩ := hv.shape; replace X := X.keep hb1; replace HB := later HB hb1; clear hb1; obtain ⟨y0, y1, y2, -⟩ := id X)
        | (go_at_call 31; refine (cw _ _ hv).mono ?_; rintro _ w3 ⟨rfl, hb1⟩; replace X := X.keep hb1; replace HB := later HB hb1; clear hb1))
    | fail
  all_goals
    go_wp2_with fail
    go_ret
    exact ⟨rfl, HB⟩

set_option maxHeartbeats 2000000 in
theorem rround_neg (M R : Nat) (e e' dir : Int) (w : World) (he : e > 5000 ∧ e' = 5000 ∨ ¬ e > 5000 ∧ e < -5000 ∧ e' = -5000 ∨ ¬ e > 5000 ∧ ¬ e < -5000 ∧ e' = e)
    (co : ∀ W, Calls Try.prog 32 #[.int .u64 (M : Int)] W fun r w' => (∃ v, r = .returned v ∧ BigIs w' v M) ∧ Below W.heap.size W w')
    (cw : ∀ W v, BigIs W v M → Calls Try.prog 31 #[.agg #[.bool (decide (0 < M)), v, .int .i64 e'], .int .i64 dir] W fun r w' => r = .returned (.float .f64 R) ∧ Below W.heap.size W w') :
    Calls Try.prog 13 #[.agg #[.bool true, .int .u64 (M : Int), .int .i64 e], .int .i64 dir] w fun r w' => r = .returned (.float .f64 R) ∧ Below w.heap.size w w' := by
  rcases he with ⟨h1, h3⟩ | ⟨h1, h2, h3⟩ | ⟨h1, h2, h3⟩
  all_goals
    rw [h3] at cw
    clear h3
    go_enter Try.func13, Try.ntmps13
    go_upto_region 6 with fail
    have X : Has3 (w.alloc (.cells #[.bool true, .int .u64 (M : Int), .int .i64 e] 25)).drew w.heap.size (.bool true) (.int .u64 (M : Int)) (.int .i64 e) := ⟨by go_simp, by go_simp, by go_simp, by go_simp, by go_simp, by go_simp, by go_size⟩
    have HB : Below w.heap.size w (w.alloc (.cells #[.bool true, .int .u64 (M : Int), .int .i64 e] 25)).drew := by go_grown
    go_region_held3 (fun w' => w'.cell? ⟨w.heap.size, 0, none⟩ = some (.bool true) ∧ w'.cell? ⟨w.heap.size, 1, none⟩ = some (.int .u64 (M : Int)) ∧ w'.cell? ⟨w.heap.size, 2, none⟩ = some (.int .i64 e)) (first | exact ⟨X.1, X.2.1, X.2.2.1⟩ | go_keep)
      (first
        | (go_at_call 32; refine (co _).mono ?_; rintro _ w2 ⟨⟨v, rfl, hv⟩, hb1⟩; obtain ⟨o3, l3, p3, rfl, -⟩ := hv.shape; replace X := X.keep hb1; replace HB := later HB hb1; clear hb1)
        | (go_at_call 31; refine (cw _ _ hv).mono ?_; rintro _ w3 ⟨rfl, hb1⟩; replace X := X.keep hb1; replace HB := later HB hb1; clear hb1))
    all_goals
      go_wp2_with fail
      go_ret
      exact ⟨rfl, HB⟩

theorem whole_parts (g g' : Bool) (M : Nat) (e dir : Int) (hM : M < 18446744073709551616) (hg : g' = g ∨ M = 0) (W : World) (v : Value) (hv : BigIs W v M) :
    Calls Try.prog 31 #[.agg #[.bool g', v, .int .i64 (clamp5 e)], .int .i64 dir] W fun r w' => r = .returned (.float .f64 (roundN g M e dir)) ∧ Below W.heap.size W w' := by
  have hk := parts_is (g := g) e dir hM
  have hf := roundN_facts g M e dir hM
  rw [← ofKey_key hf.2.2 hf.2.1]
  generalize roundN g M e dir = R at *
  have hc : -5000 ≤ clamp5 e ∧ clamp5 e ≤ 5000 := by unfold clamp5; split <;> (try split) <;> omega
  generalize clamp5 e = c at *
  obtain ⟨t, ht⟩ : ∃ t : Nat, t = (-(c + 1075)).toNat := ⟨_, rfl⟩
  have hN : sgnd g' (M * 2 ^ (c + 1075).toNat) = sgnd g (M * 2 ^ (c + 1075).toNat) := by
    rcases hg with h | h
    · rw [h]
    · subst h
      rw [Nat.zero_mul]
      unfold sgnd
      cases g <;> cases g' <;> rfl
  unfold exP at hk
  rw [← ht] at hk
  refine whole_x (t := t) (by omega) hk (NumZ.wide (T := 5000) (K := 64) ?_ (by omega) (by omega))
  refine ⟨g', v, M, c, rfl, hv, hM, by omega, by omega, ?_⟩
  rw [← hN, show (c - (-(t : Int) - 1075)).toNat = (c + 1075).toNat by omega]

theorem rround_w (g : Bool) (M : Nat) (e dir : Int) (hM : M < 18446744073709551616) (w : World) :
    Calls Try.prog 13 #[.agg #[.bool g, .int .u64 (M : Int), .int .i64 e], .int .i64 dir] w fun r w' => r = .returned (.float .f64 (roundN g M e dir)) ∧ Below w.heap.size w w' := by
  have he : e > 5000 ∧ clamp5 e = 5000 ∨ ¬ e > 5000 ∧ e < -5000 ∧ clamp5 e = -5000 ∨ ¬ e > 5000 ∧ ¬ e < -5000 ∧ clamp5 e = e := by
    unfold clamp5
    by_cases h1 : e > 5000
    · left; rw [if_pos h1]; exact ⟨h1, rfl⟩
    · right
      rw [if_neg h1]
      by_cases h2 : e < -5000
      · left; rw [if_pos h2]; exact ⟨h1, h2, rfl⟩
      · right; rw [if_neg h2]; exact ⟨h1, h2, rfl⟩
  cases g
  · exact rround_pos M _ e (clamp5 e) dir w he (fun W => of_w M hM W) (fun W v hv => whole_parts false false M e dir hM (Or.inl rfl) W v hv)
  · refine rround_neg M _ e (clamp5 e) dir w he (fun W => of_w M hM W) (fun W v hv => whole_parts true (decide (0 < M)) M e dir hM ?_ W v hv)
    by_cases h : M = 0
    · exact Or.inr h
    · left; simp; omega

set_option maxHeartbeats 1000000 in
theorem splits_core (x M R mq : Nat) (g gq : Bool) (e eq dir : Int) (b n : Bool) (w : World) (hx : x < 18446744073709551616) (hn : nanB x = n) (hnb : n = true → b = false) (hR : R < 18446744073709551616)
    (hz : n = true → gq = false ∧ mq = 0 ∧ eq = 0) (Q : Nat) (hq : b = true → (FloatKind.f64.format.order Q x != some .eq) = false)
    (c1 : ∀ W, Calls Try.prog 8 #[.float .f64 x] W fun r w' => r = .returned (.tuple #[.agg #[.bool gq, .int .u64 (mq : Int), .int .i64 eq], .bool b]) ∧ Below W.heap.size W w')
    (c2 : ∀ W, Calls Try.prog 9 #[.float .f64 x] W fun r w' => r = .returned (.tuple #[.agg #[.bool gq, .int .u64 (mq : Int), .int .i64 eq], .bool b]) ∧ Below W.heap.size W w')
    (c3 : ∀ W, Calls Try.prog 11 #[.agg #[.bool gq, .int .u64 (mq : Int), .int .i64 eq], .int .i64 dir] W fun r w' => r = .returned (.float .f64 Q) ∧ Below W.heap.size W w')
    (c4 : ∀ W, Calls Try.prog 11 #[.agg #[.bool g, .int .u64 (M : Int), .int .i64 e], .int .i64 dir] W fun r w' => r = .returned (.float .f64 R) ∧ Below W.heap.size W w')
    (c5 : ∀ W, Calls Try.prog 13 #[.agg #[.bool g, .int .u64 (M : Int), .int .i64 e], .int .i64 dir] W fun r w' => r = .returned (.float .f64 R) ∧ Below W.heap.size W w') :
    Calls Try.prog 3 #[.float .f64 x, .agg #[.bool g, .int .u64 (M : Int), .int .i64 e], .int .i64 dir] w fun r w' => r = .returned (.bool true) ∧ Below w.heap.size w w' := by
  have ci := fun w => isNum_w x hx w
  rw [hn] at ci
  cases n
  · clear hnb hz
    have hsame : sameB R R = true := by unfold sameB; cases nanB R <;> simp
    cases b
    · clear hq c3
      go_enter Try.func3, Try.ntmps3
      go_upto_region 7 with (first
        | (go_at_call 8; refine (c1 _).mono ?_; rintro _ w1 ⟨rfl, hb1⟩
           have P : Has3 w1 w.heap.size (.bool g) (.int .u64 (M : Int)) (.int .i64 e) := Has3.keep ⟨by go_simp, by go_simp, by go_simp, by go_simp, by go_simp, by go_simp, by go_size⟩ hb1
           have HB : Below w.heap.size w w1 := later (by go_grown) hb1)
        | (go_at_call 9; refine (c2 _).mono ?_; rintro _ w2 ⟨rfl, hb2⟩
           have q0 : w2.cell? ⟨w1.heap.size, 0, none⟩ = some (.bool gq) := keepsC hb2 (by go_simp) (by go_size)
           have q1 : w2.cell? ⟨w1.heap.size, 1, none⟩ = some (.int .u64 (mq : Int)) := keepsC hb2 (by go_simp) (by go_size)
           have q2 : w2.cell? ⟨w1.heap.size, 2, none⟩ = some (.int .i64 eq) := keepsC hb2 (by go_simp) (by go_size)
           have hl : w1.heap.size < w2.heap.size := Nat.lt_of_lt_of_le (by go_size) hb2.size
           replace P := (P.keep (by go_grown)).keep hb2
           replace HB := later (later HB (by go_grown)) hb2)
        | (go_at_call 10; refine (ci _).mono ?_; rintro _ _ ⟨rfl, rfl⟩))
      replace P : Has3 _ w.heap.size (.bool g) (.int .u64 (M : Int)) (.int .i64 e) := (P.keep (by go_grown : Below w2.heap.size w2 (w2.alloc (.cells #[.bool gq, .int .u64 (mq : Int), .int .i64 eq] 25)).drew))
      replace HB := later HB (by go_grown : Below w2.heap.size w2 (w2.alloc (.cells #[.bool gq, .int .u64 (mq : Int), .int .i64 eq] 25)).drew)
      go_region_held3 (fun w' => w'.cell? ⟨w.heap.size, 0, none⟩ = some (.bool g) ∧ w'.cell? ⟨w.heap.size, 1, none⟩ = some (.int .u64 (M : Int)) ∧ w'.cell? ⟨w.heap.size, 2, none⟩ = some (.int .i64 e)) (first | exact ⟨P.1, P.2.1, P.2.2.1⟩ | go_keep)
        (first
          | (go_at_call 11; refine (c4 _).mono ?_; rintro _ w5 ⟨rfl, hb1⟩; replace P := P.keep hb1; replace HB := later HB hb1; clear hb1)
          | (go_at_call 13; refine (c5 _).mono ?_; rintro _ w6 ⟨rfl, hb1⟩; replace P := P.keep hb1; replace HB := later HB hb1; clear hb1)
          | (go_at_call 12; refine (same_w _ _ hR hR _).mono ?_; rintro _ _ ⟨rfl, rfl⟩))
      all_goals
        go_wp2_with fail
        go_ret
        exact ⟨rfl, HB⟩
    · have hq := hq rfl
      go_enter Try.func3, Try.ntmps3
      go_upto_region 7 with (first
        | (go_at_call 8; refine (c1 _).mono ?_; rintro _ w1 ⟨rfl, hb1⟩
           have P : Has3 w1 w.heap.size (.bool g) (.int .u64 (M : Int)) (.int .i64 e) := Has3.keep ⟨by go_simp, by go_simp, by go_simp, by go_simp, by go_simp, by go_simp, by go_size⟩ hb1
           have HB : Below w.heap.size w w1 := later (by go_grown) hb1)
        | (go_at_call 9; refine (c2 _).mono ?_; rintro _ w2 ⟨rfl, hb2⟩
           have q0 : w2.cell? ⟨w1.heap.size, 0, none⟩ = some (.bool gq) := keepsC hb2 (by go_simp) (by go_size)
           have q1 : w2.cell? ⟨w1.heap.size, 1, none⟩ = some (.int .u64 (mq : Int)) := keepsC hb2 (by go_simp) (by go_size)
           have q2 : w2.cell? ⟨w1.heap.size, 2, none⟩ = some (.int .i64 eq) := keepsC hb2 (by go_simp) (by go_size)
           have hl : w1.heap.size < w2.heap.size := Nat.lt_of_lt_of_le (by go_size) hb2.size
           replace P := (P.keep (by go_grown)).keep hb2
           replace HB := later (later HB (by go_grown)) hb2)
        | (go_at_call 10; refine (ci _).mono ?_; rintro _ _ ⟨rfl, rfl⟩)
        | (go_at_call 11; refine (c3 _).mono ?_; rintro _ w3 ⟨rfl, hb3⟩
           replace P := (P.keep (by go_grown)).keep hb3
           replace HB := later (later HB (by go_grown)) hb3))
      replace P := P.drew
      replace HB := HB.drew
      go_region_held3 (fun w' => w'.cell? ⟨w.heap.size, 0, none⟩ = some (.bool g) ∧ w'.cell? ⟨w.heap.size, 1, none⟩ = some (.int .u64 (M : Int)) ∧ w'.cell? ⟨w.heap.size, 2, none⟩ = some (.int .i64 e)) (first | exact ⟨P.1, P.2.1, P.2.2.1⟩ | go_keep)
        (first
          | (go_at_call 11; refine (c4 _).mono ?_; rintro _ w5 ⟨rfl, hb1⟩; replace P := P.keep hb1; replace HB := later HB hb1; clear hb1)
          | (go_at_call 13; refine (c5 _).mono ?_; rintro _ w6 ⟨rfl, hb1⟩; replace P := P.keep hb1; replace HB := later HB hb1; clear hb1)
          | (go_at_call 12; refine (same_w _ _ hR hR _).mono ?_; rintro _ _ ⟨rfl, rfl⟩))
      all_goals
        go_wp2_with fail
        go_ret
        exact ⟨rfl, HB⟩
  · have := hnb rfl
    subst this
    obtain ⟨rfl, rfl, rfl⟩ := hz rfl
    clear hnb hz hq
    go_enter Try.func3, Try.ntmps3
    go_wp2_with (first
      | (go_at_call 8; refine (c1 _).mono ?_; rintro _ w1 ⟨rfl, hb1⟩
         have HB : Below w.heap.size w w1 := later (by go_grown) hb1)
      | (go_at_call 9; refine (c2 _).mono ?_; rintro _ w2 ⟨rfl, hb2⟩
         have q0 : w2.cell? ⟨w1.heap.size, 0, none⟩ = some (.bool false) := keepsC hb2 (by go_simp) (by go_size)
         have q1 : w2.cell? ⟨w1.heap.size, 1, none⟩ = some (.int .u64 0) := keepsC hb2 (by go_simp) (by go_size)
         have q2 : w2.cell? ⟨w1.heap.size, 2, none⟩ = some (.int .i64 0) := keepsC hb2 (by go_simp) (by go_size)
         have hl : w1.heap.size < w2.heap.size := Nat.lt_of_lt_of_le (by go_size) hb2.size
         replace HB := later (later HB (by go_grown)) hb2)
      | (go_at_call 10; refine (ci _).mono ?_; rintro _ _ ⟨rfl, rfl⟩))
    go_ret
    exact ⟨rfl, later HB (by go_grown)⟩

theorem ulpSplits_w (x : Nat) (g : Bool) (M : Nat) (e dir : Int) (hx : x < 18446744073709551616) (hM : M < 18446744073709551616) (w : World) :
    Calls Try.prog 3 #[.float .f64 x, .agg #[.bool g, .int .u64 (M : Int), .int .i64 e], .int .i64 dir] w fun r w' => r = .returned (.bool true) ∧ Below w.heap.size w w' := by
  have hR := (roundN_facts g M e dir hM).2.2
  cases hf : finB x
  · exact splits_core x M _ 0 g false e 0 dir false (nanB x) w hx rfl (fun _ => rfl) hR (fun _ => ⟨rfl, rfl, rfl⟩) (roundN false 0 0 dir) (fun c => by cases c)
      (fun W => split_not x hx hf W) (fun W => rsplit_not x hx hf W) (fun W => round_w false 0 0 dir (by omega) W) (fun W => round_w g M e dir hM W) (fun W => rround_w g M e dir hM W)
  · have hn := fin_num hf
    have hm := splitM_lt x
    have hq := roundN_facts (splitG x) (splitM x) (splitE x) dir (by omega)
    refine splits_core x M _ (splitM x) g (splitG x) e (splitE x) dir true false w hx hn (fun c => by cases c) hR (fun c => by cases c) (roundN (splitG x) (splitM x) (splitE x) dir) (fun _ => ?_)
      (fun W => split_w x hx hf W) (fun W => rsplit_w x hx hf W) (fun W => round_w _ _ _ dir (by omega) W) (fun W => round_w g M e dir hM W) (fun W => rround_w g M e dir hM W)
    have hk := self_key hx hf dir
    rw [order_eq _ _ hq.2.2 hx, hq.1, hn]
    generalize roundN (splitG x) (splitM x) (splitE x) dir = Q at *
    rw [hk]
    simp

end Go.Proofs.Ytgigndboadmacaa
