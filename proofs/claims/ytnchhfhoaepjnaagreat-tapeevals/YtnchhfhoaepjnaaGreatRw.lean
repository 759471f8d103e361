/- Plain facts: what the program rounds parts to, to any side, is what the document's words ask of the exact number: the place below, whether it is it, the middle. Plain facts: sums, products, quotients and roots of the program are the exact ones, rounded by the document's words, to any side. -/
import Derived.Test.YtnchhfhoaepjnaaGreatRo
namespace Go.Proofs.YtnchhfhoaepjnaaGreat

/-- The document's rounding, over places: d is that of the greatest float not above. -/
def IsRnd (x : Ex) (dir k : Int) : Prop := ∃ d, KDown x d ∧
  ((d ≠ -9218868437227405312 ∧ x.le (2 * V d) ∧ x.ge (2 * V d)) ∧ k = d ∨
   ¬ (d ≠ -9218868437227405312 ∧ x.le (2 * V d) ∧ x.ge (2 * V d)) ∧ (dir < 0 → k = d) ∧ (0 < dir → k = d + 1) ∧
    (dir = 0 → (x.le (V d + V (d + 1)) ∧ x.ge (V d + V (d + 1)) ∧ k = (if d % 2 = 0 then d else d + 1) ∨
      ¬ (x.le (V d + V (d + 1)) ∧ x.ge (V d + V (d + 1))) ∧ (x.le (V d + V (d + 1)) ∧ k = d + 1 ∨ ¬ x.le (V d + V (d + 1)) ∧ k = d))))

theorem isRnd_unique {x : Ex} (ok : x.Ok) {dir k l : Int} (hk : IsRnd x dir k) (hl : IsRnd x dir l) : k = l := by
  obtain ⟨d, hd, h⟩ := hk
  obtain ⟨e, he, g⟩ := hl
  obtain rfl : d = e := Int.le_antisymm (kdown_mono ok (fun _ c => c) hd he) (kdown_mono ok (fun _ c => c) he hd)
  rcases h with ⟨a, b⟩ | ⟨a, b1, b2, b3⟩ <;> rcases g with ⟨c, f⟩ | ⟨c, f1, f2, f3⟩
  · rw [b, f]
  · exact absurd a c
  · exact absurd c a
  · rcases Int.lt_trichotomy dir 0 with t | t | t
    · rw [b1 t, f1 t]
    · rcases b3 t with ⟨p1, p2, p3⟩ | ⟨p1, ⟨p2, p3⟩ | ⟨p2, p3⟩⟩ <;> rcases f3 t with ⟨q1, q2, q3⟩ | ⟨q1, ⟨q2, q3⟩ | ⟨q2, q3⟩⟩
      · rw [p3, q3]
      · exact absurd ⟨p1, p2⟩ q1
      · exact absurd ⟨p1, p2⟩ q1
      · exact absurd ⟨q1, q2⟩ p1
      · rw [p3, q3]
      · exact absurd p2 q2
      · exact absurd ⟨q1, q2⟩ p1
      · exact absurd q2 p2
      · rw [p3, q3]
    · rw [b2 t, f2 t]

theorem rnd_of {x : Ex} (ok : x.Ok) {g : Bool} (hg : if g then x.ge 0 else x.le 0) {dir : Int} {r : Nat} (h : IsR (x.amt g) (sideN dir g) r) : IsRnd x dir (if g then -(r : Int) else r) := by
  obtain ⟨d, hd, h0, h2, h1⟩ := h
  have dt := hd.top
  cases g
  · simp only [Bool.false_eq_true, if_false] at *
    have lo : x.le ((2 * val d : Nat) : Int) := hd.low
    have up : d = 9218868437227405311 ∨ ¬ x.le ((2 * val (d + 1) : Nat) : Int) := hd.up
    have s1 : dir < 0 → sideN dir false = 0 := by
      intro t
      have u : ¬ 0 < dir := by omega
      unfold sideN
      rw [if_neg (by omega)]
      simp [u]
    have s2 : 0 < dir → sideN dir false = 2 := fun t => by unfold sideN; rw [if_neg (by omega)]; simp [t]
    have s3 : dir = 0 → sideN dir false = 1 := fun t => by unfold sideN; rw [if_pos t]
    have e2 : ((2 * val d : Nat) : Int) = 2 * V (d : Int) := by rw [V_nat]; simp
    have e3 : ((d : Int) + 1) = ((d + 1 : Nat) : Int) := by omega
    have em : ((val d + val (d + 1) : Nat) : Int) = V (d : Int) + V ((d : Int) + 1) := by rw [e3, V_nat, V_nat]; simp
    have eqd : (x.amt false).eq (2 * val d) ↔ x.le (2 * V (d : Int)) ∧ x.ge (2 * V (d : Int)) := by rw [← e2]; exact Iff.rfl
    have eqm : (x.amt false).eq (val d + val (d + 1)) ↔ x.le (V (d : Int) + V ((d : Int) + 1)) ∧ x.ge (V (d : Int) + V ((d : Int) + 1)) := by rw [← em]; exact Iff.rfl
    have lem : (x.amt false).le (val d + val (d + 1)) ↔ x.le (V (d : Int) + V ((d : Int) + 1)) := by rw [← em]; exact Iff.rfl
    have kd : KDown x (d : Int) := ⟨by omega, by omega, Or.inr (by rw [← e2]; exact lo), by
      rcases up with u | u
      · left; omega
      · right
        rw [e3, V_nat]
        exact fun c => u (ok.down (by omega) c)⟩
    refine ⟨d, kd, ?_⟩
    have dn : (d : Int) ≠ -9218868437227405312 := by omega
    rw [eqd] at h1 h2
    rw [eqm, lem] at h1
    by_cases eqx : x.le (2 * V (d : Int)) ∧ x.ge (2 * V (d : Int))
    · left
      refine ⟨⟨dn, eqx⟩, ?_⟩
      rcases Int.lt_trichotomy dir 0 with t | t | t
      · rw [h0 (s1 t)]
      · rcases h1 (s3 t) with ⟨-, b⟩ | ⟨b, -⟩
        · rw [b]
        · exact absurd eqx b
      · rcases h2 (s2 t) with ⟨-, b⟩ | ⟨b, -⟩
        · rw [b]
        · exact absurd eqx b
    · right
      refine ⟨fun c => eqx c.2, fun t => by rw [h0 (s1 t)], fun t => ?_, fun t => ?_⟩
      · rcases h2 (s2 t) with ⟨b, -⟩ | ⟨-, b⟩
        · exact absurd b eqx
        · omega
      · rcases h1 (s3 t) with ⟨b, -⟩ | ⟨-, ⟨b, c⟩ | ⟨b, ⟨c, e⟩ | ⟨c, e⟩⟩⟩
        · exact absurd b eqx
        · left
          refine ⟨b.1, b.2, ?_⟩
          rw [c]
          by_cases p : d % 2 = 0
          · rw [if_pos p, if_pos (by omega)]
          · rw [if_neg p, if_neg (by omega)]; omega
        · right; exact ⟨b, Or.inl ⟨c, by omega⟩⟩
        · right; exact ⟨b, Or.inr ⟨c, by omega⟩⟩
  · simp only [if_true] at *
    have lo : x.ge (-((2 * val d : Nat) : Int)) := hd.low
    have up : d = 9218868437227405311 ∨ ¬ x.ge (-((2 * val (d + 1) : Nat) : Int)) := hd.up
    have s1 : dir < 0 → sideN dir true = 2 := by
      intro t
      have u : ¬ 0 < dir := by omega
      unfold sideN
      rw [if_neg (by omega)]
      simp [u]
    have s2 : 0 < dir → sideN dir true = 0 := fun t => by unfold sideN; rw [if_neg (by omega)]; simp [t]
    have s3 : dir = 0 → sideN dir true = 1 := fun t => by unfold sideN; rw [if_pos t]
    have e2 : -((2 * val d : Nat) : Int) = 2 * V (-(d : Int)) := by rw [V_negnat]; omega
    have eqd : (x.amt true).eq (2 * val d) ↔ x.le (2 * V (-(d : Int))) ∧ x.ge (2 * V (-(d : Int))) := by rw [← e2]; exact Iff.rfl
    rw [eqd] at h1 h2
    by_cases eqx : x.le (2 * V (-(d : Int))) ∧ x.ge (2 * V (-(d : Int)))
    · have kd : KDown x (-(d : Int)) := ⟨by omega, by omega, Or.inr eqx.1, Or.inr fun c => by
        have c1 := ok.sep eqx.2 c
        have c2 := V_mono (show -(d : Int) < -(d : Int) + 1 by omega)
        omega⟩
      refine ⟨-(d : Int), kd, Or.inl ⟨⟨by omega, eqx⟩, ?_⟩⟩
      rcases Int.lt_trichotomy dir 0 with t | t | t
      · rcases h2 (s1 t) with ⟨-, b⟩ | ⟨b, -⟩
        · rw [b]
        · exact absurd eqx b
      · rcases h1 (s3 t) with ⟨-, b⟩ | ⟨b, -⟩
        · rw [b]
        · exact absurd eqx b
      · rw [h0 (s2 t)]
    · have e3 : -((d + 1 : Nat) : Int) + 1 = -(d : Int) := by omega
      have em : -((val d + val (d + 1) : Nat) : Int) = V (-((d + 1 : Nat) : Int)) + V (-((d + 1 : Nat) : Int) + 1) := by rw [e3, V_negnat, V_negnat]; omega
      have eqm : (x.amt true).eq (val d + val (d + 1)) ↔ x.le (V (-((d + 1 : Nat) : Int)) + V (-((d + 1 : Nat) : Int) + 1)) ∧ x.ge (V (-((d + 1 : Nat) : Int)) + V (-((d + 1 : Nat) : Int) + 1)) := by rw [← em]; exact Iff.rfl
      have lem : (x.amt true).le (val d + val (d + 1)) ↔ x.ge (V (-((d + 1 : Nat) : Int)) + V (-((d + 1 : Nat) : Int) + 1)) := by rw [← em]; exact Iff.rfl
      rw [eqm, lem] at h1
      have kd : KDown x (-((d + 1 : Nat) : Int)) := ⟨by omega, by omega, by
        rcases up with u | u
        · left; omega
        · right
          rcases ok.total (-((2 * val (d + 1) : Nat) : Int)) with c | c
          · rw [V_negnat]; exact ok.down (by omega) c
          · exact absurd c u, Or.inr fun c => by
            rw [e3] at c
            exact eqx ⟨c, by rw [← e2]; exact lo⟩⟩
      refine ⟨-((d + 1 : Nat) : Int), kd, Or.inr ⟨fun c => ?_, fun t => ?_, fun t => ?_, fun t => ?_⟩⟩
      · rcases up with u | u
        · exact c.1 (by omega)
        · apply u
          have := c.2.2
          rw [V_negnat] at this
          exact ok.up (by omega) this
      · rcases h2 (s1 t) with ⟨b, -⟩ | ⟨-, b⟩
        · exact absurd b eqx
        · rw [b]
      · rw [h0 (s2 t)]; omega
      · rcases h1 (s3 t) with ⟨b, -⟩ | ⟨-, ⟨b, c⟩ | ⟨b, ⟨c, e⟩ | ⟨c, e⟩⟩⟩
        · exact absurd b eqx
        · left
          refine ⟨b.1, b.2, ?_⟩
          rw [c]
          by_cases p : d % 2 = 0
          · rw [if_pos p, if_neg (by omega)]; omega
          · rw [if_neg p, if_pos (by omega)]
        · right
          exact ⟨b, Or.inr ⟨fun l => b ⟨l, c⟩, by rw [e]⟩⟩
        · right
          refine ⟨b, Or.inl ⟨?_, by omega⟩⟩
          rcases ok.total (V (-((d + 1 : Nat) : Int)) + V (-((d + 1 : Nat) : Int) + 1)) with l | l
          · exact l
          · exact absurd l c

end Go.Proofs.YtnchhfhoaepjnaaGreat

namespace Go.Proofs.YtnchhfhoaepjnaaGreat

theorem round_is {x : Ex} (ok : x.Ok) {g : Bool} {M : Nat} {E : Int} (dir : Int) (hM : M < 18446744073709551616) (hE : -4096 ≤ E ∧ E ≤ 4096) (hz : M = 0 → x.le 0 ∧ x.ge 0) (hg : if g then x.ge 0 else x.le 0) (near : M ≠ 0 → Near M E (x.amt g)) :
    IsRnd x dir (key (roundN g M E dir)) := by
  unfold roundN
  by_cases h0 : M = 0
  · rw [if_pos h0]
    obtain ⟨l, u⟩ := hz h0
    have hk : key 0 = 0 := rfl
    rw [hk]
    refine ⟨0, ⟨by omega, by omega, Or.inr ?_, Or.inr fun c => ?_⟩, Or.inl ⟨⟨by omega, ?_, ?_⟩, rfl⟩⟩
    · rw [V_zero]; exact l
    · have := ok.sep u c
      have h1 := V_pos (show (0 : Int) < 0 + 1 by omega)
      omega
    · rw [V_zero]; exact l
    · rw [V_zero]; exact u
  · rw [if_neg h0]
    have ec : clampN E = E := by unfold clampN; omega
    rw [ec]
    have hs : sideN dir g = 0 ∨ sideN dir g = 1 ∨ sideN dir g = 2 := by unfold sideN; split <;> (try split) <;> omega
    have hr := rung_is (ok.cut hg) (near h0) h0 hM hs
    have hle : rungN (topN M) (E - shiftN M) (sideN dir g) ≤ 9218868437227405312 := by
      obtain ⟨d, hd, r0, r2, r1⟩ := hr
      have := hd.top
      rcases hs with c | c | c
      · have := r0 c; omega
      · rcases r1 c with ⟨-, e⟩ | ⟨-, ⟨-, e⟩ | ⟨-, ⟨-, e⟩ | ⟨-, e⟩⟩⟩
        · omega
        · rw [e]; split <;> omega
        · omega
        · omega
      · rcases r2 c with ⟨-, e⟩ | ⟨-, e⟩ <;> omega
    rw [(signN_facts g _ hle).2.2.2]
    exact rnd_of ok hg hr

theorem sum_first_is (dir : Int) {gp gq : Bool} {mp mq : Nat} {ep eq : Int} (hp : mp < 9007199254740992) (hq : mq < 9007199254740992) (e1 : -1074 ≤ eq) (e3 : ep ≤ 971) (e2 : eq ≤ ep) (norm : eq < ep → 4503599627370496 ≤ mp) (same : ep = eq → mq ≤ mp)
    (hM : addM gp mp ep gq mq eq < 18446744073709551616) :
    IsRnd (exQ (2 * ((if gp then -((mp * 2 ^ (ep + 1074).toNat : Nat) : Int) else (mp * 2 ^ (ep + 1074).toNat : Nat)) + (if gq then -((mq * 2 ^ (eq + 1074).toNat : Nat) : Int) else (mq * 2 ^ (eq + 1074).toNat : Nat)))) 1) dir (key (roundN gp (addM gp mp ep gq mq eq) (ep - 10) dir)) := by
  have hle : mq * 2 ^ (eq + 1074).toNat ≤ mp * 2 ^ (ep + 1074).toNat :=
    (add_near (gp := gp) (gq := gq) (C := ⟨fun h => h ≤ _, fun h => h = _⟩) hp hq e1 e2 norm same (fun h => Iff.rfl) (fun h => Iff.rfl)).2
  have ha := fun gp gq => sum_abs (gp := gp) (gq := gq) hle
  have nr := fun C => add_near (gp := gp) (gq := gq) (C := C) hp hq e1 e2 norm same
  generalize mp * 2 ^ (ep + 1074).toNat = Ap at *
  generalize mq * 2 ^ (eq + 1074).toNat = Aq at *
  obtain ⟨a1, a2⟩ := ha gp gq
  generalize 2 * ((if gp then -(Ap : Int) else Ap) + (if gq then -(Aq : Int) else Aq)) = N at *
  have near : Near (addM gp mp ep gq mq eq) (ep - 10) ((exQ N 1).amt gp) := by
    refine (nr _ (fun h => ?_) (fun h => ?_)).1
    · rw [(amt_Q a2 h).1, a1, Nat.mul_one]
    · rw [(amt_Q a2 h).2, a1, Nat.mul_one]
  refine round_is (exQ_ok N (by omega)) dir hM (by omega) (fun h0 => ?_) ?_ (fun _ => near)
  · rw [h0] at near
    obtain ⟨a, b, -, hc | ⟨odd, -, -⟩⟩ := near
    · have h1 := (hc 0).2.2 (by simp)
      have h2 := (amt_Q a2 0).2.1 h1
      have : N = 0 := by omega
      subst this
      exact ⟨by simp [exQ], by simp [exQ]⟩
    · omega
  · cases gp
    · simpa [exQ] using a2
    · simpa [exQ] using a2

theorem self_is (dir : Int) {g : Bool} {m : Nat} {e : Int} (hm : m < 9007199254740992) (he : -1074 ≤ e ∧ e ≤ 971) :
    IsRnd (exQ (2 * (if g then -((m * 2 ^ (e + 1074).toNat : Nat) : Int) else (m * 2 ^ (e + 1074).toNat : Nat))) 1) dir (key (roundN g m e dir)) := by
  have ns := fun C => near_self (m := m) (e := e) (C := C) he.1
  have z : m = 0 → m * 2 ^ (e + 1074).toNat = 0 := fun h => by rw [h, Nat.zero_mul]
  generalize m * 2 ^ (e + 1074).toNat = A at *
  have hg : if g then 2 * (if g then -(A : Int) else A) ≤ 0 else 0 ≤ 2 * (if g then -(A : Int) else (A : Int)) := by cases g <;> simp <;> omega
  have ha : (2 * (if g then -(A : Int) else A)).natAbs = 2 * A := by cases g <;> simp <;> omega
  generalize 2 * (if g then -(A : Int) else (A : Int)) = N at *
  refine round_is (exQ_ok N (by omega)) dir (by omega) (by omega) (fun h0 => ?_) ?_ (fun _ => ns _ (fun h => ?_) (fun h => ?_))
  · have : N = 0 := by have := z h0; omega
    subst this
    exact ⟨by simp [exQ], by simp [exQ]⟩
  · cases g
    · simpa [exQ] using hg
    · simpa [exQ] using hg
  · rw [(amt_Q hg h).1, ha, Nat.mul_one]
  · rw [(amt_Q hg h).2, ha, Nat.mul_one]

/-- THE SUM IS THE EXACT ONE, ROUNDED. -/
theorem addF_is (dir : Int) {a b : Nat} (ha : a < 18446744073709551616) (hb : b < 18446744073709551616) (fa : finB a = true) (fb : finB b = true) :
    IsRnd (exQ (2 * (V (key a) + V (key b))) 1) dir (key (addF a b dir)) := by
  have hm := sumM_lt (splitG a) (splitM a) (splitE a) (splitG b) (splitM b) (splitE b) (splitM_lt a) (splitM_lt b)
  have ea := splitE_bounds fa
  have eb := splitE_bounds fb
  have na := splitM_norm fa
  have nb := splitM_norm fb
  have la := splitM_lt a
  have lb := splitM_lt b
  rw [signed_val ha fa, signed_val hb fb]
  unfold addF
  generalize splitG a = gp at *
  generalize splitG b = gq at *
  generalize splitM a = mp at *
  generalize splitM b = mq at *
  generalize splitE a = ep at *
  generalize splitE b = eq at *
  unfold sumM at *
  unfold sumG sumE
  by_cases z1 : mp = 0
  · subst z1
    simp only [if_true, Nat.zero_mul] at *
    have := self_is dir (g := gq) (m := mq) (e := eq) lb eb
    have e0 : (if gp then -((0 : Nat) : Int) else ((0 : Nat) : Int)) = 0 := by cases gp <;> rfl
    rw [e0, Int.zero_add]
    exact this
  · simp only [z1, if_false] at hm ⊢
    by_cases z2 : mq = 0
    · subst z2
      simp only [if_true, Nat.zero_mul] at *
      have := self_is dir (g := gp) (m := mp) (e := ep) la ea
      have e0 : (if gq then -((0 : Nat) : Int) else ((0 : Nat) : Int)) = 0 := by cases gq <;> rfl
      rw [e0, Int.add_zero]
      exact this
    · simp only [z2, if_false] at hm ⊢
      have hsw : swapP mp ep mq eq = decide (ep < eq ∨ ep = eq ∧ mp < mq) := rfl
      by_cases sw : ep < eq ∨ ep = eq ∧ mp < mq
      · have hs : swapP mp ep mq eq = true := by rw [hsw]; simp [sw]
        simp only [hs, if_true] at hm ⊢
        rw [Int.add_comm]
        exact sum_first_is dir lb la ea.1 eb.2 (by omega) (fun h => nb z2 (by omega)) (fun h => by omega) hm
      · have hs : swapP mp ep mq eq = false := by rw [hsw]; simp [sw]
        simp only [hs, Bool.false_eq_true, if_false] at hm ⊢
        exact sum_first_is dir la lb eb.1 ea.2 (by omega) (fun h => na z1 (by omega)) (fun h => by omega) hm

/-- THE PRODUCT IS THE EXACT ONE, ROUNDED. -/
theorem mulF_is (dir : Int) {u : Nat} (hu : u = 1073) {a b : Nat} (ha : a < 18446744073709551616) (hb : b < 18446744073709551616) (fa : finB a = true) (fb : finB b = true) (za : splitM a ≠ 0) (zb : splitM b ≠ 0) :
    IsRnd (exQ (V (key a) * V (key b)) (2 ^ u)) dir (key (mulF a b dir)) := by
  have ea := splitE_bounds fa
  have eb := splitE_bounds fb
  have la := splitM_lt a
  have lb := splitM_lt b
  have hm := prodM_lt za zb (show splitM a < 18446744073709551616 by omega) (show splitM b < 18446744073709551616 by omega)
  have ta := topN_bounds za (by omega)
  have tb := topN_bounds zb (by omega)
  rw [signed_val ha fa, signed_val hb fb]
  unfold mulF
  generalize splitG a = gp at *
  generalize splitG b = gq at *
  generalize splitM a = mp at *
  generalize splitM b = mq at *
  generalize splitE a = ep at *
  generalize splitE b = eq at *
  obtain ⟨P, hP⟩ : ∃ P : Nat, (P : Int) = ep + 1074 := ⟨(ep + 1074).toNat, by omega⟩
  obtain ⟨Q, hQ⟩ : ∃ Q : Nat, (Q : Int) = eq + 1074 := ⟨(eq + 1074).toNat, by omega⟩
  have tP : (ep + 1074).toNat = P := by omega
  have tQ : (eq + 1074).toNat = Q := by omega
  rw [tP, tQ]
  obtain ⟨a1, a2⟩ := prod_abs (Ap := mp * 2 ^ P) (Aq := mq * 2 ^ Q) (gp := gp) (gq := gq)
  generalize (if gp then -((mp * 2 ^ P : Nat) : Int) else (mp * 2 ^ P : Nat)) * (if gq then -((mq * 2 ^ Q : Nat) : Int) else (mq * 2 ^ Q : Nat)) = N at *
  have sp := shift_le mp
  have sq := shift_le mq
  have hT : topN mp * topN mq * 2 ^ (P + Q) = (mp * 2 ^ P * (mq * 2 ^ Q)) * 2 ^ (shiftN mp + shiftN mq) := by
    rw [top_eq, top_eq, Nat.pow_add, Nat.pow_add]
    simp only [Nat.mul_comm, Nat.mul_left_comm, Nat.mul_assoc]
  have hmid : ∀ h : Nat, h * 2 ^ (u + shiftN mp + shiftN mq) = h * 2 ^ u * 2 ^ (shiftN mp + shiftN mq) := fun h => by
    rw [Nat.add_assoc, Nat.pow_add, ← Nat.mul_assoc]
  have big : 36028797018963968 ≤ topN mp * topN mq / 18446744073709551616 := by
    rw [Nat.le_div_iff_mul_le (by omega)]
    exact Nat.le_trans (by omega) (Nat.mul_le_mul ta.1 tb.1)
  have hz : prodM mp mq ≠ 0 := by
    intro h
    rcases mark_near (topN mp * topN mq) 18446744073709551616 (by omega) (show prodM mp mq = _ from rfl) with ⟨-, e⟩ | ⟨-, e, -⟩
    · rw [h, Nat.zero_mul] at e
      have := Nat.mul_le_mul ta.1 tb.1
      omega
    · omega
  have d64 : (18446744073709551616 : Nat) = 2 ^ 64 := rfl
  have hT2 : topN mp * topN mq * 2 ^ (P + Q + 64) = (mp * 2 ^ P * (mq * 2 ^ Q)) * 2 ^ (shiftN mp + shiftN mq) * 18446744073709551616 := by
    rw [Nat.pow_add 2 (P + Q) 64, ← Nat.mul_assoc, hT]
  refine round_is (exQ_ok N (Nat.two_pow_pos u)) dir hm (by unfold prodE; omega) (fun h0 => absurd h0 hz) ?_ (fun _ => near_of (T := topN mp * topN mq) (D := 18446744073709551616) (a := u + shiftN mp + shiftN mq) (b := P + Q + 64) (by omega) (by unfold prodE; omega) (fun h => ?_) (fun h => ?_) rfl (fun _ => big))
  · cases h : (gp != gq)
    · rw [h] at a2; simpa [exQ] using a2
    · rw [h] at a2; simpa [exQ] using a2
  · rw [(amt_Q a2 h).1, a1, hT2, hmid, d64, mul_two_pow_le, mul_two_pow_le]
  · rw [(amt_Q a2 h).2, a1, hT2, hmid, d64, mul_two_pow_eq, mul_two_pow_eq]

/-- THE QUOTIENT IS THE EXACT ONE, ROUNDED. -/
theorem divF_is (dir : Int) {u : Nat} (hu : u = 1075) {a b : Nat} (ha : a < 18446744073709551616) (fa : finB a = true) (fb : finB b = true) (zb : isZ b = false) :
    IsRnd (exQ ((if splitG b then -V (key a) else V (key a)) * ((2 ^ u : Nat) : Int)) (val (b % 9223372036854775808))) dir (key (divF a b dir)) := by
  have ea := splitE_bounds fa
  have eb := splitE_bounds fb
  have la := splitM_lt a
  have lb := splitM_lt b
  have hm := divM_lt (a := a) zb
  have zb := splitM_zero zb
  have tb := topN_bounds zb (by omega)
  rw [signed_val ha fa, split_val fb]
  unfold divF
  generalize splitG a = gp at *
  generalize splitG b = gq at *
  generalize splitM a = mp at *
  generalize splitM b = mq at *
  generalize splitE a = ep at *
  generalize splitE b = eq at *
  obtain ⟨P, hP⟩ : ∃ P : Nat, (P : Int) = ep + 1074 := ⟨(ep + 1074).toNat, by omega⟩
  obtain ⟨Q, hQ⟩ : ∃ Q : Nat, (Q : Int) = eq + 1074 := ⟨(eq + 1074).toNat, by omega⟩
  have tP : (ep + 1074).toNat = P := by omega
  have tQ : (eq + 1074).toNat = Q := by omega
  rw [tP, tQ]
  have z0 : mp = 0 → (if gq then -(if gp then -((mp * 2 ^ P : Nat) : Int) else (mp * 2 ^ P : Nat)) else (if gp then -((mp * 2 ^ P : Nat) : Int) else (mp * 2 ^ P : Nat))) * ((2 ^ u : Nat) : Int) = 0 := by
    rintro rfl
    cases gp <;> cases gq <;> simp
  obtain ⟨a1, a2⟩ := quo_abs (Ap := mp * 2 ^ P) (c := 2 ^ u) (gp := gp) (gq := gq)
  generalize (if gq then -(if gp then -((mp * 2 ^ P : Nat) : Int) else (mp * 2 ^ P : Nat)) else (if gp then -((mp * 2 ^ P : Nat) : Int) else (mp * 2 ^ P : Nat))) * ((2 ^ u : Nat) : Int) = N at *
  have sp := shift_le mp
  have sq := shift_le mq
  have hDD : 0 < mq * 2 ^ Q := Nat.mul_pos (by omega) (Nat.two_pow_pos Q)
  by_cases za : mp = 0
  · have : N = 0 := z0 za
    subst this
    have t0 : topN 0 = 0 := by unfold topN; simp
    have q0 : quoM mp mq = 0 := by rw [za]; unfold quoM; rw [t0, Nat.zero_mul, Nat.zero_div, Nat.zero_mod]; rfl
    rw [q0]
    rw [roundN_zero _ _ 0]
    refine round_is (exQ_ok 0 hDD) dir (by omega) (by omega) (fun _ => ⟨by simp [exQ], by simp [exQ]⟩) ?_ (fun h => absurd rfl h)
    cases (gp != gq) <;> simp [exQ]
  · have ta := topN_bounds za (by omega)
    have big : 36028797018963968 ≤ topN mp * 9223372036854775808 / topN mq := by
      rw [Nat.le_div_iff_mul_le (by omega)]
      omega
    have hz : quoM mp mq ≠ 0 := by
      intro h
      rcases mark_near (topN mp * 9223372036854775808) (topN mq) (by omega) (show quoM mp mq = _ from rfl) with ⟨-, e⟩ | ⟨-, e, -⟩
      · rw [h, Nat.zero_mul] at e; omega
      · omega
    have d63 : (9223372036854775808 : Nat) = 2 ^ 63 := rfl
    have hT : topN mp * 9223372036854775808 * 2 ^ (P + u + shiftN mq) = (mp * 2 ^ P * 2 ^ u) * 2 ^ (shiftN mp + shiftN mq + 63) := by
      rw [top_eq, d63]
      simp only [Nat.pow_add, Nat.mul_comm, Nat.mul_left_comm, Nat.mul_assoc]
    have hmid : ∀ h : Nat, h * 2 ^ (Q + shiftN mp + 63) * topN mq = h * (mq * 2 ^ Q) * 2 ^ (shiftN mp + shiftN mq + 63) := fun h => by
      rw [top_eq]
      simp only [Nat.pow_add, Nat.mul_comm, Nat.mul_left_comm, Nat.mul_assoc]
    refine round_is (exQ_ok N hDD) dir hm (by unfold quoE; omega) (fun h0 => absurd h0 hz) ?_ (fun _ => near_of (T := topN mp * 9223372036854775808) (D := topN mq) (a := Q + shiftN mp + 63) (b := P + u + shiftN mq) (by omega) (by unfold quoE; omega) (fun h => ?_) (fun h => ?_) rfl (fun _ => big))
    · cases h : (gp != gq)
      · rw [h] at a2; simpa [exQ] using a2
      · rw [h] at a2; simpa [exQ] using a2
    · rw [(amt_Q a2 h).1, a1, hT, hmid, mul_two_pow_le]
    · rw [(amt_Q a2 h).2, a1, hT, hmid, mul_two_pow_eq]

/-- THE ROOT IS THE EXACT ONE, ROUNDED. -/
theorem sqrtF_is (dir : Int) {u : Nat} (hu : u = 1076) {a : Nat} (fa : finB a = true) :
    IsRnd (exS (val (a % 9223372036854775808) * 2 ^ u)) dir (key (sqrtF a dir)) := by
  have ea := splitE_bounds fa
  have la := splitM_lt a
  rw [split_val fa]
  unfold sqrtF
  generalize splitM a = m at *
  generalize splitE a = e at *
  have hN : m * 2 ^ (e + 1074).toNat * 2 ^ u = m * 2 ^ (e + 2150).toNat := by
    rw [Nat.mul_assoc, ← Nat.pow_add]; congr 2; omega
  rw [hN]
  by_cases h0 : m = 0
  · subst h0
    rw [rootM_zero, Nat.zero_mul]
    rw [roundN_zero _ _ 0]
    exact round_is (exS_ok 0) dir (by omega) (by omega) (fun _ => ⟨Or.inl (by omega), by omega, by omega⟩) (Or.inl (by omega)) (fun h => absurd rfl h)
  · obtain ⟨f, hf, f1, f2, w1, w2, hb⟩ := rootW_eq h0 la ea
    obtain ⟨b, hb0⟩ : ∃ b : Nat, (b : Int) = f + 1043 := ⟨(f + 1043).toNat, by omega⟩
    rw [hb b hb0]
    have hr := isqrt_is (rootW m e * 18446744073709551616)
    have big : 36028797018963968 ≤ isqrt (rootW m e * 18446744073709551616) := by
      rcases Nat.lt_or_ge (isqrt (rootW m e * 18446744073709551616)) 36028797018963968 with c | c
      · exfalso
        have h2 := hr.2
        have h3 : (isqrt (rootW m e * 18446744073709551616) + 1) * (isqrt (rootW m e * 18446744073709551616) + 1) ≤ 36028797018963968 * 36028797018963968 := Nat.mul_le_mul (by omega) (by omega)
        omega
      · exact c
    have he : rootE m e = f - 32 := by unfold rootE; rw [hf]; omega
    have hz : rootM m e ≠ 0 := by
      unfold rootM markN
      split <;> omega
    rw [he]
    refine round_is (exS_ok _) dir (rootM_lt (by omega)) (by omega) (fun h => absurd h hz) (Or.inl (by omega)) (fun _ => ?_)
    exact root_near (N := rootW m e * 18446744073709551616) (r := isqrt (rootW m e * 18446744073709551616)) (b := b) (by omega) (fun h => (amt_S h).1) (fun h => (amt_S h).2) hr rfl big

end Go.Proofs.YtnchhfhoaepjnaaGreat
