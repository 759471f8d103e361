/- Whole numbers as floats: what is exact is rounded to itself, to whichever side; the walk of the statement UlpWhole. -/
import Derived.Test.YtdnpoacjamkhkaaIy
namespace Go.Proofs.Ytdnpoacjamkhkaa
open Go.ChangeShapes Go.WideShapes Go.ChangeAt Go.RowKit

theorem cut_zero (neg : Bool) (n : Nat) : Ieee.Toward.even.cut neg n 0 = n := by
  unfold Ieee.Toward.cut
  simp
  omega

/-- A whole number of 53 bits is a float. -/
theorem whole_word {m : Nat} (h0 : m ≠ 0) (hm : m < 9007199254740992) (neg : Bool) : ∃ r, r ≤ 9218868437227405311 ∧ Ieee.double.nearest neg m 0 = (if neg then 9223372036854775808 + r else r) ∧ ∀ u : Nat, u = 1074 → val r = m * 2 ^ u := by
  have hl : m.log2 < 53 := (Nat.log2_lt h0).2 hm
  have a := Nat.log2_self_le h0
  have b := @Nat.lt_log2_self m
  have hb : Ieee.double.binade = 4503599627370496 := by decide
  have hi : Ieee.double.infRung = 9218868437227405312 := by decide
  have hp : Ieee.double.leastPlace = -1074 := by decide
  have hf : Ieee.double.fractionBits = 52 := rfl
  have hs : Ieee.double.signWeight = 9223372036854775808 := by decide
  have e1 : 2 ^ m.log2 * 2 ^ (52 - m.log2) = 2 ^ 52 := by rw [← Nat.pow_add]; congr 1; omega
  have e2 : 2 ^ (m.log2 + 1) * 2 ^ (52 - m.log2) = 2 ^ 53 := by rw [← Nat.pow_add]; congr 1; omega
  have c1 := Nat.mul_le_mul_right (2 ^ (52 - m.log2)) a
  have c2 := Nat.mul_lt_mul_of_pos_right b (Nat.two_pow_pos (52 - m.log2))
  rw [e1] at c1
  rw [e2] at c2
  have c1 : 4503599627370496 ≤ m * 2 ^ (52 - m.log2) := c1
  have c2 : m * 2 ^ (52 - m.log2) < 9007199254740992 := c2
  refine ⟨(m.log2 + 1022) * 4503599627370496 + m * 2 ^ (52 - m.log2), by omega, ?_, ?_⟩
  · unfold Ieee.Format.nearest
    rw [if_neg h0]
    simp only [hb, hi, hp, hf]
    have l1 : max ((0 : Int) + (m.log2 : Nat) - (52 : Nat)) (-1074) = (m.log2 : Int) - 52 := by omega
    rw [l1]
    have l2 : ((0 : Int) - ((m.log2 : Int) - 52)).toNat = 52 - m.log2 := by omega
    have l3 : ((m.log2 : Int) - 52 - 0).toNat = 0 := by omega
    have l4 : ((m.log2 : Int) - 52 - -1074).toNat = m.log2 + 1022 := by omega
    rw [l2, l3, l4, cut_zero, Nat.shiftLeft_eq, Nat.min_eq_left (by omega)]
    unfold Ieee.Format.word
    rw [hs]
  · intro u hu
    have e3 : 52 - m.log2 + (m.log2 + 1022) = u := by omega
    rw [val_grid (by omega) (Or.inr c1), Nat.mul_assoc, ← Nat.pow_add, e3]

/-- The word of a whole number. -/
theorem whole_facts {n : Int} (h1 : -9007199254740992 < n) (h2 : n < 9007199254740992) : floatOfInt .f64 n < 18446744073709551616 ∧ finB (floatOfInt .f64 n) = true ∧ ∀ u : Nat, u = 1074 → V (key (floatOfInt .f64 n)) = n * ((2 ^ u : Nat) : Int) := by
  have e : floatOfInt .f64 n = Ieee.double.nearest (decide (n < 0)) n.natAbs 0 := rfl
  rw [e]
  by_cases z : n.natAbs = 0
  · have : n = 0 := by omega
    subst this
    refine ⟨by decide, by decide, fun u _ => ?_⟩
    have k : Ieee.double.nearest (decide ((0 : Int) < 0)) (0 : Int).natAbs 0 = 0 := by decide
    rw [k, Int.zero_mul]
    rfl
  · obtain ⟨r, hr, ew, hv⟩ := whole_word z (by omega) (decide (n < 0))
    rw [ew]
    by_cases c : n < 0
    · simp only [c, decide_true, if_true]
      have k : key (9223372036854775808 + r) = -(r : Int) := by unfold key; rw [if_neg (by omega)]; omega
      refine ⟨by omega, by unfold finB; simp; omega, fun u hu => ?_⟩
      rw [k, V_negnat, hv u hu]
      have : n = -(n.natAbs : Int) := by omega
      generalize n.natAbs = q at *
      subst this
      rw [Int.neg_mul]; simp
    · simp only [c, decide_false, Bool.false_eq_true, if_false]
      have k : key r = (r : Int) := by unfold key; rw [if_pos (by omega)]
      refine ⟨by omega, by unfold finB; simp; omega, fun u hu => ?_⟩
      rw [k, V_nat, hv u hu]
      have : n = (n.natAbs : Int) := by omega
      generalize n.natAbs = q at *
      subst this
      simp

theorem kdown_exact {x : Ex} (ok : x.Ok) {k l : Int} (h1 : -9218868437227405312 ≤ k) (h2 : k ≤ 9218868437227405311) (le : x.le (2 * V k)) (ge : x.ge (2 * V k)) (h : KDown x l) : l = k := by
  have hk : KDown x k := ⟨h1, h2, Or.inr le, Or.inr fun c => by
    have := ok.sep ge c
    have := V_mono (show k < k + 1 by omega)
    omega⟩
  exact Int.le_antisymm (kdown_mono ok (fun _ c => c) h hk) (kdown_mono ok (fun _ c => c) hk h)

theorem side_dir (dir : Int) (g : Bool) : (dir < 0 → sideN dir g = sideN (-1) g) ∧ (dir = 0 → sideN dir g = sideN 0 g) ∧ (0 < dir → sideN dir g = sideN 1 g) := by
  unfold sideN
  refine ⟨fun h => ?_, fun h => by rw [h], fun h => ?_⟩
  · have h1 : ¬ dir = 0 := by omega
    have h2 : ¬ 0 < dir := by omega
    simp [h1, h2]
  · have h1 : ¬ dir = 0 := by omega
    simp [h1, h]
theorem round_dir (g : Bool) (m : Nat) (e dir : Int) : (dir < 0 ∧ roundN g m e dir = roundN g m e (-1)) ∨ (dir = 0 ∧ roundN g m e dir = roundN g m e 0) ∨ (0 < dir ∧ roundN g m e dir = roundN g m e 1) := by
  have s := side_dir dir g
  unfold roundN
  rcases Int.lt_trichotomy dir 0 with c | c | c
  · left; exact ⟨c, by rw [s.1 c]⟩
  · right; left; exact ⟨c, by rw [s.2.1 c]⟩
  · right; right; exact ⟨c, by rw [s.2.2 c]⟩

/-- Three sides in order, the outer ones at one place: all are there. -/
theorem all_sides {f : Int → Nat} {k : Int} (hd : ∀ d, (d < 0 ∧ f d = f (-1)) ∨ (d = 0 ∧ f d = f 0) ∨ (0 < d ∧ f d = f 1)) (h1 : key (f (-1)) = k) (h2 : key (f 1) = k) (h3 : key (f (-1)) ≤ key (f 0)) (h4 : key (f 0) ≤ key (f 1)) (d : Int) : key (f d) = k := by
  rcases hd d with ⟨-, e⟩ | ⟨-, e⟩ | ⟨-, e⟩ <;> rw [e] <;> omega

theorem add_exact {a b c : Nat} (ha : a < 18446744073709551616) (hb : b < 18446744073709551616) (hc : c < 18446744073709551616) (fa : finB a = true) (fb : finB b = true) (fc : finB c = true) (h : V (key a) + V (key b) = V (key c)) (dir : Int) : key (addF a b dir) = key c := by
  have kc := fin_key hc fc
  have h1 : key (addF a b (-1)) = key c := kdown_exact (exQ_ok _ (by omega)) (by omega) (by omega) (by show 2 * V (key c) * (1 : Nat) ≤ _; rw [h]; simp) (by show _ ≤ 2 * V (key c) * (1 : Nat); rw [h]; simp) (addF_down ha hb fa fb)
  have h2 : key (addF (negB a) (negB b) (-1)) = key (negB c) := by
    have fna : finB (negB a) = true := by rw [finB_negB ha]; exact fa
    have fnb : finB (negB b) = true := by rw [finB_negB hb]; exact fb
    have e : V (key (negB a)) + V (key (negB b)) = V (key (negB c)) := by rw [key_negB ha, key_negB hb, key_negB hc, V_neg, V_neg, V_neg]; omega
    exact kdown_exact (exQ_ok _ (by omega)) (by rw [key_negB hc]; omega) (by rw [key_negB hc]; omega) (by show 2 * V (key (negB c)) * (1 : Nat) ≤ _; rw [e]; simp) (by show _ ≤ 2 * V (key (negB c)) * (1 : Nat); rw [e]; simp) (addF_down (negB_lt ha) (negB_lt hb) fna fnb)
  have m := add_mirror (negB_lt ha) (negB_lt hb)
  rw [negB_negB ha, negB_negB hb, h2, key_negB hc] at m
  have hm := sumM_lt (splitG a) (splitM a) (splitE a) (splitG b) (splitM b) (splitE b) (splitM_lt a) (splitM_lt b)
  have s : SidesOK (addF a b (-1)) (addF a b 0) (addF a b 1) := round_sides _ _ _ hm
  exact all_sides (f := addF a b) (fun d => round_dir _ _ _ d) h1 (by omega) s.2.2.2.1 s.2.2.2.2.1 dir

theorem both {k : Int} (h : -9218868437227405311 ≤ k ∧ k ≤ 9218868437227405311) : (-9218868437227405312 ≤ k ∧ k ≤ 9218868437227405311) ∧ (-9218868437227405312 ≤ -k ∧ -k ≤ 9218868437227405311) := by omega

theorem mul_exact {u : Nat} (hu : u = 1073) {a b c : Nat} (ha : a < 18446744073709551616) (hb : b < 18446744073709551616) (hc : c < 18446744073709551616) (fa : finB a = true) (fb : finB b = true) (fc : finB c = true) (h : V (key a) * V (key b) = 2 * V (key c) * ((2 ^ u : Nat) : Int)) (dir : Int) : key (mulV a b dir) = key c := by
  have kc := fin_key hc fc
  have na := fin_not_nan fa
  have nb := fin_not_nan fb
  have fna : finB (negB a) = true := by rw [finB_negB ha]; exact fa
  have h1 : key (mulV a b (-1)) = key c := kdown_exact (exQ_ok _ (Nat.two_pow_pos u)) (both kc).1.1 (both kc).1.2 (by show 2 * V (key c) * _ ≤ _; rw [h]; exact Int.le_refl _) (by show _ ≤ 2 * V (key c) * _; rw [h]; exact Int.le_refl _) (mulR_down hu ha hb fa fb (mulV_is (-1) na nb))
  have e : V (key (negB a)) * V (key b) = 2 * V (key (negB c)) * ((2 ^ u : Nat) : Int) := by rw [key_negB ha, key_negB hc, V_neg, V_neg, Int.neg_mul, h, Int.mul_neg, Int.neg_mul]
  have h2 : key (mulV (negB a) b (-1)) = key (negB c) := kdown_exact (exQ_ok _ (Nat.two_pow_pos u)) (by rw [key_negB hc]; exact (both kc).2.1) (by rw [key_negB hc]; exact (both kc).2.2) (by show 2 * V (key (negB c)) * _ ≤ _; rw [e]; exact Int.le_refl _) (by show _ ≤ 2 * V (key (negB c)) * _; rw [e]; exact Int.le_refl _) (mulR_down hu (negB_lt ha) hb fna fb (mulV_is (-1) (fin_not_nan fna) nb))
  have m := mulV_mirror' ha na nb
  rw [h2, key_negB hc] at m
  obtain ⟨s1, s2, -, -⟩ := mulV_sides ha hb fa fb
  refine all_sides (f := mulV a b) (fun d => ?_) h1 (by rw [m, Int.neg_neg]) s1.le s2.le dir
  unfold mulV mulR mulF
  rw [na, nb]
  simp only [Bool.or_self, Bool.false_eq_true, if_false]
  by_cases z : (isZ a || isZ b) = true
  · simp only [if_pos z]
    rcases Int.lt_trichotomy d 0 with c | c | c
    · exact Or.inl ⟨c, trivial⟩
    · exact Or.inr (Or.inl ⟨c, trivial⟩)
    · exact Or.inr (Or.inr ⟨c, trivial⟩)
  · simp only [if_neg z, fa, fb, Bool.and_self, if_true, Option.getD_some]
    exact round_dir _ _ _ d

theorem div_exact {u : Nat} (hu : u = 1075) {a b c : Nat} (ha : a < 18446744073709551616) (hb : b < 18446744073709551616) (hc : c < 18446744073709551616) (fa : finB a = true) (fb : finB b = true) (fc : finB c = true) (zb : isZ b = false)
    (h : V (key a) * ((2 ^ u : Nat) : Int) = 2 * V (key c) * V (key b)) (dir : Int) : key (divF a b dir) = key c := by
  have kc := fin_key hc fc
  have core : ∀ {a b c : Nat}, a < 18446744073709551616 → b < 18446744073709551616 → finB a = true → finB b = true → isZ b = false → -9218868437227405312 ≤ key c → key c ≤ 9218868437227405311 → V (key a) * ((2 ^ u : Nat) : Int) = 2 * V (key c) * V (key b) → key (divF a b (-1)) = key c := by
    intro a b c ha hb fa fb zb k1 k2 h
    have kv := key_val hb
    have e : (if splitG b then -V (key a) else V (key a)) * ((2 ^ u : Nat) : Int) = 2 * V (key c) * ((val (b % 9223372036854775808) : Nat) : Int) := by
      cases g : splitG b
      · rw [g] at kv
        simp only [Bool.false_eq_true, if_false] at kv ⊢
        rw [h, kv]
      · rw [g] at kv
        simp only [if_true] at kv ⊢
        rw [Int.neg_mul, h, kv, Int.mul_neg, Int.neg_neg]
    exact kdown_exact (exQ_ok _ (valz zb)) k1 k2 (by show 2 * V (key c) * _ ≤ _; rw [e]; exact Int.le_refl _) (by show _ ≤ 2 * V (key c) * _; rw [e]; exact Int.le_refl _) (divF_down hu ha fa fb zb)
  have h1 := core ha hb fa fb zb (both kc).1.1 (both kc).1.2 h
  have h2 := core (c := negB c) ha (negB_lt hb) fa (by rw [finB_negB hb]; exact fb) (by rw [isZ_negB hb]; exact zb) (by rw [key_negB hc]; exact (both kc).2.1) (by rw [key_negB hc]; exact (both kc).2.2) (by rw [key_negB hb, key_negB hc, V_neg, V_neg, h, Int.mul_neg 2, Int.neg_mul_neg])
  have m := div_mirror hb fa fb zb
  rw [h2, key_negB hc] at m
  obtain ⟨s1, s2, -, -⟩ := div_sides ha hb fa fb zb
  exact all_sides (f := divF a b) (fun d => round_dir _ _ _ d) h1 (by rw [m, Int.neg_neg]) s1.le s2.le dir

theorem sqrt_exact {u : Nat} (hu : u = 1076) {a c : Nat} (hc : c < 18446744073709551616) (fa : finB a = true) (fc : finB c = true) (kc0 : 0 ≤ key c)
    (h : val (a % 9223372036854775808) * 2 ^ u = (2 * val (c % 9223372036854775808)) * (2 * val (c % 9223372036854775808))) (dir : Int) : key (sqrtF a dir) = key c := by
  have kc := fin_key hc fc
  have kv := key_val hc
  rw [nneg_G hc kc0] at kv
  simp only [Bool.false_eq_true, if_false] at kv
  have le : (exS (val (a % 9223372036854775808) * 2 ^ u)).le (2 * V (key c)) := by
    right
    rw [kv, h]
    simp
  have ge : (exS (val (a % 9223372036854775808) * 2 ^ u)).ge (2 * V (key c)) := by
    refine ⟨by rw [kv]; exact Int.mul_nonneg (by decide) (Int.natCast_nonneg _), ?_⟩
    rw [kv, h]
    simp
  have h1 := kdown_exact (exS_ok _) (both kc).1.1 (both kc).1.2 le ge (sqrtF_down hu fa)
  have ku : KUp (exS (val (a % 9223372036854775808) * 2 ^ u)) (key c) := ⟨Or.inr ge, fun g => by
    have q1 := (exS_ok _).sep g le
    have q2 := V_mono (show key c - 1 < key c from Int.sub_lt_self _ (by decide))
    clear hu h le ge g h1
    omega, Int.le_trans (both kc).1.2 (by decide)⟩
  have su := sqrtF_up hu fa
  have h2 : key (sqrtF a 1) = key c := Int.le_antisymm (kup_mono (exS_ok _) (fun _ c => c) su ku) (kup_mono (exS_ok _) (fun _ c => c) ku su)
  have hm : rootM (splitM a) (splitE a) < 18446744073709551616 := rootM_lt (by have := splitM_lt a; omega)
  have s := round_sides false (rootM (splitM a) (splitE a)) (rootE (splitM a) (splitE a)) hm
  have s1 : key (sqrtF a (-1)) ≤ key (sqrtF a 0) := by unfold sqrtF; exact s.2.2.2.1
  have s2 : key (sqrtF a 0) ≤ key (sqrtF a 1) := by unfold sqrtF; exact s.2.2.2.2.1
  exact all_sides (f := sqrtF a) (fun d => by unfold sqrtF; exact round_dir _ _ _ d) h1 h2 s1 s2 dir

theorem ans_calls {f : FuncId} {args : Array Value} {o : Option Nat} {v : Nat} (h : o = some v) (c : ∀ w, Calls Try.prog f args w fun x w' => Ans o x ∧ Below w.heap.size w w') :
    ∀ w, Calls Try.prog f args w fun e w' => e = .returned (.float .f64 v) ∧ Below w.heap.size w w' := fun w => by
  have c := c w
  rw [h] at c
  refine c.mono ?_
  rintro _ _ ⟨⟨r, rfl, -, e⟩, hb⟩
  have e : r = v := e
  rw [e]
  exact ⟨rfl, hb⟩

theorem id_mul (m n c c1 : Int) (h : c = 2 * c1) : m * c * (n * c) = 2 * (m * n * c) * c1 := by
  have e : m * c * (n * c) = m * n * c * c := by simp only [Int.mul_comm, Int.mul_left_comm]
  have e2 : 2 * (m * n * c) * c1 = m * n * c * (2 * c1) := by simp only [Int.mul_comm, Int.mul_left_comm, Int.mul_assoc]
  rw [e, e2, ← h]
theorem id_div (m n c c3 : Int) (h : c3 = 2 * c) : m * n * c * c3 = 2 * (m * c) * (n * c) := by
  rw [h]
  simp only [Int.mul_comm, Int.mul_left_comm, Int.mul_assoc]
theorem id_sqrt (k c c4 : Nat) (h : c4 = 4 * c) : k * k * c * c4 = (2 * (k * c)) * (2 * (k * c)) := by
  have e : 4 * c = 2 * (2 * c) := by omega
  rw [h, e]
  simp only [Nat.mul_comm, Nat.mul_left_comm, Nat.mul_assoc]
theorem tdiv_bound {a : Int} (h1 : -2147483648 ≤ a) (h2 : a < 2147483648) : -33554432 ≤ a.tdiv 64 ∧ a.tdiv 64 ≤ 33554432 := by
  rcases Int.le_total 0 a with h | h
  · rw [Int.tdiv_eq_ediv_of_nonneg h]; omega
  · have e : a = -(-a) := by omega
    rw [e, Int.neg_tdiv, Int.tdiv_eq_ediv_of_nonneg (by omega)]; omega
theorem mul_bound {m n : Int} (hm : -33554432 ≤ m ∧ m ≤ 33554432) (hn : -33554432 ≤ n ∧ n ≤ 33554432) : -1125899906842624 ≤ m * n ∧ m * n ≤ 1125899906842624 := by
  have h := Int.natAbs_mul m n
  have l : m.natAbs * n.natAbs ≤ 33554432 * 33554432 := Nat.mul_le_mul (by omega) (by omega)
  omega

theorem eq_true {s t : Nat} (hs : s < 18446744073709551616) (ht : t < 18446744073709551616) (ns : nanB s = false) (nt : nanB t = false) (h : key s = key t) : (FloatKind.f64.format.order s t == some .eq) = true := by
  rw [o_eq hs ht]
  unfold eqB
  rw [ns, nt, h]
  simp

theorem addF_facts (a b : Nat) (d : Int) : nanB (addF a b d) = false ∧ addF a b d ≠ 9223372036854775808 ∧ addF a b d < 18446744073709551616 := by
  unfold addF
  exact roundN_facts _ _ _ d (sumM_lt (splitG a) (splitM a) (splitE a) (splitG b) (splitM b) (splitE b) (splitM_lt a) (splitM_lt b))
theorem addR_fin {a b : Nat} (d : Int) (fa : finB a = true) (fb : finB b = true) : addR a b d = some (addF a b d) := by
  unfold addR
  rw [fin_not_nan fa, fin_not_nan fb, fa, fb, if_neg (by decide), if_pos (by decide)]

end Go.Proofs.Ytdnpoacjamkhkaa
