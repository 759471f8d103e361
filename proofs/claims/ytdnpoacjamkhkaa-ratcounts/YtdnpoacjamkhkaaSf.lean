/- Plain facts on the order of words, and what contracts tell of three answers. Plain facts for the law of the sides: answers of mirrored and of exchanged arguments. -/
import Derived.Test.YtdnpoacjamkhkaaWv
namespace Go.Proofs.Ytdnpoacjamkhkaa

theorem key_ofKey {i : Int} (h1 : -9223372036854775808 < i) (h2 : i < 9223372036854775808) : key (ofKey i) = i := by
  unfold key ofKey
  by_cases h : i < 0
  · rw [if_pos h, if_neg (by omega)]; omega
  · rw [if_neg h, if_pos (by omega)]; omega

theorem order_le {a b : Nat} (ha : a < 18446744073709551616) (hb : b < 18446744073709551616) (na : nanB a = false) (nb : nanB b = false) (h : key a ≤ key b) : (FloatKind.f64.format.order a b == some .lt || FloatKind.f64.format.order a b == some .eq) = true := by
  rw [order_eq a b ha hb, na, nb]
  simp only [Bool.or_self, Bool.false_eq_true, if_false, compare_int]
  by_cases c : key a < key b
  · rw [if_pos c]; rfl
  · rw [if_neg c, if_pos (by omega)]; rfl
theorem order_is {a b : Nat} (ha : a < 18446744073709551616) (hb : b < 18446744073709551616) (na : nanB a = false) (nb : nanB b = false) : (FloatKind.f64.format.order a b == some .eq) = decide (key a = key b) := by
  rw [order_eq a b ha hb, na, nb]
  simp only [Bool.or_self, Bool.false_eq_true, if_false, compare_int]
  by_cases c : key a < key b
  · have : ¬ key a = key b := by omega
    rw [if_pos c]; simp [this]
  · rw [if_neg c]
    by_cases e : key a = key b
    · rw [if_pos e]; simp [e]
    · rw [if_neg e]; simp [e]

theorem zero_or {x : Nat} (hx : x < 18446744073709551616) (hn : nanB x = false) (h0 : x ≠ 9223372036854775808) : x = 0 ∨ (FloatKind.f64.format.order x 0 == some .eq) = false := by
  by_cases c : x = 0
  · exact Or.inl c
  · refine Or.inr ?_
    rw [ord_zero hx hn]
    unfold isZ
    simp only [decide_eq_false_iff_not]
    omega

/-- Three answers, each told by what the call's contract says of it. -/
def SidesO (o1 o2 o3 : Option Nat) : Prop := (o1 = none ∧ o2 = none ∧ o3 = none) ∨ ∃ d n u, o1 = some d ∧ o2 = some n ∧ o3 = some u ∧ SidesOK d n u
def Told (o : Option Nat) (r : Nat) : Prop := r < 18446744073709551616 ∧ match o with | some v => r = v | none => nanB r = true

end Go.Proofs.Ytdnpoacjamkhkaa

namespace Go.Proofs.Ytdnpoacjamkhkaa

theorem mod_negB {x : Nat} (hx : x < 18446744073709551616) : negB x % 9223372036854775808 = x % 9223372036854775808 := by unfold negB; split <;> omega
theorem mod_negB' {x : Nat} (hx : x < 18446744073709551616) : negB x % 4503599627370496 = x % 4503599627370496 := by unfold negB; split <;> omega
theorem finB_negB {x : Nat} (hx : x < 18446744073709551616) : finB (negB x) = finB x := by unfold finB; rw [mod_negB hx]
theorem isZ_negB {x : Nat} (hx : x < 18446744073709551616) : isZ (negB x) = isZ x := by unfold isZ; rw [mod_negB hx]
theorem splitM_negB {x : Nat} (hx : x < 18446744073709551616) : splitM (negB x) = splitM x := by unfold splitM; rw [mod_negB hx, mod_negB' hx]
theorem splitE_negB {x : Nat} (hx : x < 18446744073709551616) : splitE (negB x) = splitE x := by unfold splitE; rw [mod_negB hx]
theorem signB_negB {x : Nat} (hx : x < 18446744073709551616) : signB (negB x) = !signB x := by
  unfold signB negB
  by_cases h : x < 9223372036854775808
  · have h2 : ¬ 9223372036854775808 ≤ x := by omega
    have h3 : 9223372036854775808 ≤ x + 9223372036854775808 := by omega
    rw [if_pos h]; simp [h2, h3]
  · have h2 : 9223372036854775808 ≤ x := by omega
    have h3 : ¬ 9223372036854775808 ≤ x - 9223372036854775808 := by omega
    rw [if_neg h]; simp [h2, h3]
theorem splitG_negB {x : Nat} (hx : x < 18446744073709551616) (hz : splitM x ≠ 0) : splitG (negB x) = !splitG x := by
  have z : isZ x = false := by
    cases h : isZ x
    · rfl
    · exfalso
      have : x % 9223372036854775808 = 0 := by simpa [isZ] using h
      apply hz; unfold splitM; rw [if_pos (by omega), this]
  have z' : isZ (negB x) = false := by rw [isZ_negB hx, z]
  rw [splitG_sign z, splitG_sign z', signB_negB hx]

theorem sumM_mirror (ga : Bool) (ma : Nat) (ea : Int) (gb : Bool) (mb : Nat) (eb : Int) (ga' gb' : Bool) (h1 : ma ≠ 0 → ga' = !ga) (h2 : mb ≠ 0 → gb' = !gb) :
    sumM ga' ma ea gb' mb eb = sumM ga ma ea gb mb eb ∧ (sumM ga ma ea gb mb eb = 0 ∨ sumG ga' ma ea gb' mb eb = !sumG ga ma ea gb mb eb) := by
  unfold sumM sumG
  by_cases z1 : ma = 0
  · simp only [z1, if_true, true_and]
    by_cases z2 : mb = 0
    · exact Or.inl z2
    · exact Or.inr (h2 z2)
  · simp only [z1, if_false]
    by_cases z2 : mb = 0
    · simp only [z2, if_true, true_and]
      exact Or.inr (h1 z1)
    · simp only [z2, if_false]
      have e1 := h1 z1
      have e2 := h2 z2
      subst e1 e2
      cases swapP ma ea mb eb <;> cases ga <;> cases gb <;> simp [addM]

theorem add_mirror {a b : Nat} (ha : a < 18446744073709551616) (hb : b < 18446744073709551616) : key (addF (negB a) (negB b) 1) = - key (addF a b (-1)) := by
  unfold addF
  rw [splitM_negB ha, splitM_negB hb, splitE_negB ha, splitE_negB hb]
  have hm := sumM_lt (splitG a) (splitM a) (splitE a) (splitG b) (splitM b) (splitE b) (splitM_lt a) (splitM_lt b)
  obtain ⟨h1, h2⟩ := sumM_mirror (splitG a) (splitM a) (splitE a) (splitG b) (splitM b) (splitE b) (splitG (negB a)) (splitG (negB b)) (splitG_negB ha) (splitG_negB hb)
  rw [h1]
  rcases h2 with h2 | h2
  · rw [h2]; rfl
  · rw [h2]; exact round_mirror _ _ _ hm

/-- Both are no numbers, or the second is the first's negative. -/
def Mirror (o p : Option Nat) : Prop := (o = none ∧ p = none) ∨ ∃ x y, o = some x ∧ p = some y ∧ nanB x = false ∧ nanB y = false ∧ key y = - key x

theorem addR_mirror {a b : Nat} (ha : a < 18446744073709551616) (hb : b < 18446744073709551616) : Mirror (addR a b (-1)) (addR (negB a) (negB b) 1) := by
  unfold addR
  rw [nanB_negB ha, nanB_negB hb, finB_negB ha, finB_negB hb, signB_negB ha, signB_negB hb]
  cases na : nanB a
  · cases nb : nanB b
    · simp only [Bool.or_self, Bool.false_eq_true, if_false]
      by_cases hf : (finB a && finB b) = true
      · rw [if_pos hf, if_pos hf]
        refine Or.inr ⟨_, _, rfl, rfl, ?_, ?_, add_mirror ha hb⟩
        · exact (roundN_facts _ _ _ _ (sumM_lt _ _ _ _ _ _ (splitM_lt a) (splitM_lt b))).1
        · exact (roundN_facts _ _ _ _ (sumM_lt _ _ _ _ _ _ (splitM_lt _) (splitM_lt _))).1
      · rw [if_neg hf, if_neg hf]
        have e : ((!signB a) != (!signB b)) = (signB a != signB b) := by cases signB a <;> cases signB b <;> rfl
        rw [e]
        by_cases hn : (!finB a && !finB b && (signB a != signB b)) = true
        · rw [if_pos hn, if_pos hn]; exact Or.inl ⟨rfl, rfl⟩
        · rw [if_neg hn, if_neg hn]
          cases finB a
          · simp only [Bool.false_eq_true, if_false]
            exact Or.inr ⟨_, _, rfl, rfl, na, by rw [nanB_negB ha, na], key_negB ha⟩
          · simp only [if_true]
            exact Or.inr ⟨_, _, rfl, rfl, nb, by rw [nanB_negB hb, nb], key_negB hb⟩
    · simp only [Bool.or_true, if_true]; exact Or.inl ⟨rfl, rfl⟩
  · simp only [Bool.true_or, if_true]; exact Or.inl ⟨rfl, rfl⟩

theorem infW_facts (g : Bool) : nanB (infW g) = false ∧ infW g ≠ 9223372036854775808 ∧ infW g < 18446744073709551616 ∧ key (infW (!g)) = - key (infW g) := by cases g <;> decide

theorem sides_same {v : Nat} (hv : v < 18446744073709551616) (hn : nanB v = false) (hz : v ≠ 9223372036854775808) : SidesOK v v v :=
  ⟨⟨hn, hn, hn⟩, ⟨hz, hz, hz⟩, ⟨hv, hv, hv⟩, Int.le_refl _, Int.le_refl _, Or.inl rfl⟩

theorem inf_ne {x : Nat} (hf : finB x = false) : x ≠ 9223372036854775808 := by
  rintro rfl; revert hf; decide

theorem addR_sides {a b : Nat} (ha : a < 18446744073709551616) (hb : b < 18446744073709551616) : SidesO (addR a b (-1)) (addR a b 0) (addR a b 1) := by
  unfold addR
  cases na : nanB a
  · cases nb : nanB b
    · simp only [Bool.or_self, Bool.false_eq_true, if_false]
      by_cases hf : (finB a && finB b) = true
      · simp only [hf, if_true]
        exact Or.inr ⟨_, _, _, rfl, rfl, rfl, round_sides _ _ _ (sumM_lt _ _ _ _ _ _ (splitM_lt a) (splitM_lt b))⟩
      · simp only [hf, Bool.false_eq_true, if_false]
        by_cases hn : (!finB a && !finB b && (signB a != signB b)) = true
        · simp only [hn, if_true]; exact Or.inl ⟨rfl, rfl, rfl⟩
        · simp only [hn, Bool.false_eq_true, if_false]
          cases fa : finB a
          · simp only [Bool.false_eq_true, if_false]
            exact Or.inr ⟨_, _, _, rfl, rfl, rfl, sides_same ha na (inf_ne fa)⟩
          · have fb : finB b = false := by rw [fa] at hf; simpa using hf
            simp only [if_true]
            exact Or.inr ⟨_, _, _, rfl, rfl, rfl, sides_same hb nb (inf_ne fb)⟩
    · simp only [Bool.or_true, if_true]; exact Or.inl ⟨rfl, rfl, rfl⟩
  · simp only [Bool.true_or, if_true]; exact Or.inl ⟨rfl, rfl, rfl⟩

theorem zero_sides : SidesOK 0 0 0 := sides_same (by omega) (by decide) (by omega)

theorem mulR_sides (a b : Nat) : SidesO (mulR a b (-1)) (mulR a b 0) (mulR a b 1) := by
  unfold mulR
  by_cases h1 : (nanB a || nanB b) = true
  · simp only [h1, if_true]; exact Or.inl ⟨rfl, rfl, rfl⟩
  · simp only [h1, Bool.false_eq_true, if_false]
    by_cases h2 : (isZ a || isZ b) = true
    · simp only [h2, if_true]; exact Or.inr ⟨_, _, _, rfl, rfl, rfl, zero_sides⟩
    · simp only [h2, Bool.false_eq_true, if_false]
      have za : isZ a = false := by cases h : isZ a <;> simp_all
      have zb : isZ b = false := by cases h : isZ b <;> simp_all
      by_cases h3 : (finB a && finB b) = true
      · simp only [h3, if_true]
        have l1 := splitM_lt a
        have l2 := splitM_lt b
        exact Or.inr ⟨_, _, _, rfl, rfl, rfl, round_sides _ _ _ (prodM_lt (splitM_zero za) (splitM_zero zb) (by omega) (by omega))⟩
      · simp only [h3, Bool.false_eq_true, if_false]
        have f := infW_facts (signB a != signB b)
        exact Or.inr ⟨_, _, _, rfl, rfl, rfl, sides_same f.2.2.1 f.1 f.2.1⟩

theorem divM_lt {a b : Nat} (zb : isZ b = false) : quoM (splitM a) (splitM b) < 18446744073709551616 := by
  have l1 := splitM_lt a
  have l2 := splitM_lt b
  by_cases z : splitM a = 0
  · rw [z, quoM_zero]; omega
  · exact quoM_lt z (splitM_zero zb) (by omega) (by omega)

theorem divR_sides (a b : Nat) : SidesO (divR a b (-1)) (divR a b 0) (divR a b 1) := by
  unfold divR
  by_cases h1 : (nanB a || nanB b || isZ b) = true
  · simp only [h1, if_true]; exact Or.inl ⟨rfl, rfl, rfl⟩
  · simp only [h1, Bool.false_eq_true, if_false]
    have zb : isZ b = false := by cases h : isZ b <;> simp_all
    cases finB a
    · simp only [Bool.not_false, if_true]
      cases finB b
      · simp only [Bool.not_false, if_true]; exact Or.inl ⟨rfl, rfl, rfl⟩
      · simp only [Bool.not_true, Bool.false_eq_true, if_false]
        have f := infW_facts (signB a != signB b)
        exact Or.inr ⟨_, _, _, rfl, rfl, rfl, sides_same f.2.2.1 f.1 f.2.1⟩
    · simp only [Bool.not_true, Bool.false_eq_true, if_false]
      cases finB b
      · simp only [Bool.not_false, if_true]; exact Or.inr ⟨_, _, _, rfl, rfl, rfl, zero_sides⟩
      · simp only [Bool.not_true, Bool.false_eq_true, if_false]
        exact Or.inr ⟨_, _, _, rfl, rfl, rfl, round_sides _ _ _ (divM_lt zb)⟩

theorem sqrtR_sides {a : Nat} (ha : a < 18446744073709551616) : SidesO (sqrtR a (-1)) (sqrtR a 0) (sqrtR a 1) := by
  unfold sqrtR
  by_cases h1 : (nanB a || splitG a) = true
  · simp only [h1, if_true]; exact Or.inl ⟨rfl, rfl, rfl⟩
  · simp only [h1, Bool.false_eq_true, if_false]
    have na : nanB a = false := by cases h : nanB a <;> simp_all
    cases fa : finB a
    · simp only [Bool.false_eq_true, if_false]
      exact Or.inr ⟨_, _, _, rfl, rfl, rfl, sides_same ha na (inf_ne fa)⟩
    · simp only [if_true]
      have l1 := splitM_lt a
      exact Or.inr ⟨_, _, _, rfl, rfl, rfl, round_sides _ _ _ (rootM_lt (by omega))⟩

theorem mulR_mirror {a b : Nat} (ha : a < 18446744073709551616) : Mirror (mulR a b (-1)) (mulR (negB a) b 1) := by
  unfold mulR
  rw [nanB_negB ha, finB_negB ha, isZ_negB ha, signB_negB ha]
  by_cases h1 : (nanB a || nanB b) = true
  · simp only [h1, if_true]; exact Or.inl ⟨rfl, rfl⟩
  · simp only [h1, Bool.false_eq_true, if_false]
    by_cases h2 : (isZ a || isZ b) = true
    · simp only [h2, if_true]; exact Or.inr ⟨_, _, rfl, rfl, by decide, by decide, by decide⟩
    · simp only [h2, Bool.false_eq_true, if_false]
      have za : isZ a = false := by cases h : isZ a <;> simp_all
      have zb : isZ b = false := by cases h : isZ b <;> simp_all
      by_cases h3 : (finB a && finB b) = true
      · simp only [h3, if_true]
        have l1 := splitM_lt a
        have l2 := splitM_lt b
        have hm := prodM_lt (splitM_zero za) (splitM_zero zb) (show splitM a < 18446744073709551616 by omega) (show splitM b < 18446744073709551616 by omega)
        refine Or.inr ⟨_, _, rfl, rfl, (roundN_facts _ _ _ _ hm).1, ?_, ?_⟩
        · unfold mulF; rw [splitM_negB ha]; exact (roundN_facts _ _ _ _ hm).1
        · unfold mulF
          rw [splitM_negB ha, splitE_negB ha, splitG_negB ha (splitM_zero za)]
          have e : ((!splitG a) != splitG b) = !(splitG a != splitG b) := by cases splitG a <;> cases splitG b <;> rfl
          rw [e]; exact round_mirror _ _ _ hm
      · simp only [h3, Bool.false_eq_true, if_false]
        have e : ((!signB a) != signB b) = !(signB a != signB b) := by cases signB a <;> cases signB b <;> rfl
        rw [e]
        exact Or.inr ⟨_, _, rfl, rfl, (infW_facts _).1, (infW_facts _).1, (infW_facts _).2.2.2⟩

theorem divR_mirror {a b : Nat} (hb : b < 18446744073709551616) : Mirror (divR a b (-1)) (divR a (negB b) 1) := by
  unfold divR
  rw [nanB_negB hb, finB_negB hb, isZ_negB hb, signB_negB hb]
  by_cases h1 : (nanB a || nanB b || isZ b) = true
  · simp only [h1, if_true]; exact Or.inl ⟨rfl, rfl⟩
  · simp only [h1, Bool.false_eq_true, if_false]
    have zb : isZ b = false := by cases h : isZ b <;> simp_all
    cases finB a
    · simp only [Bool.not_false, if_true]
      cases finB b
      · simp only [Bool.not_false, if_true]; exact Or.inl ⟨rfl, rfl⟩
      · simp only [Bool.not_true, Bool.false_eq_true, if_false]
        have e : (signB a != !signB b) = !(signB a != signB b) := by cases signB a <;> cases signB b <;> rfl
        rw [e]
        exact Or.inr ⟨_, _, rfl, rfl, (infW_facts _).1, (infW_facts _).1, (infW_facts _).2.2.2⟩
    · simp only [Bool.not_true, Bool.false_eq_true, if_false]
      cases finB b
      · simp only [Bool.not_false, if_true]; exact Or.inr ⟨_, _, rfl, rfl, by decide, by decide, by decide⟩
      · simp only [Bool.not_true, Bool.false_eq_true, if_false]
        have hm := divM_lt (a := a) zb
        refine Or.inr ⟨_, _, rfl, rfl, (roundN_facts _ _ _ _ hm).1, ?_, ?_⟩
        · unfold divF; rw [splitM_negB hb]; exact (roundN_facts _ _ _ _ hm).1
        · unfold divF
          rw [splitM_negB hb, splitE_negB hb, splitG_negB hb (splitM_zero zb)]
          have e : (splitG a != !splitG b) = !(splitG a != splitG b) := by cases splitG a <;> cases splitG b <;> rfl
          rw [e]; exact round_mirror _ _ _ hm

theorem addR_comm (a b : Nat) (ha : a < 18446744073709551616) (hb : b < 18446744073709551616) : addR a b 0 = addR b a 0 := by
  unfold addR
  rw [Bool.or_comm (nanB b) (nanB a), Bool.and_comm (finB b) (finB a)]
  cases na : nanB a
  · cases nb : nanB b
    · simp only [Bool.or_self, Bool.false_eq_true, if_false]
      by_cases hf : (finB a && finB b) = true
      · simp only [hf, if_true]
        congr 1
        unfold addF
        generalize splitM a = ma
        generalize splitM b = mb
        generalize splitE a = ea
        generalize splitE b = eb
        generalize splitG a = ga
        generalize splitG b = gb
        by_cases z1 : ma = 0
        · by_cases z2 : mb = 0
          · have e1 : sumM ga ma ea gb mb eb = 0 := by unfold sumM; rw [if_pos z1, z2]
            have e2 : sumM gb mb eb ga ma ea = 0 := by unfold sumM; rw [if_pos z2, z1]
            rw [e1, e2]; rfl
          · unfold sumM sumG sumE; simp only [z1, z2, if_true, if_false]
        · by_cases z2 : mb = 0
          · unfold sumM sumG sumE; simp only [z1, z2, if_true, if_false]
          · by_cases s1 : ea < eb ∨ ea = eb ∧ ma < mb
            · have s2 : ¬ (eb < ea ∨ eb = ea ∧ mb < ma) := by omega
              unfold sumM sumG sumE swapP
              simp only [z1, z2, if_false, s1, s2, decide_true, decide_false, if_true, Bool.false_eq_true]
            · by_cases s2 : eb < ea ∨ eb = ea ∧ mb < ma
              · unfold sumM sumG sumE swapP
                simp only [z1, z2, if_false, s1, s2, decide_true, decide_false, if_true, Bool.false_eq_true]
              · have e1 : ea = eb := by omega
                have e2 : ma = mb := by omega
                subst e1 e2
                by_cases g : ga = gb
                · subst g; rfl
                · have mv : moveN (ma * 1024) (ea - ea).toNat = ma * 1024 := by
                    have : (ea - ea).toNat = 0 := by omega
                    rw [this]; unfold moveN markN; simp [Nat.mod_one]
                  have sw : swapP ma ea ma ea = false := by unfold swapP; simp
                  have q1 : sumM ga ma ea gb ma ea = 0 := by
                    unfold sumM addM
                    have : (ga != gb) = true := by simpa using g
                    simp only [z1, if_false, sw, Bool.false_eq_true, this, if_true, mv]; omega
                  have q2 : sumM gb ma ea ga ma ea = 0 := by
                    unfold sumM addM
                    have : (gb != ga) = true := by simpa using fun h : gb = ga => g h.symm
                    simp only [z1, if_false, sw, Bool.false_eq_true, this, if_true, mv]; omega
                  rw [q1, q2]; rfl
      · simp only [hf, Bool.false_eq_true, if_false]
        cases fa : finB a
        · cases fb : finB b
          · have ea := inf_word ha na fa
            have eb := inf_word hb nb fb
            unfold signB
            simp only [Bool.not_false, Bool.true_and, Bool.false_eq_true, if_false]
            generalize decide (9223372036854775808 ≤ a) = s at *
            generalize decide (9223372036854775808 ≤ b) = t at *
            cases s <;> cases t <;> simp_all
          · simp only [Bool.not_true, Bool.and_false, Bool.false_and, Bool.false_eq_true, if_false, if_true]
        · have fb : finB b = false := by rw [fa] at hf; simpa using hf
          rw [fb]
          simp only [Bool.not_true, Bool.and_false, Bool.false_and, Bool.false_eq_true, if_false, if_true]
    · simp only [Bool.or_true, if_true]
  · simp only [Bool.true_or, if_true]

theorem mulR_comm (a b : Nat) : mulR a b 1 = mulR b a 1 := by
  unfold mulR mulF prodM prodE
  rw [Bool.or_comm (nanB b) (nanB a), Bool.and_comm (finB b) (finB a), Bool.or_comm (isZ b) (isZ a), Nat.mul_comm (topN (splitM b)) (topN (splitM a)), Int.add_comm (splitE b - shiftN (splitM b)) (splitE a - shiftN (splitM a))]
  have e1 : (splitG b != splitG a) = (splitG a != splitG b) := by cases splitG a <;> cases splitG b <;> rfl
  have e2 : (signB b != signB a) = (signB a != signB b) := by cases signB a <;> cases signB b <;> rfl
  rw [e1, e2]

end Go.Proofs.Ytdnpoacjamkhkaa
