/- The greater the intervals are, the greater are quotients, roots, powers, meets and sizes. -/
import Derived.Test.YtnchhfhoaepjnaaGreatKi
import Derived.Test.YtnchhfhoaepjnaaGreatKu
import Derived.Test.YtnchhfhoaepjnaaGreatKx
namespace Go.Proofs.YtnchhfhoaepjnaaGreat
open Go.ChangeShapes Go.WideShapes Go.ChangeAt Go.RowKit

/-- Rounded up, products of what is not below 0 rise. -/
theorem mul_rise_up {p a q : Nat} (hp : p < 18446744073709551616) (ha : a < 18446744073709551616) (hq : q < 18446744073709551616) (np : nanB p = false) (na : nanB a = false) (nq : nanB q = false) (k0 : 0 ≤ key q) (h : key p ≤ key a) : key (mulV p q 1) ≤ key (mulV a q 1) := by
  rw [mulV_mirror' hp np nq, mulV_mirror' ha na nq]
  have := mul_rise (negB_lt ha) (negB_lt hp) hq (by rw [nanB_negB ha]; exact na) (by rw [nanB_negB hp]; exact np) nq k0 (by rw [key_negB ha, key_negB hp]; omega)
  omega

theorem pow_rise {a b : Nat} (d : Int) (hd : d = -1 ∨ d = 1) (ha : a < 18446744073709551616) (hb : b < 18446744073709551616) (na : nanB a = false) (nb : nanB b = false) (k0 : 0 ≤ key a) (k1 : key a ≤ key b) (n : Nat) : key (powW a d n) ≤ key (powW b d n) := by
  induction n with
  | zero => exact k1
  | succ n ih =>
    have f := pow_num d ha na n
    have g := pow_num d hb nb n
    have q0 := pow_nneg d hd hb nb (by omega) n
    show key (mulV (powW a d n) a d) ≤ key (mulV (powW b d n) b d)
    rcases hd with rfl | rfl
    · have s1 := mul_rise f.2 g.2 ha f.1 g.1 na k0 ih
      have s2 := mul_rise ha hb g.2 na nb g.1 q0 k1
      rw [mulV_comm a, mulV_comm b] at s2
      omega
    · have s1 := mul_rise_up f.2 g.2 ha f.1 g.1 na k0 ih
      have s2 := mul_rise_up ha hb g.2 na nb g.1 q0 k1
      rw [mulV_comm a, mulV_comm b] at s2
      omega

theorem mig_key {lo hi : Nat} (hl : lo < 18446744073709551616) (hh : hi < 18446744073709551616) (S : Some2 lo hi) : key (migP lo hi) = (if 0 < key lo then key lo else if key hi < 0 then - key hi else 0) ∧ key (magP lo hi) = max (- key lo) (key hi) := by
  have hs := hs_iff.2 S
  have a1 := key_abs hl
  have a2 := key_abs hh
  have kl := S.le
  have w1 : lo % 9223372036854775808 < 9223372036854775808 := Nat.mod_lt _ (by omega)
  have w2 : hi % 9223372036854775808 < 9223372036854775808 := Nat.mod_lt _ (by omega)
  unfold migP magP
  rw [hs]
  simp only [if_true]
  rw [maxW_is (by omega) (by omega), minW_is (by omega) (by omega)]
  generalize lo % 9223372036854775808 = A at *
  generalize hi % 9223372036854775808 = B at *
  have hb : hasB lo hi 0 = decide (key lo ≤ 0 ∧ 0 ≤ key hi) := by
    by_cases c : key lo ≤ 0 ∧ 0 ≤ key hi
    · rw [decide_eq_true c]
      exact has_iff.2 ⟨S, by decide, by decide, c.1, c.2⟩
    · rw [decide_eq_false c]
      cases h : hasB lo hi 0
      · rfl
      · have := has_iff.1 h
        exact absurd ⟨this.2.2.2.1, this.2.2.2.2⟩ c
  rw [hb]
  refine ⟨?_, ?_⟩
  · by_cases c : key lo ≤ 0 ∧ 0 ≤ key hi
    · rw [decide_eq_true c, if_pos rfl, if_neg (by omega), if_neg (by omega)]
      rfl
    · rw [decide_eq_false c, if_neg (by simp)]
      split at a1 <;> split at a2 <;> split <;> split <;> try split
      all_goals omega
  · split at a1 <;> split at a2 <;> split <;> omega

theorem even_gr {xl xh ul uh : Nat} (X : In xl xh ul uh) (k : Nat) : Gr (powE xl xh k) (powE ul uh k) := by
  obtain ⟨k1, k2, k3, n1, n2, w1, w2⟩ := mag_keys X.a1 X.a2 X.S
  obtain ⟨j1, j2, j3, m1, m2, v1, v2⟩ := mag_keys X.b1 X.b2 X.T
  obtain ⟨a1, a2⟩ := mig_key X.a1 X.a2 X.S
  obtain ⟨b1, b2⟩ := mig_key X.b1 X.b2 X.T
  have kl := X.kl
  have kh := X.kh
  have ks := X.S.le
  refine gr_some (even_some X.a1 X.a2 X.S k) (even_some X.b1 X.b2 X.T k) (pow_rise (-1) (Or.inl rfl) (by omega) (by omega) m1 n1 j1 ?_ k) (pow_rise 1 (Or.inr rfl) (by omega) (by omega) n2 m2 (by omega) ?_ k)
  · rw [a1, b1]
    split <;> split <;> try split
    all_goals try split
    all_goals omega
  · rw [a2, b2]
    omega

theorem sqr_gr {xl xh ul uh : Nat} (X : In xl xh ul uh) : Gr (sqrP xl xh) (sqrP ul uh) := by
  have e1 : sqrP xl xh = powE xl xh 1 := by unfold sqrP; rw [if_pos (hs_iff.2 X.S)]; rfl
  have e2 : sqrP ul uh = powE ul uh 1 := by unfold sqrP; rw [if_pos (hs_iff.2 X.T)]; rfl
  rw [e1, e2]
  exact even_gr X 1

theorem odd_rise {a b : Nat} (d : Int) (hd : d = -1 ∨ d = 1) (ha : a < 18446744073709551616) (hb : b < 18446744073709551616) (na : nanB a = false) (nb : nanB b = false) (h : key a ≤ key b) (k : Nat) : key (oddW a k d) ≤ key (oddW b k d) := by
  have n1 : nanB (negB a) = false := by rw [nanB_negB ha]; exact na
  have n2 : nanB (negB b) = false := by rw [nanB_negB hb]; exact nb
  have hd' : -d = -1 ∨ -d = 1 := by omega
  have f := pow_num (-d) (negB_lt ha) n1 k
  have g := pow_num (-d) (negB_lt hb) n2 k
  have ka := key_negB ha
  have kb := key_negB hb
  unfold oddW
  rw [lt0 na, lt0 nb]
  by_cases c1 : key a < 0
  · rw [decide_eq_true c1, if_pos rfl, key_negB f.2]
    have p := pow_nneg (-d) hd' (negB_lt ha) n1 (by omega) k
    by_cases c2 : key b < 0
    · rw [decide_eq_true c2, if_pos rfl, key_negB g.2]
      have := pow_rise (-d) hd' (negB_lt hb) (negB_lt ha) n2 n1 (by omega) (by omega) k
      omega
    · rw [decide_eq_false c2, if_neg (by simp)]
      have := pow_nneg d hd hb nb (by omega) k
      omega
  · rw [decide_eq_false c1, if_neg (by simp), decide_eq_false (by omega), if_neg (by simp)]
    exact pow_rise d hd ha hb na nb (by omega) h k

theorem odd_updown {v : Nat} (hv : v < 18446744073709551616) (nv : nanB v = false) (k : Nat) : key (oddW v k (-1)) ≤ key (oddW v k 1) := by
  have nn : nanB (negB v) = false := by rw [nanB_negB hv]; exact nv
  have kn := key_negB hv
  unfold oddW
  rw [lt0 nv]
  by_cases c : key v < 0
  · rw [decide_eq_true c, if_pos rfl, if_pos rfl, key_negB (pow_num _ (negB_lt hv) nn k).2, key_negB (pow_num _ (negB_lt hv) nn k).2]
    have := pow_le (negB_lt hv) (negB_lt hv) nn nn (by omega) (Int.le_refl _) k
    simp only [Int.neg_neg]
    omega
  · rw [decide_eq_false c, if_neg (by simp), if_neg (by simp)]
    exact pow_le hv hv nv nv (by omega) (Int.le_refl _) k

theorem odd_some {lo hi : Nat} (hl : lo < 18446744073709551616) (hh : hi < 18446744073709551616) (S : Some2 lo hi) (k : Nat) : Some2 (powO lo hi k).1 (powO lo hi k).2 ∧ key (powO lo hi k).1 = key (oddW lo k (-1)) ∧ key (powO lo hi k).2 = key (oddW hi k 1) := by
  have f := odd_facts hl S.nl k (-1)
  have g := odd_facts hh S.nh k 1
  have a := odd_low hl S.nl S.lt k
  have b := odd_high hh S.nh S.gt k
  have r := odd_rise (-1) (Or.inl rfl) hl hh S.nl S.nh S.le k
  have u := odd_updown hh S.nh k
  have P : Some2 (pz (oddW lo k (-1))) (pz (oddW hi k 1)) := ⟨by rw [nan_pz]; exact f.1, by rw [nan_pz]; exact g.1, by rw [key_pz, key_pz]; omega, by rw [key_pz]; omega, by rw [key_pz]; omega, pz_ne _, pz_ne _⟩
  have e : powO lo hi k = (pz (oddW lo k (-1)), pz (oddW hi k 1)) := by unfold powO makeP; rw [hs_iff.2 P]; rfl
  rw [e]
  exact ⟨P, key_pz _, key_pz _⟩

theorem pos_gr {xl xh ul uh : Nat} (X : In xl xh ul uh) (n : Int) : Gr (posP xl xh n) (posP ul uh n) := by
  unfold posP
  split
  · exact even_gr X _
  · obtain ⟨A, k1, k2⟩ := odd_some X.a1 X.a2 X.S (n - 1).toNat
    obtain ⟨A', k3, k4⟩ := odd_some X.b1 X.b2 X.T (n - 1).toNat
    refine gr_some A A' ?_ ?_
    · rw [k1, k3]
      exact odd_rise (-1) (Or.inl rfl) X.b1 X.a1 X.T.nl X.S.nl X.kl _
    · rw [k2, k4]
      exact odd_rise 1 (Or.inr rfl) X.a2 X.b2 X.S.nh X.T.nh X.kh _

theorem Gr.in {p q : Nat × Nat} (h : Gr p q) (S : Some2 p.1 p.2) (a1 : p.1 < 18446744073709551616) (a2 : p.2 < 18446744073709551616) (b1 : q.1 < 18446744073709551616) (b2 : q.2 < 18446744073709551616) : In p.1 p.2 q.1 q.2 := by
  rcases h with ⟨rfl, -⟩ | ⟨S, T, k1, k2⟩
  · have := hs_iff.2 S
    rw [empty_some] at this
    cases this
  · exact ⟨S, T, k1, k2, a1, a2, b1, b2⟩

/-- Quotients. -/
theorem lq_bot {t dl dh : Nat} (ht : t < 18446744073709551616) (h1 : dl < 18446744073709551616) (nt : nanB t = false) (n1 : nanB dl = false) (k0 : 0 ≤ key dl) (kd : key dl < 9218868437227405312) (k : key t = -9218868437227405312) : key (lqP t dl dh) = -9218868437227405312 := by
  unfold lqP
  rw [le00 nt, decide_eq_false (by omega), if_neg (by simp), eq00 n1]
  by_cases c : key dl = 0
  · rw [decide_eq_true c, if_pos rfl]; exact key_down
  · rw [decide_eq_false c, if_neg (by simp)]
    have ft : finB t = false := (key_inf ht nt).2 (Or.inr k)
    have fl : finB dl = true := fin_of h1 n1 k0 (by omega)
    have zl := isZ_pos h1 c
    have zt := isZ_pos ht (show key t ≠ 0 by omega)
    have e : divR t dl (-1) = some (infW (signB t != signB dl)) := by unfold divR; rw [nt, n1, zl, ft, fl]; simp
    unfold divD
    rw [e, Option.getD_some, sign_key ht zt, sign_key h1 zl, decide_eq_true (by omega), decide_eq_false (by omega)]
    decide

theorem lq_grows {t dl dh t' dl' dh' : Nat} (ht : t < 18446744073709551616) (h1 : dl < 18446744073709551616) (h2 : dh < 18446744073709551616) (ht' : t' < 18446744073709551616) (h1' : dl' < 18446744073709551616) (h2' : dh' < 18446744073709551616)
    (nt : nanB t = false) (n1 : nanB dl = false) (n2 : nanB dh = false) (nt' : nanB t' = false) (n1' : nanB dl' = false) (n2' : nanB dh' = false)
    (kt : key t < 9218868437227405312) (k0 : 0 ≤ key dl') (ktt : key t' ≤ key t) (kl : key dl' ≤ key dl) (kd : key dl ≤ key dh) (kdl : key dl < 9218868437227405312) (kp : 0 < key dh) (kh : key dh ≤ key dh') : key (lqP t' dl' dh') ≤ key (lqP t dl dh) := by
  have rt := key_range ht nt
  have rt' := key_range ht' nt'
  have rh := key_range h2 n2
  have rh' := key_range h2' n2'
  by_cases cb : key t = -9218868437227405312
  · rw [lq_bot ht' h1' nt' n1' k0 (by omega) (by omega), lq_bot ht h1 nt n1 (by omega) kdl cb]
    exact Int.le_refl _
  · have ft : finB t = true := by
      cases h : finB t
      · rcases (key_inf ht nt).1 h with z | z <;> omega
      · rfl
    have e : lqP t dl dh = if leB 0 t then divD t dh else if eqB dl 0 then infI (-1) else divD t dl := rfl
    rw [e, le00 nt]
    by_cases c : 0 ≤ key t
    · rw [decide_eq_true c, if_pos rfl]
      cases fh : finB dh
      · have kh1 : key dh = 9218868437227405312 := by rcases (key_inf h2 n2).1 fh with z | z <;> omega
        have zh := isZ_pos h2 (show key dh ≠ 0 by omega)
        have ed : divD t dh = 0 := by unfold divD divR; rw [nt, n2, zh, ft, fh]; simp
        have k00 : key 0 = 0 := by decide
        rw [ed, k00]
        have kh2 : key dh' = 9218868437227405312 := by omega
        have fh' : finB dh' = false := (key_inf h2' n2').2 (Or.inl kh2)
        have zh' := isZ_pos h2' (show key dh' ≠ 0 by omega)
        have e' : lqP t' dl' dh' = if leB 0 t' then divD t' dh' else if eqB dl' 0 then infI (-1) else divD t' dl' := rfl
        rw [e', le00 nt']
        by_cases c' : 0 ≤ key t'
        · rw [decide_eq_true c', if_pos rfl]
          have ft' : finB t' = true := fin_of ht' nt' c' (by omega)
          have ed' : divD t' dh' = 0 := by unfold divD divR; rw [nt', n2', zh', ft', fh']; simp
          rw [ed', k00]
          exact Int.le_refl _
        · rw [decide_eq_false c', if_neg (by simp), eq00 n1']
          by_cases z : key dl' = 0
          · rw [decide_eq_true z, if_pos rfl, key_down]; omega
          · rw [decide_eq_false z, if_neg (by simp)]
            have fl' : finB dl' = true := fin_of h1' n1' k0 (by omega)
            have zl' := isZ_pos h1' z
            by_cases cb' : key t' = -9218868437227405312
            · have b := lq_bot (dh := dh') ht' h1' nt' n1' k0 (by omega) cb'
              rw [e', le00 nt', decide_eq_false c', if_neg (by simp), eq00 n1', decide_eq_false z, if_neg (by simp)] at b
              rw [b]; omega
            · have ft' : finB t' = true := by
                cases h : finB t'
                · rcases (key_inf ht' nt').1 h with z | z <;> omega
                · rfl
              have ed' : divD t' dl' = divF t' dl' (-1) := by unfold divD; rw [divR_fin (-1) ft' fl' zl', Option.getD_some]
              rw [ed']
              have s := div_sides ht' h1' ft' fl' zl'
              have u := div_mirror (a := t') (b := dl') h1' ft' fl' zl'
              have fl := div_flip (a := negB t') (b := dl') (negB_lt ht') h1' (by rw [finB_negB ht']; exact ft') fl' zl'
              rw [negB_negB ht'] at fl
              have p := div_nonneg (a := negB t') (b := dl') (negB_lt ht') h1' (by rw [finB_negB ht']; exact ft') fl' (by rw [key_negB ht']; omega) (by omega)
              rw [fl] at u
              refine Int.le_trans s.1.le (Int.le_trans s.2.1.le ?_)
              rw [u]
              exact Int.neg_nonpos_of_nonneg p
      · have fd : finB dh = true := fh
        have zh := isZ_pos h2 (show key dh ≠ 0 by omega)
        have ed : divD t dh = divF t dh (-1) := by unfold divD; rw [divR_fin (-1) ft fd zh, Option.getD_some]
        rw [ed]
        exact (lq_some ht' h1' h2' ht h2 nt' n1' n2' ft fd k0 ktt (by omega) kh kp).2.2.le
    · rw [decide_eq_false c, if_neg (by simp), eq00 n1]
      by_cases z : key dl = 0
      · rw [decide_eq_true z, if_pos rfl, key_down]
        have e' : lqP t' dl' dh' = if leB 0 t' then divD t' dh' else if eqB dl' 0 then infI (-1) else divD t' dl' := rfl
        rw [e', le00 nt', decide_eq_false (by omega), if_neg (by simp), eq00 n1', decide_eq_true (show key dl' = 0 by omega), if_pos rfl, key_down]
        exact Int.le_refl _
      · rw [decide_eq_false z, if_neg (by simp)]
        have fl : finB dl = true := fin_of h1 n1 (by omega) (by omega)
        have zl := isZ_pos h1 z
        have ed : divD t dl = divF t dl (-1) := by unfold divD; rw [divR_fin (-1) ft fl zl, Option.getD_some]
        rw [ed]
        exact (lq_some ht' h1' h2' ht h1 nt' n1' n2' ft fl k0 ktt kl (by omega) (by omega)).2.2.le

end Go.Proofs.YtnchhfhoaepjnaaGreat

namespace Go.Proofs.YtnchhfhoaepjnaaGreat
open Go.ChangeShapes Go.WideShapes Go.ChangeAt Go.RowKit

theorem shrink_some {xl xh dl dh : Nat} (h1 : xl < 18446744073709551616) (h2 : xh < 18446744073709551616) (h3 : dl < 18446744073709551616) (h4 : dh < 18446744073709551616) (S : Some2 xl xh) (T : Some2 dl dh) (k0 : 0 ≤ key dl) (k1 : 0 < key dh) :
    Some2 (shrinkP xl xh dl dh).1 (shrinkP xl xh dl dh).2 ∧ key (shrinkP xl xh dl dh).1 = key (lqP xl dl dh) ∧ key (shrinkP xl xh dl dh).2 = - key (lqP (negB xh) dl dh) := by
  obtain ⟨-, b1, b2, w1, w2, n1, n2⟩ := shrink_w h1 h2 h3 h4 S T k0 k1
  obtain ⟨a, X⟩ := held_some h1 h2 S
  obtain ⟨b, D, kb⟩ := held_pos h3 h4 T k0 k1
  have zb := isZ_pos D.hv (show key b ≠ 0 by omega)
  have l1 := (lq_some X.hl D.hl D.hh X.hv D.hv X.nl D.nl D.nh X.fv D.fv k0 X.kl D.kl D.kh kb).2.2.le
  have fn : finB (negB a) = true := by rw [finB_negB X.hv]; exact X.fv
  have xk := X.kh
  have l2 := (lq_some (negB_lt X.hh) D.hl D.hh (negB_lt X.hv) D.hv (by rw [nanB_negB X.hh]; exact X.nh) D.nl D.nh fn D.fv k0 (by rw [key_negB X.hh, key_negB X.hv]; omega) D.kl D.kh kb).2.2.le
  have s := div_sides X.hv D.hv X.fv D.fv zb
  have u := div_mirror (a := a) (b := b) D.hv X.fv D.fv zb
  have fl := div_flip (a := negB a) (b := b) (negB_lt X.hv) D.hv fn D.fv zb
  rw [negB_negB X.hv] at fl
  rw [fl] at u
  have s1 := Int.le_trans s.1.le s.2.1.le
  have le : key (lqP xl dl dh) ≤ - key (lqP (negB xh) dl dh) := by
    have := Int.le_trans l1 s1
    rw [u] at this
    exact Int.le_trans this (Int.neg_le_neg l2)
  have kn := key_negB w2
  have r1 := key_range w1 n1
  generalize hp : lqP xl dl dh = p at *
  generalize hq : lqP (negB xh) dl dh = q at *
  have P : Some2 (pz p) (pz (negB q)) := ⟨by rw [nan_pz]; exact n1, by rw [nan_pz, nanB_negB w2]; exact n2, by rw [key_pz, key_pz, kn]; exact le, by rw [key_pz]; omega, by rw [key_pz, kn]; omega, pz_ne _, pz_ne _⟩
  have e : shrinkP xl xh dl dh = (pz p, pz (negB q)) := by unfold shrinkP makeP; rw [hp, hq, hs_iff.2 P]; rfl
  rw [e]
  exact ⟨P, key_pz _, by show key (pz (negB q)) = _; rw [key_pz, kn]⟩

theorem shrink_gr {xl xh ul uh yl yh vl vh : Nat} (X : In xl xh ul uh) (Y : In yl yh vl vh) (k0 : 0 ≤ key vl) (k1 : 0 < key yh) : Gr (shrinkP xl xh yl yh) (shrinkP ul uh vl vh) := by
  have yk := Y.kl
  have yh' := Y.kh
  have xk := X.kh
  have ys := Y.S.le
  have sg := X.S.gt
  obtain ⟨A, a1, a2⟩ := shrink_some X.a1 X.a2 Y.a1 Y.a2 X.S Y.S (by omega) k1
  obtain ⟨A', b1, b2⟩ := shrink_some X.b1 X.b2 Y.b1 Y.b2 X.T Y.T k0 (by omega)
  refine gr_some A A' ?_ ?_
  · rw [a1, b1]
    exact lq_grows X.a1 Y.a1 Y.a2 X.b1 Y.b1 Y.b2 X.S.nl Y.S.nl Y.S.nh X.T.nl Y.T.nl Y.T.nh X.S.lt k0 X.kl Y.kl ys Y.S.lt k1 Y.kh
  · rw [a2, b2]
    have := lq_grows (negB_lt X.a2) Y.a1 Y.a2 (negB_lt X.b2) Y.b1 Y.b2 (by rw [nanB_negB X.a2]; exact X.S.nh) Y.S.nl Y.S.nh (by rw [nanB_negB X.b2]; exact X.T.nh) Y.T.nl Y.T.nh (by rw [key_negB X.a2]; omega) k0 (by rw [key_negB X.a2, key_negB X.b2]; omega) Y.kl ys Y.S.lt k1 Y.kh
    exact Int.neg_le_neg this

theorem zero_some : Some2 0 0 := hs_iff.1 (by decide)
theorem whole_some : Some2 (infI (-1)) (infI 1) := hs_iff.1 (by decide)

/-- A quotient of nought lies in the greater one's. -/
theorem zero_gr {xl xh ul uh yl yh vl vh : Nat} (X : In xl xh ul uh) (Y : In yl yh vl vh) (cx : key xl = 0 ∧ key xh = 0) (k0 : 0 ≤ key vl) (k1 : 0 < key yh) : Gr (0, 0) (shrinkP ul uh vl vh) := by
  have yk := Y.kl
  have ys := Y.S.le
  have g := shrink_gr X Y k0 k1
  obtain ⟨A, a1, a2⟩ := shrink_some X.a1 X.a2 Y.a1 Y.a2 X.S Y.S (by omega) k1
  have zh := isZ_pos Y.a2 (show key yh ≠ 0 by omega)
  have q : ∀ t, t < 18446744073709551616 → nanB t = false → key t = 0 → key (lqP t yl yh) = 0 := fun t ht nt kt => by
    unfold lqP
    rw [le00 nt, decide_eq_true (by omega), if_pos rfl, divD_zero ht nt Y.S.nh kt zh]
    decide
  rw [q xl X.a1 X.S.nl cx.1] at a1
  rw [q (negB xh) (negB_lt X.a2) (by rw [nanB_negB X.a2]; exact X.S.nh) (by rw [key_negB X.a2]; omega)] at a2
  rcases g with ⟨e, -⟩ | ⟨-, T, g1, g2⟩
  · rw [e] at A
    have := hs_iff.2 A
    rw [empty_some] at this
    cases this
  · have k00 : key 0 = 0 := by decide
    refine gr_some zero_some T ?_ ?_
    · show _ ≤ key 0
      omega
    · show key 0 ≤ _
      omega

theorem mirror_in {xl xh ul uh : Nat} (X : In xl xh ul uh) : In (mirrorP (xl, xh)).1 (mirrorP (xl, xh)).2 (mirrorP (ul, uh)).1 (mirrorP (ul, uh)).2 := by
  have e1 : negP (xl, xh) = mirrorP (xl, xh) := by unfold negP; rw [if_pos (hs_iff.2 X.S)]
  have e2 : negP (ul, uh) = mirrorP (ul, uh) := by unfold negP; rw [if_pos (hs_iff.2 X.T)]
  have := neg_in X
  rw [e1, e2] at this
  exact this

theorem div_gr {xl xh ul uh yl yh vl vh : Nat} (X : In xl xh ul uh) (Y : In yl yh vl vh) : Gr (divP xl xh yl yh) (divP ul uh vl vh) := by
  have xk1 := X.kl
  have xk2 := X.kh
  have xs := X.S.le
  have xt := X.T.le
  have yk1 := Y.kl
  have yk2 := Y.kh
  have ys := Y.S.le
  have yt := Y.T.le
  have p1 : divP xl xh yl yh = if key yl = 0 ∧ key yh = 0 then (infI 1, infI (-1)) else if key xl = 0 ∧ key xh = 0 then (0, 0) else if 0 ≤ key yl then shrinkP xl xh yl yh else if key yh ≤ 0 then shrinkP (mirrorP (xl, xh)).1 (mirrorP (xl, xh)).2 (mirrorP (yl, yh)).1 (mirrorP (yl, yh)).2 else (infI (-1), infI 1) := by
    unfold divP; rw [hs_iff.2 X.S, hs_iff.2 Y.S]; rfl
  have p2 : divP ul uh vl vh = if key vl = 0 ∧ key vh = 0 then (infI 1, infI (-1)) else if key ul = 0 ∧ key uh = 0 then (0, 0) else if 0 ≤ key vl then shrinkP ul uh vl vh else if key vh ≤ 0 then shrinkP (mirrorP (ul, uh)).1 (mirrorP (ul, uh)).2 (mirrorP (vl, vh)).1 (mirrorP (vl, vh)).2 else (infI (-1), infI 1) := by
    unfold divP; rw [hs_iff.2 X.T, hs_iff.2 Y.T]; rfl
  obtain ⟨MX, m1, m2, -, -⟩ := mirror_some X.a1 X.a2 X.S
  obtain ⟨MU, m3, m4, -, -⟩ := mirror_some X.b1 X.b2 X.T
  obtain ⟨MY, m5, m6, -, -⟩ := mirror_some Y.a1 Y.a2 Y.S
  obtain ⟨MV, m7, m8, -, -⟩ := mirror_some Y.b1 Y.b2 Y.T
  have IX := mirror_in X
  have IY := mirror_in Y
  rw [p1, p2]
  by_cases cv : key vl = 0 ∧ key vh = 0
  · rw [if_pos cv, if_pos (by omega)]; exact gr_empty
  · rw [if_neg cv]
    by_cases cy : key yl = 0 ∧ key yh = 0
    · rw [if_pos cy]
      refine Or.inl ⟨rfl, Or.inr ?_⟩
      split
      · exact zero_some
      · split
        · exact (shrink_some X.b1 X.b2 Y.b1 Y.b2 X.T Y.T (by omega) (by omega)).1
        · split
          · exact (shrink_some IX.b1 IX.b2 IY.b1 IY.b2 MU MV (by omega) (by omega)).1
          · exact whole_some
    · rw [if_neg cy]
      by_cases cu : key ul = 0 ∧ key uh = 0
      · rw [if_pos cu, if_pos (by omega)]
        exact gr_some zero_some zero_some (Int.le_refl _) (Int.le_refl _)
      · rw [if_neg cu]
        by_cases c1 : 0 ≤ key vl
        · rw [if_pos c1]
          by_cases cx : key xl = 0 ∧ key xh = 0
          · rw [if_pos cx]; exact zero_gr X Y cx c1 (by omega)
          · rw [if_neg cx, if_pos (by omega)]; exact shrink_gr X Y c1 (by omega)
        · rw [if_neg c1]
          by_cases c2 : key vh ≤ 0
          · rw [if_pos c2]
            by_cases cx : key xl = 0 ∧ key xh = 0
            · rw [if_pos cx]; exact zero_gr IX IY (by omega) (by omega) (by omega)
            · rw [if_neg cx, if_neg (by omega), if_pos (by omega)]; exact shrink_gr IX IY (by omega) (by omega)
          · rw [if_neg c2]
            have W : ∀ p : Nat × Nat, Some2 p.1 p.2 → p.1 < 18446744073709551616 → p.2 < 18446744073709551616 → Gr p (infI (-1), infI 1) := fun p S l1 l2 => by
              refine gr_some S whole_some ?_ ?_
              · show key (infI (-1)) ≤ _
                rw [key_down]; exact (key_range l1 S.nl).1
              · show _ ≤ key (infI 1)
                rw [key_up]; exact (key_range l2 S.nh).2
            have L := divP_lt X.a1 X.a2 Y.a1 Y.a2
            rw [p1, if_neg cy] at L
            revert L
            split
            · intro L; exact W _ zero_some L.1 L.2
            · split
              · intro L; exact W _ (shrink_some X.a1 X.a2 Y.a1 Y.a2 X.S Y.S (by omega) (by omega)).1 L.1 L.2
              · split
                · intro L; exact W _ (shrink_some IX.a1 IX.a2 IY.a1 IY.a2 MX MY (by omega) (by omega)).1 L.1 L.2
                · intro L; exact W _ whole_some L.1 L.2

theorem one_some : Some2 4607182418800017408 4607182418800017408 := hs_iff.1 (by decide)

theorem pow_gr {xl xh ul uh : Nat} (X : In xl xh ul uh) (n : Int) : Gr (powP xl xh n) (powP ul uh n) := by
  unfold powP
  rw [if_pos (hs_iff.2 X.S), if_pos (hs_iff.2 X.T)]
  split
  · exact gr_some whole_some whole_some (Int.le_refl _) (Int.le_refl _)
  · split
    · exact gr_some whole_some whole_some (Int.le_refl _) (Int.le_refl _)
    · split
      · exact gr_some one_some one_some (Int.le_refl _) (Int.le_refl _)
      · split
        · have g := pos_gr X (-n)
          have l1 := posP_lt X.a1 X.a2 X.S (-n)
          have l2 := posP_lt X.b1 X.b2 X.T (-n)
          have S : Some2 (posP xl xh (-n)).1 (posP xl xh (-n)).2 := by
            unfold posP
            split
            · exact even_some X.a1 X.a2 X.S _
            · exact (odd_some X.a1 X.a2 X.S _).1
          exact div_gr (In.refl (by omega) (by omega) one_some) (g.in S l1.1 l1.2 l2.1 l2.2)
        · exact pos_gr X n

theorem sqrt_gr {xl xh ul uh : Nat} (X : In xl xh ul uh) : Gr (sqrtP xl xh) (sqrtP ul uh) := by
  have xk1 := X.kl
  have xk2 := X.kh
  have R : 0 ≤ key uh → sqrtP ul uh = (sqrtV (maxW ul 0) (-1), sqrtV uh 1) ∧ Some2 (sqrtV (maxW ul 0) (-1)) (sqrtV uh 1) := fun k => by
    obtain ⟨p1, p2, p3, p4, p5, p6⟩ := root_ends X.b1 X.T k
    refine ⟨?_, sqrt_some p1 X.b2 p2 X.T.nh p3 p4 p5⟩
    unfold sqrtP
    rw [hs_iff.2 X.T, lt0 X.T.nh, decide_eq_false (by omega)]
    rfl
  by_cases k : 0 ≤ key xh
  · obtain ⟨p1, p2, p3, p4, p5, p6⟩ := root_ends X.a1 X.S k
    obtain ⟨q1, q2, q3, q4, q5, q6⟩ := root_ends X.b1 X.T (show 0 ≤ key uh by omega)
    obtain ⟨e2, T⟩ := R (by omega)
    have S := sqrt_some p1 X.a2 p2 X.S.nh p3 p4 p5
    have e1 : sqrtP xl xh = (sqrtV (maxW xl 0) (-1), sqrtV xh 1) := by
      unfold sqrtP
      rw [hs_iff.2 X.S, lt0 X.S.nh, decide_eq_false (by omega)]
      rfl
    rw [e1, e2]
    have m1 := (maxW_key xl 0).1
    have m2 := (maxW_key ul 0).1
    have f1 : finB (maxW xl 0) = true := fin_of p1 p2 p3 (by omega)
    have f2 : finB (maxW ul 0) = true := fin_of q1 q2 q3 (by omega)
    refine gr_some S T ?_ ?_
    · show key (sqrtV (maxW ul 0) (-1)) ≤ key (sqrtV (maxW xl 0) (-1))
      rw [sqrtV_fin (-1) f1 (nneg_G p1 p3), sqrtV_fin (-1) f2 (nneg_G q1 q3)]
      exact sqrt_mono_down q1 p1 f2 f1 q3 (by omega)
    · show key (sqrtV xh 1) ≤ key (sqrtV uh 1)
      have gh := nneg_G X.b2 (show 0 ≤ key uh by omega)
      have n1 := sqrtV_nneg 1 X.S.nh k X.a2
      cases fh : finB uh
      · have e : sqrtV uh 1 = uh := by
          have h := sqrtV_is 1 X.T.nh gh
          rw [sqrtR_infinite 1 X.T.nh fh gh] at h
          exact (Option.some.inj h).symm
        rw [e]
        have r := key_range n1.2.2.1 n1.2.1
        rcases (key_inf X.b2 X.T.nh).1 fh with d | d <;> omega
      · have r := fin_key X.b2 fh
        have f3 : finB xh = true := fin_of X.a2 X.S.nh k (by omega)
        rw [sqrtV_fin 1 f3 (nneg_G X.a2 k), sqrtV_fin 1 fh gh]
        exact sqrt_mono_up X.a2 X.b2 f3 fh k xk2
  · have e1 : sqrtP xl xh = (infI 1, infI (-1)) := by
      unfold sqrtP
      rw [hs_iff.2 X.S, lt0 X.S.nh, decide_eq_true (by omega)]
      rfl
    rw [e1]
    refine Or.inl ⟨rfl, ?_⟩
    by_cases k2 : 0 ≤ key uh
    · obtain ⟨e2, T⟩ := R k2
      rw [e2]
      exact Or.inr T
    · left
      unfold sqrtP
      rw [hs_iff.2 X.T, lt0 X.T.nh, decide_eq_true (by omega)]
      rfl

theorem meet_gr {xl xh ul uh yl yh : Nat} (X : In xl xh ul uh) (T : Some2 yl yh) : Gr (meetP xl xh yl yh) (meetP ul uh yl yh) := by
  have xk1 := X.kl
  have xk2 := X.kh
  have P : ∀ {a b : Nat}, Some2 a b → meetP a b yl yh = if key a ≤ key yh ∧ key yl ≤ key b then (maxW a yl, minW b yh) else (infI 1, infI (-1)) := fun {a b} S => by
    have e1 := maxW_is S.zl T.zl
    have e2 := minW_is S.zh T.zh
    have sl := S.le
    have tl := T.le
    have s1 := S.lt
    have s2 := S.gt
    have t1 := T.lt
    have t2 := T.gt
    unfold meetP
    rw [hs_iff.2 S, hs_iff.2 T]
    simp only [Bool.and_self, if_true]
    by_cases c : key a ≤ key yh ∧ key yl ≤ key b
    · rw [if_pos c]
      refine make_is ?_
      rw [e1, e2]
      split
      · split
        · exact T
        · exact ⟨T.nl, S.nh, c.2, t1, s2, T.zl, S.zh⟩
      · split
        · exact ⟨S.nl, T.nh, c.1, s1, t2, S.zl, T.zh⟩
        · exact S
    · rw [if_neg c]
      have no : hsB (pz (maxW a yl)) (pz (minW b yh)) = false := by
        cases h : hsB (pz (maxW a yl)) (pz (minW b yh))
        · rfl
        · have g := (hs_iff.1 h).le
          rw [key_pz, key_pz, (maxW_key a yl).1, (minW_key b yh).1] at g
          exact absurd ⟨by omega, by omega⟩ c
      unfold makeP
      rw [no]
      rfl
  have Q : ∀ {a b : Nat}, Some2 a b → key a ≤ key yh ∧ key yl ≤ key b → Some2 (maxW a yl) (minW b yh) := fun {a b} S c => by
    have e1 := maxW_is S.zl T.zl
    have e2 := minW_is S.zh T.zh
    rw [e1, e2]
    split
    · split
      · exact T
      · exact ⟨T.nl, S.nh, c.2, T.lt, S.gt, T.zl, S.zh⟩
    · split
      · exact ⟨S.nl, T.nh, c.1, S.lt, T.gt, S.zl, T.zh⟩
      · exact S
  rw [P X.S, P X.T]
  by_cases c : key xl ≤ key yh ∧ key yl ≤ key xh
  · have c' : key ul ≤ key yh ∧ key yl ≤ key uh := ⟨by omega, by omega⟩
    rw [if_pos c, if_pos c']
    refine gr_some (Q X.S c) (Q X.T c') ?_ ?_
    · show key (maxW ul yl) ≤ key (maxW xl yl)
      rw [(maxW_key ul yl).1, (maxW_key xl yl).1]; omega
    · show key (minW xh yh) ≤ key (minW uh yh)
      rw [(minW_key xh yh).1, (minW_key uh yh).1]; omega
  · rw [if_neg c]
    refine Or.inl ⟨rfl, ?_⟩
    by_cases c' : key ul ≤ key yh ∧ key yl ≤ key uh
    · rw [if_pos c']; exact Or.inr (Q X.T c')
    · rw [if_neg c']; exact Or.inl rfl

theorem wid_le {xl xh ul uh : Nat} (X : In xl xh ul uh) : key (widP xl xh) ≤ key (widP ul uh) := by
  have e1 := wid_is X.a1 X.a2 X.S
  have e2 := wid_is X.b1 X.b2 X.T
  have xk1 := X.kl
  have s1 := X.S.lt
  exact add_high X.b2 (negB_lt X.b1) X.a2 (negB_lt X.a1) X.T.nh (by rw [nanB_negB X.b1]; exact X.T.nl) X.S.nh (by rw [nanB_negB X.a1]; exact X.S.nl) X.S.gt (by rw [key_negB X.a1]; omega) X.kh (by rw [key_negB X.a1, key_negB X.b1]; omega) e1 e2

theorem mag_le {xl xh ul uh : Nat} (X : In xl xh ul uh) : key (magP xl xh) ≤ key (magP ul uh) ∧ key (migP ul uh) ≤ key (migP xl xh) := by
  obtain ⟨a1, a2⟩ := mig_key X.a1 X.a2 X.S
  obtain ⟨b1, b2⟩ := mig_key X.b1 X.b2 X.T
  have kl := X.kl
  have kh := X.kh
  have ks := X.S.le
  rw [a1, a2, b1, b2]
  refine ⟨by omega, ?_⟩
  split <;> split <;> try split
  all_goals try split
  all_goals omega

end Go.Proofs.YtnchhfhoaepjnaaGreat
