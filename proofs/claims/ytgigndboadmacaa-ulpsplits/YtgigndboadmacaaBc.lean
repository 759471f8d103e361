/- The walks of the reference's Cmp and Bits. -/
import Derived.Test.YtgigndboadmacaaBb
namespace Go.Proofs.Ytgigndboadmacaa
open Go.ChangeShapes Go.WideShapes Go.ChangeAt Go.RowKit

def cmpN (m n : Nat) : Int := if m < n then -1 else if n < m then 1 else 0

/-- A row as a slice: its length, its cells (of an empty one nothing). -/
theorem Row.open_ {w : World} {v : Value} {ds : List Nat} (h : Row w v ds) :
    ∃ ao cap, v = .slice ao ds.length cap ∧ (ds.length ≠ 0 → ∃ g, ao = some ⟨g, 0, none⟩ ∧ g < w.heap.size ∧ ∀ j, j < ds.length → w.cell? ⟨g, j, none⟩ = some (.int .u32 (ds.getD j 0 : Int))) := by
  rcases h.form with ⟨rfl, rfl⟩ | ⟨g, cap, rfl, h1, h2, h3, h4⟩
  · exact ⟨none, 0, rfl, fun h => by simp at h⟩
  · exact ⟨_, cap, rfl, fun _ => ⟨g, rfl, h3, h4⟩⟩

theorem cmpN_lt {m n : Nat} (h : m < n) : cmpN m n = -1 := by unfold cmpN; rw [if_pos h]
theorem cmpN_gt {m n : Nat} (h : n < m) : cmpN m n = 1 := by unfold cmpN; rw [if_neg (by omega), if_pos h]
theorem cmpN_eq {m n : Nat} (h : m = n) : cmpN m n = 0 := by unfold cmpN; rw [if_neg (by omega), if_neg (by omega)]

set_option maxHeartbeats 1600000 in
theorem cmp_w (va vb : Value) (m n K : Nat) (hK : K ≤ 1000000) (hm : m < 2 ^ K) (hn : n < 2 ^ K) (w : World) (ha : BigIs w va m) (hb : BigIs w vb n) :
    Calls Try.prog 55 #[va, vb] w fun e w' => e = .returned (.int .i64 (cmpN m n)) ∧ Below w.heap.size w w' := by
  obtain ⟨ds, d1, d2, rfl, hra⟩ := ha
  obtain ⟨es, e1, e2, rfl, hrb⟩ := hb
  have l1 := d2.len hm
  have l2 := e2.len hn
  clear hm hn
  obtain ⟨ao, ca, rfl, hca⟩ := hra.open_
  obtain ⟨bo, cb, rfl, hcb⟩ := hrb.open_
  rcases Nat.lt_trichotomy ds.length es.length with hl | hl | hl
  · rw [cmpN_lt (natOf_lt_of_len d1 e2 hl)]
    have hne : ((ds.length : Int) == (es.length : Int)) = false := by rw [beq_eq_false_iff_ne]; omega
    go_enter Try.func55, Try.ntmps55
    go_wp2
    go_ret
    exact ⟨rfl, Below.refl _ _⟩
  · go_enter Try.func55, Try.ntmps55
    go_wp2
    go_loopg [5] ds.length (fun G s wx => Below w.heap.size w wx ∧ ∃ k : Nat, k ≤ ds.length ∧ k ≤ G ∧ s = .int .i64 ((k : Int) - 1) ∧ ds.drop k = es.drop k)
    case atStart => exact ⟨Below.refl _ _, ds.length, Nat.le_refl _, Nat.le_refl _, by go_num, by rw [List.drop_of_length_le (Nat.le_refl _), List.drop_of_length_le (by omega)]⟩
    case round =>
      obtain ⟨hB, k, hk, hkG, rfl, hn⟩ := hrel
      rcases Nat.eq_zero_or_pos k with rfl | hk0
      · have : ds = es := by simpa using hn
        subst this
        go_wp2
        go_ret
        exact ⟨by rw [cmpN_eq rfl]; rfl, hB⟩
      · obtain ⟨j, rfl⟩ : ∃ j, k = j + 1 := ⟨k - 1, by omega⟩
        obtain ⟨g, rfl, hg, hc⟩ := hca (by omega)
        obtain ⟨f, rfl, hf, hc2⟩ := hcb (by omega)
        have hcj := hc j (by omega)
        have hcj2 := hc2 j (by omega)
        have c1 := (hB.cell (by exact hg)).trans hcj
        have c2 := (hB.cell (by exact hf)).trans hcj2
        have hlt := natOf_lt_at d1 (k := j) (by omega) hl hn
        have hgt := natOf_lt_at e1 (k := j) (b := ds) (by omega) hl.symm hn.symm
        have hst := drop_eq_step (k := j) (by omega) hl hn
        have hdl := d1.getD j
        have hel := e1.getD j
        generalize ds.getD j 0 = D at *
        generalize es.getD j 0 = E at *
        have h1 : ((j : Int) + 1) - 1 = (j : Int) := by omega
        rcases Nat.lt_trichotomy D E with c | c | c
        · have hr := cmpN_lt (hlt c)
          clear hlt hgt hst hc hc2
          go_wp2_with fail
          go_quiet (fail)
          go_wp2
          go_ret
          exact ⟨by rw [hr]; rfl, below_drewN hB _⟩
        · have hr := hst c
          clear hlt hgt hst hc hc2
          subst c
          go_wp2_with fail
          go_quiet (fail)
          go_wp2_with fail
          replace hB := below_drewN hB nq
          have c1' := (hB.cell (by exact hg)).trans hcj
          have c2' := (hB.cell (by exact hf)).trans hcj2
          clear c1 c2
          generalize wr.drewN nq = wq at *
          go_quiet (fail)
          go_wp2_with fail
          go_roundg j
          case measure => omega
          case rel => exact ⟨below_drewN hB _, j, by omega, Nat.le_refl _, rfl, hr⟩
        · have hr := cmpN_gt (hgt c)
          clear hlt hgt hst hc hc2
          go_wp2_with fail
          go_quiet (fail)
          go_wp2_with fail
          replace hB := below_drewN hB nq
          have c1' := (hB.cell (by exact hg)).trans hcj
          have c2' := (hB.cell (by exact hf)).trans hcj2
          clear c1 c2
          generalize wr.drewN nq = wq at *
          go_quiet (fail)
          go_wp2_with fail
          go_ret
          exact ⟨by rw [hr]; rfl, below_drewN hB _⟩
  · have hr := cmpN_gt (natOf_lt_of_len e1 d2 hl)
    have hne : ((ds.length : Int) == (es.length : Int)) = false := by rw [beq_eq_false_iff_ne]; omega
    go_enter Try.func55, Try.ntmps55
    go_wp2
    go_ret
    exact ⟨by rw [hr]; rfl, Below.refl _ _⟩

/-- How many bits a number has. -/
def bitsN (n : Nat) : Nat := if n = 0 then 0 else n.log2 + 1
theorem bitsN_of {n b : Nat} (h1 : 2 ^ b ≤ n) (h2 : n < 2 ^ (b + 1)) : bitsN n = b + 1 := by
  have h0 : n ≠ 0 := by have := Nat.two_pow_pos b; omega
  have a := (Nat.le_log2 h0).2 h1
  have c := (Nat.log2_lt h0).2 h2
  unfold bitsN
  rw [if_neg h0]
  omega
theorem bitsN_low {n : Nat} (h : n ≠ 0) : ∃ b, bitsN n = b + 1 ∧ 2 ^ b ≤ n ∧ n < 2 ^ (b + 1) := ⟨n.log2, by unfold bitsN; rw [if_neg h], Nat.log2_self_le h, Nat.lt_log2_self⟩
theorem bits_top {ds : List Nat} (hd : Digs ds) {j i : Nat} (hl : ds.length = j + 1) (h1 : 2 ^ i ≤ ds.getD j 0) (h2 : ds.getD j 0 < 2 ^ (i + 1)) : bitsN (natOf ds) = 32 * j + i + 1 := by
  have e := natOf_take_succ ds (k := j) (by omega)
  rw [natOf_take_ge ds (by omega)] at e
  have lo := natOf_lt (hd.take j)
  rw [List.length_take, Nat.min_eq_left (by omega)] at lo
  generalize ds.getD j 0 = D at *
  generalize natOf (ds.take j) = L at *
  rw [e]
  rw [pow32] at *
  apply bitsN_of
  · have := Nat.mul_le_mul_left (2 ^ (32 * j)) h1
    rw [Nat.pow_add]
    omega
  · have := Nat.mul_le_mul_left (2 ^ (32 * j)) (show D + 1 ≤ 2 ^ (i + 1) from h2)
    rw [Nat.add_assoc, Nat.pow_add]
    rw [Nat.mul_add] at this
    omega
theorem bits_end {D i : Nat} (hD : D ≠ 0) (h0 : D / 2 ^ i = 0) (h1 : i = 0 ∨ D / 2 ^ (i - 1) ≠ 0) : ∃ k, i = k + 1 ∧ 2 ^ k ≤ D ∧ D < 2 ^ (k + 1) := by
  have hp := Nat.two_pow_pos i
  have hlt : D < 2 ^ i := by
    rcases Nat.div_eq_zero_iff.1 h0 with c | c
    · omega
    · exact c
  rcases h1 with rfl | h1
  · simp at hlt; omega
  · rcases Nat.eq_zero_or_pos i with rfl | hi
    · simp at hlt; omega
    · refine ⟨i - 1, by omega, ?_, by rw [Nat.sub_add_cancel hi]; exact hlt⟩
      rcases Nat.lt_or_ge D (2 ^ (i - 1)) with c | c
      · exact absurd (Nat.div_eq_of_lt c) h1
      · exact c
theorem bits_small {D i : Nat} (hD : D < 4294967296) (h1 : i = 0 ∨ D / 2 ^ (i - 1) ≠ 0) : i ≤ 32 := by
  rcases h1 with rfl | h1
  · omega
  · rcases Nat.lt_or_ge 32 i with c | c
    · exfalso
      apply h1
      apply Nat.div_eq_of_lt
      have := Nat.pow_le_pow_right (show 2 > 0 by omega) (show 32 ≤ i - 1 by omega)
      omega
    · exact c
theorem bits_step (D i : Nat) : D / 2 ^ i / 2 = D / 2 ^ (i + 1) := by rw [Nat.div_div_eq_div_mul, Nat.pow_succ]

set_option maxHeartbeats 1600000 in
theorem bits_w (va : Value) (m K : Nat) (hK : K ≤ 1000000) (hm : m < 2 ^ K) (w : World) (ha : BigIs w va m) :
    Calls Try.prog 71 #[va] w fun e w' => e = .returned (.int .i64 (bitsN m)) ∧ w = w' := by
  obtain ⟨ds, d1, d2, rfl, hra⟩ := ha
  have l1 := d2.len hm
  clear hm
  obtain ⟨ao, ca, rfl, hca⟩ := hra.open_
  rcases Nat.eq_zero_or_pos ds.length with h0 | h0
  · have e0 : bitsN (natOf ds) = 0 := by rw [d2.zero.2 h0]; rfl
    clear l1 hca
    generalize ds.length = L at *
    subst h0
    go_enter Try.func71, Try.ntmps71
    go_wp2
    go_ret
    exact ⟨by rw [e0]; rfl, rfl⟩
  · obtain ⟨j, hj⟩ : ∃ j, ds.length = j + 1 := ⟨ds.length - 1, by omega⟩
    obtain ⟨g, rfl, hg, hc⟩ := hca (by omega)
    have hcell := hc j (by omega)
    have hdl := d1.getD j
    have hD0 := d2 h0
    have htop := fun i h1 h2 => bits_top d1 (i := i) hj h1 h2
    rw [hj, Nat.add_sub_cancel] at hD0
    clear hca hc hra h0
    generalize ds.getD j 0 = D at *
    generalize bitsN (natOf ds) = R at *
    rw [hj] at l1 ⊢
    clear hj d1 d2
    have h1 : ((j : Int) + 1) - 1 = (j : Int) := by omega
    go_enter Try.func71, Try.ntmps71
    go_wp2
    go_loopg [3, 4] D (fun G s3 s4 wx => w = wx ∧ ∃ i d : Nat, d ≤ G ∧ Hid (d = D / 2 ^ i) ∧ Hid (i = 0 ∨ D / 2 ^ (i - 1) ≠ 0) ∧ i ≤ 32 ∧ d < 4294967296 ∧ s3 = .int .i64 (32 * (j : Int) + i) ∧ s4 = .int .u32 (d : Int))
    case atStart => exact ⟨rfl, 0, D, Nat.le_refl _, by show _ = _; simp, Or.inl rfl, by omega, hdl, by go_num, rfl⟩
    case round =>
      obtain ⟨rfl, i, d, hdG, hd, hi, hi2, hdl2, rfl, rfl⟩ := hrel
      rcases Nat.eq_zero_or_pos d with rfl | hp
      · obtain ⟨k, rfl, k1, k2⟩ := bits_end hD0 hd.out.symm hi.out
        have := htop k k1 k2
        subst this
        clear htop k1 k2 hi hd
        go_wp2
        go_ret
        exact ⟨by go_num, rfl⟩
      · have hs := bits_step D i
        rw [← hd.out] at hs
        have hne : D / 2 ^ i ≠ 0 := by rw [← hd.out]; omega
        have hsm := bits_small (i := i + 1) hdl (Or.inr (by rw [Nat.add_sub_cancel]; exact hne))
        have HS : Hid (d / 2 = D / 2 ^ (i + 1)) := hs
        have HN : Hid (D / 2 ^ i ≠ 0) := hne
        clear hs hne hd hi
        go_wp2
        go_roundg (d / 2)
        case measure => omega
        case rel => exact ⟨rfl, i + 1, d / 2, Nat.le_refl _, HS, Or.inr (by rw [Nat.add_sub_cancel]; exact HN.out), hsm, by omega, by go_num, by go_num⟩

end Go.Proofs.Ytgigndboadmacaa
