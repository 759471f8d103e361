/- The walk of the reference's Rounded. -/
import Derived.Test.YtgigndboadmacaaBr
namespace Go.Proofs.Ytgigndboadmacaa
open Go.ChangeShapes Go.WideShapes Go.ChangeAt Go.RowKit

theorem NumZ.half {w : World} {x : Value} {z : Int} {K : Nat} (h : NumZ (-1074) 1024 K w x z) {K' : Nat} (hK : K ≤ K') : ∃ g ao l ca e, x = .agg #[.bool g, .slice ao l ca, .int .i64 e] ∧ -1074 ≤ e ∧ e ≤ 1024 ∧ NumZ (-1075) 1024 K' w (.agg #[.bool g, .slice ao l ca, .int .i64 (e - 1)]) z := by
  obtain ⟨g, v, m, e, h1, h2, h3, h4, h5, h6⟩ := h
  obtain ⟨ao, l, ca, rfl, -⟩ := h2.shape
  refine ⟨g, ao, l, ca, e, h1, h4, h5, g, _, m, e - 1, rfl, h2, Nat.lt_of_lt_of_le h3 (Nat.pow_le_pow_right (by omega) hK), by omega, by omega, ?_⟩
  rw [← h6, show e - 1 - -1075 = e - -1074 by omega]

set_option maxHeartbeats 2000000 in
theorem rounded_core (ga : Bool) (ao : Option Addr) (la ca : Nat) (ea : Int) (gb : Bool) (bo : Option Addr) (lb cb : Nat) (eb : Int) (root : Bool) (dir d : Int) (F0 F1 : Nat) (b1 b2 b3 : Bool) (w : World) (hd : -9218868437227405312 ≤ d ∧ d ≤ 9218868437227405311)
    (P G0 G1 H : World → Value → Prop) (kg : ∀ W W' v, G0 W v → Below W.heap.size W W' → G0 W' v) (kh : ∀ W W' v, H W v → Below W.heap.size W W' → H W' v)
    (cd : ∀ W, Below w.heap.size w W → Calls Try.prog 62 #[.agg #[.bool ga, .slice ao la ca, .int .i64 ea, .bool gb, .slice bo lb cb, .int .i64 eb, .bool root]] W fun r w' => r = .returned (.int .i64 d) ∧ Below W.heap.size W w')
    (c0 : ∀ W, Calls Try.prog 59 #[.int .i64 d] W fun r w' => r = .returned (.float .f64 F0) ∧ W = w')
    (c1 : ∀ W, Calls Try.prog 59 #[.int .i64 (d + 1)] W fun r w' => r = .returned (.float .f64 F1) ∧ W = w')
    (cf : d ≠ -9218868437227405312 → ∀ W, Below w.heap.size w W → Calls Try.prog 37 #[.float .f64 F0] W fun r w' => (∃ v, r = .returned v ∧ P w' v) ∧ Below W.heap.size W w')
    (cs : d ≠ -9218868437227405312 → ∀ W v, Below w.heap.size w W → P W v → Calls Try.prog 63 #[v, .agg #[.bool ga, .slice ao la ca, .int .i64 ea, .bool gb, .slice bo lb cb, .int .i64 eb, .bool root]] W fun r w' => r = .returned (.bool b1) ∧ Below W.heap.size W w')
    (cg0 : ∀ W, Below w.heap.size w W → Calls Try.prog 64 #[.int .i64 d] W fun r w' => (∃ v, r = .returned v ∧ G0 w' v) ∧ Below W.heap.size W w')
    (cg1 : ∀ W, Below w.heap.size w W → Calls Try.prog 64 #[.int .i64 (d + 1)] W fun r w' => (∃ v, r = .returned v ∧ G1 w' v) ∧ Below W.heap.size W w')
    (cq : ∀ W v0 v1, Below w.heap.size w W → G0 W v0 → G1 W v1 → Calls Try.prog 36 #[v0, v1] W fun r w' => (∃ g o l c e, r = .returned (.agg #[.bool g, .slice o l c, .int .i64 e]) ∧ -1074 ≤ e ∧ e ≤ 1024 ∧ H w' (.agg #[.bool g, .slice o l c, .int .i64 (e - 1)])) ∧ Below W.heap.size W w')
    (cs2 : ∀ W v, Below w.heap.size w W → H W v → Calls Try.prog 63 #[v, .agg #[.bool ga, .slice ao la ca, .int .i64 ea, .bool gb, .slice bo lb cb, .int .i64 eb, .bool root]] W fun r w' => r = .returned (.bool b2) ∧ Below W.heap.size W w')
    (cb3 : ∀ W v, Below w.heap.size w W → H W v → Calls Try.prog 65 #[v, .agg #[.bool ga, .slice ao la ca, .int .i64 ea, .bool gb, .slice bo lb cb, .int .i64 eb, .bool root]] W fun r w' => r = .returned (.bool b3) ∧ Below W.heap.size W w')
    (hb1 : d = -9218868437227405312 → b1 = false) (R : Nat)
    (hR1 : b1 = true → R = F0) (hR2 : b1 = false → dir < 0 → R = F0) (hR3 : b1 = false → 0 < dir → R = F1) (hR4 : b1 = false → dir = 0 → b2 = true → R = if d.tmod 2 = 0 then F0 else F1)
    (hR5 : b1 = false → dir = 0 → b2 = false → b3 = true → R = F1) (hR6 : b1 = false → dir = 0 → b2 = false → b3 = false → R = F0) :
    Calls Try.prog 43 #[.agg #[.bool ga, .slice ao la ca, .int .i64 ea, .bool gb, .slice bo lb cb, .int .i64 eb, .bool root], .int .i64 dir] w fun r w' => r = .returned (.float .f64 R) ∧ Below w.heap.size w w' := by
  go_enter Try.func43, Try.ntmps43
  go_upto_region 2 with
   (go_at_call 62; refine (cd _ (by go_grown)).mono ?_; rintro _ w1 ⟨rfl, hb⟩
    have Y : Has7 w1 w.heap.size (.bool ga) (.slice ao la ca) (.int .i64 ea) (.bool gb) (.slice bo lb cb) (.int .i64 eb) (.bool root) := Has7.keep ⟨by go_simp, by go_simp, by go_simp, by go_simp, by go_simp, by go_simp, by go_simp, by go_size⟩ hb
    have HB : Below w.heap.size w w1 := later (by go_grown) hb)
  clear hb cd
  go_cut [22] from 10 to 21 (fun s22 wx => s22 = .bool (b1 || decide (dir < 0)) ∧ Below w.heap.size w wx ∧ Has7 wx w.heap.size (.bool ga) (.slice ao la ca) (.int .i64 ea) (.bool gb) (.slice bo lb cb) (.int .i64 eb) (.bool root))
  case first =>
    by_cases hd0 : d = -9218868437227405312
    · have := hb1 hd0
      subst this
      subst hd0
      clear hb1 cf cs hR1 hR2 hR3 hR4 hR5 hR6
      go_quiet (fail)
      go_wp2_with fail
      go_meet
      case rel => exact ⟨by simp, below_drewN HB _, Y.keep (below_drewN (Below.refl _ _) _)⟩
    · have hd1 : decide (-9218868437227405311 ≤ d) = true := by simp; omega
      replace cf := cf hd0
      replace cs := cs hd0
      replace Y := Y.drew
      replace HB := HB.drew
      clear hb1 hd0 hR1 hR2 hR3 hR4 hR5 hR6
      cases b1
      · go_region_held3 (fun w' => w'.cell? ⟨w.heap.size, 0, none⟩ = some (.bool ga) ∧ w'.cell? ⟨w.heap.size, 1, none⟩ = some (.slice ao la ca) ∧ w'.cell? ⟨w.heap.size, 2, none⟩ = some (.int .i64 ea) ∧ w'.cell? ⟨w.heap.size, 3, none⟩ = some (.bool gb) ∧ w'.cell? ⟨w.heap.size, 4, none⟩ = some (.slice bo lb cb) ∧ w'.cell? ⟨w.heap.size, 5, none⟩ = some (.int .i64 eb) ∧ w'.cell? ⟨w.heap.size, 6, none⟩ = some (.bool root)) (first | exact ⟨Y.1, Y.2.1, Y.2.2.1, Y.2.2.2.1, Y.2.2.2.2.1, Y.2.2.2.2.2.1, Y.2.2.2.2.2.2.1⟩ | go_keep)
          (first
            | (go_at_call 59; refine (c0 _).mono ?_; rintro _ _ ⟨rfl, rfl⟩)
            | (go_at_call 37; refine (cf _ HB).mono ?_; rintro _ w2 ⟨⟨v, rfl, hv⟩, hb1⟩; replace Y := Y.keep hb1; replace HB := later HB hb1; clear hb1)
            | (go_at_call 63; refine (cs _ _ HB hv).mono ?_; rintro _ w3 ⟨rfl, hb1⟩; replace Y := Y.keep hb1; replace HB := later HB hb1; clear hb1))
        all_goals
          go_wp2_with fail
          go_meet
          case rel => exact ⟨by simp, HB, Y⟩
      · obtain ⟨y0, y1, y2, y3, y4, y5, y6, -⟩ := id Y
        first
          | go_region_with (first
              | (go_at_call 59; refine (c0 _).mono ?_; rintro _ _ ⟨rfl, rfl⟩)
              | (go_at_call 37; refine (cf _ HB).mono ?_; rintro _ w2 ⟨⟨v, rfl, hv⟩, hb1⟩; replace Y := Y.keep hb1; replace HB := later HB hb1; clear hb1; obtain ⟨x0, x1, x2, x3, x4, x5, x6, -⟩ := id Y)
              | (go_at_call 63; refine (cs _ _ HB hv).mono ?_; rintro _ w3 ⟨rfl, hb1⟩; replace Y := Y.keep hb1; replace HB := later HB hb1; clear hb1))
          | fail
        all_goals
          go_wp2_with fail
          go_meet
          case rel => exact ⟨by simp, HB, Y⟩
  case rest =>
    clear Y HB cf cs hb1
    obtain ⟨rfl, HB, Y⟩ := hcut
    by_cases hc : (b1 || decide (dir < 0)) = true
    · have hR : R = F0 := by
        cases b1
        · exact hR2 rfl (by simpa using hc)
        · exact hR1 rfl
      subst hR
      rw [hc]
      clear hR1 hR2 hR3 hR4 hR5 hR6
      go_wp2_with (go_at_call 59; refine (c0 _).mono ?_; rintro _ _ ⟨rfl, rfl⟩)
      go_ret
      exact ⟨rfl, HB⟩
    · have hc' : (b1 || decide (dir < 0)) = false := by simpa using hc
      have h1 : b1 = false := by cases b1 <;> simp_all
      have h2 : ¬ dir < 0 := by intro q; subst h1; simp at hc; omega
      rw [hc']
      clear hc hc' hR1 hR2
      by_cases h3 : 0 < dir
      · have hR := hR3 h1 h3
        subst hR
        clear hR3 hR4 hR5 hR6
        go_wp2_with (go_at_call 59; refine (c1 _).mono ?_; rintro _ _ ⟨rfl, rfl⟩)
        go_ret
        exact ⟨rfl, HB⟩
      · have h0 : dir = 0 := by omega
        subst h0
        replace hR4 := hR4 h1 rfl
        replace hR5 := hR5 h1 rfl
        replace hR6 := hR6 h1 rfl
        clear hR3 h1 h2 h3
        go_upto_region 8 with (first
          | (go_at_call_of 64 (Value.int .i64 d); refine (cg0 _ HB).mono ?_; rintro _ w2 ⟨⟨v0, rfl, hv0⟩, hb⟩; replace Y := Y.keep hb; replace HB := later HB hb; clear hb)
          | (go_at_call 64; refine (cg1 _ HB).mono ?_; rintro _ w3 ⟨⟨v1, rfl, hv1⟩, hb⟩; replace Y := Y.keep hb; replace HB := later HB hb; replace hv0 := kg _ _ _ hv0 hb; clear hb)
          | (go_at_call 36; refine (cq _ _ _ HB hv0 hv1).mono ?_; rintro _ w4 ⟨⟨g2, o2, l2, p2, e2, rfl, q1, q2, hh⟩, hb⟩; replace Y := Y.keep hb; replace HB := later HB hb; clear hb))
        clear hv0 hv1 cg0 cg1 cq kg
        have hz : Below w4.heap.size w4 ((w4.alloc (.cells #[.bool g2, .slice o2 l2 p2, .int .i64 e2] 49)).alloc (.cells #[.bool g2, .slice o2 l2 p2, .int .i64 (e2 - 1)] 49)) := by go_grown
        have Z : Has3 ((w4.alloc (.cells #[.bool g2, .slice o2 l2 p2, .int .i64 e2] 49)).alloc (.cells #[.bool g2, .slice o2 l2 p2, .int .i64 (e2 - 1)] 49)) (w4.heap.size + 1) (.bool g2) (.slice o2 l2 p2) (.int .i64 (e2 - 1)) := ⟨by go_simp, by go_simp, by go_simp, by go_simp, by go_simp, by go_simp, by go_size⟩
        replace Y := Y.keep hz
        replace HB := later HB hz
        replace hh := kh _ _ _ hh hz
        clear hz
        generalize ((w4.alloc (.cells #[.bool g2, .slice o2 l2 p2, .int .i64 e2] 49)).alloc (.cells #[.bool g2, .slice o2 l2 p2, .int .i64 (e2 - 1)] 49)) = V5 at *
        generalize w4.heap.size + 1 = q at *
        obtain ⟨z0, z1, z2, -, -, -, zl⟩ := Z
        obtain ⟨y0, y1, y2, y3, y4, y5, y6, yl⟩ := id Y
        have hb2 : b2 = true ∨ b2 = false := by cases b2 <;> simp
        rcases hb2 with h2 | h2
        · subst h2
          replace hR4 := hR4 rfl
          clear hR5 hR6 cb3 kh
          by_cases hp : d.tmod 2 = 0
          · rw [if_pos hp] at hR4
            subst hR4
            have hp' : (d.tmod 2 == 0) = true := by rw [hp]; rfl
            go_wp2_with (first
              | (go_at_call 63; refine (cs2 _ _ HB hh).mono ?_; rintro _ w6 ⟨rfl, hb⟩; replace HB := later HB hb; clear hb)
              | (go_at_call 59; refine (c0 _).mono ?_; rintro _ _ ⟨rfl, rfl⟩))
            go_ret
            exact ⟨rfl, HB⟩
          · rw [if_neg hp] at hR4
            subst hR4
            have hp' : (d.tmod 2 == 0) = false := by rw [beq_eq_false_iff_ne]; exact hp
            go_wp2_with (first
              | (go_at_call 63; refine (cs2 _ _ HB hh).mono ?_; rintro _ w6 ⟨rfl, hb⟩; replace HB := later HB hb; clear hb)
              | (go_at_call 59; refine (c1 _).mono ?_; rintro _ _ ⟨rfl, rfl⟩))
            go_ret
            exact ⟨rfl, HB⟩
        · subst h2
          clear hR4
          have hb3 : b3 = true ∨ b3 = false := by cases b3 <;> simp
          rcases hb3 with h3 | h3
          · subst h3
            replace hR5 := hR5 rfl rfl
            subst hR5
            clear hR6
            go_wp2_with (first
              | (go_at_call 63; refine (cs2 _ _ HB hh).mono ?_; rintro _ w6 ⟨rfl, hb⟩; replace HB := later HB hb; replace hh := kh _ _ _ hh hb; replace Y := Y.keep hb; obtain ⟨x0, x1, x2, x3, x4, x5, x6, -⟩ := Y; have u0 := keepsC hb z0 zl; have u1 := keepsC hb z1 zl; have u2 := keepsC hb z2 zl; clear hb)
              | (go_at_call 65; refine (cb3 _ _ HB hh).mono ?_; rintro _ w7 ⟨rfl, hb⟩; replace HB := later HB hb; clear hb)
              | (go_at_call 59; refine (c1 _).mono ?_; rintro _ _ ⟨rfl, rfl⟩))
            go_ret
            exact ⟨rfl, HB⟩
          · subst h3
            replace hR6 := hR6 rfl rfl
            subst hR6
            clear hR5
            go_wp2_with (first
              | (go_at_call 63; refine (cs2 _ _ HB hh).mono ?_; rintro _ w6 ⟨rfl, hb⟩; replace HB := later HB hb; replace hh := kh _ _ _ hh hb; replace Y := Y.keep hb; obtain ⟨x0, x1, x2, x3, x4, x5, x6, -⟩ := Y; have u0 := keepsC hb z0 zl; have u1 := keepsC hb z1 zl; have u2 := keepsC hb z2 zl; clear hb)
              | (go_at_call 65; refine (cb3 _ _ HB hh).mono ?_; rintro _ w7 ⟨rfl, hb⟩; replace HB := later HB hb; clear hb)
              | (go_at_call 59; refine (c0 _).mono ?_; rintro _ _ ⟨rfl, rfl⟩))
            go_ret
            exact ⟨rfl, HB⟩

end Go.Proofs.Ytgigndboadmacaa
