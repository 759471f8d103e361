/- LinGrows: the law's walk. -/
import Derived.Test.YtddkojmdhckleaaMh
import Derived.Test.YtddkojmdhckleaaLk
namespace Go.Proofs.Ytddkojmdhckleaa
open Go.ChangeShapes Go.WideShapes Go.ChangeAt Go.RowKit

def thinZ (X : Nat → Nat → Nat × Nat) (r c : Nat) : Nat × Nat := pointP (X r c)

theorem pt_all {x : Nat × Nat} (w : W2 x) (h : rightB x.1 x.2 = true) : Gr (pointP x) x ∧ W2 (pointP x) := point_gr w (midP_lt w.1 w.2) (right_rt w h)

theorem vec_of {k : Nat} {Z : Nat → Nat × Nat} (h0 : 0 < k) (hk : k ≤ 24) (h : ∀ c, c < k → rightB (Z c).1 (Z c).2 = true) : vecB k Z = true := by
  unfold vecB
  rw [all_upto.2 h, Bool.true_and]
  exact dim_yes h0 hk

theorem mat_of {N k : Nat} {Z : Nat → Nat → Nat × Nat} (n0 : 0 < N) (hN : N ≤ 24) (h0 : 0 < k) (hk : k ≤ 24) (h : ∀ r, r < N → ∀ c, c < k → rightB (Z r c).1 (Z r c).2 = true) : matB N (fun _ => k) Z = true := by
  have e : matB N (fun _ => k) Z = dimB N := matB_all fun j hj => by rw [vec_of h0 hk (h j hj)]; simp
  rw [e]
  exact dim_yes n0 hN

theorem one_right (r c : Nat) : rightB (oneP r c).1 (oneP r c).2 = true := by
  by_cases h : r = c
  · subst h; rw [oneP_same]; decide
  · rw [oneP_other h]; decide

/-- A row of points that was made, as it lies in memory. -/
theorem ivs_of {B k : Nat} {w : World} {v : Value} {Z : Nat → Nat × Nat} (h : OwnI B w v (rowZ (fun _ => Z) 0 k)) (hz : ∀ c, c < k → W2 (Z c)) : ∃ A C, v = .slice A k C ∧ Ivs w A k Z := by
  obtain ⟨A, C, e, J⟩ := ownI_ivs h (fun p hp => by
    simp only [rowZ, List.mem_map, List.mem_range] at hp
    obtain ⟨t, ht, rfl⟩ := hp
    exact hz t ht)
  rw [rowZ_len] at e J
  refine ⟨A, C, e, fun i hi => ?_⟩
  have e : (rowZ (fun _ => Z) 0 k).getD i (0, 0) = Z i := rowZ_at (fun _ => Z) 0 k i hi
  rw [← e]
  exact J i hi

set_option maxHeartbeats 8000000 in
set_option maxRecDepth 100000 in
theorem linGrows_good (A E : Option Addr) (N C k F : Nat) (RA : Nat → Option Addr) (RL RC : Nat → Nat) (X : Nat → Nat → Nat × Nat) (Y : Nat → Nat × Nat) (w : World)
    (h0 : 0 < N) (hN : N ≤ 24) (hk0 : 0 < k) (hk : k ≤ 24) (hR : ∀ r, r < N → RL r = k) (qX : ∀ r, r < N → ∀ c, c < k → W2 (X r c) ∧ rightB (X r c).1 (X r c).2 = true) (qY : ∀ c, c < k → W2 (Y c) ∧ rightB (Y c).1 (Y c).2 = true) (UA : Rws w A N RA RL RC X) (UE : Ivs w E k Y)
    (cmm : ∀ w2, Below w.heap.size w w2 → Calls Try.prog 37 #[.slice A N C] w2 fun e w' => e = .returned (.bool true) ∧ Below w2.heap.size w2 w')
    (cvv : ∀ w2, Below w.heap.size w w2 → Calls Try.prog 31 #[.slice E k F] w2 fun e w' => e = .returned (.bool true) ∧ Below w2.heap.size w2 w')
    (c3 : ∀ w2, Below w.heap.size w w2 → Calls Try.prog 12 #[.slice A N C] w2 fun e w' => e = .returned (.bool true) ∧ Below w2.heap.size w2 w')
    (c1 : ∀ w2, Below w.heap.size w w2 → Calls Try.prog 8 #[.slice E k F] w2 fun e w' => e = .returned (.bool true) ∧ Below w2.heap.size w2 w') :
    Calls Try.prog 5 #[.slice A N C, .slice E k F] w fun e w' => e = .returned (.bool true) ∧ Below w.heap.size w w' := by
  have HB : Below w.heap.size w w := Below.refl _ _
  have HR : Hid (∀ r, r < N → RL r = k) := hR
  have QX : Hid (∀ r, r < N → ∀ c, c < k → W2 (X r c) ∧ rightB (X r c).1 (X r c).2 = true) := qX
  have QY : Hid (∀ c, c < k → W2 (Y c) ∧ rightB (Y c).1 (Y c).2 = true) := qY
  clear hR qX qY
  obtain ⟨b, o, hA, hb, x0, l0, -⟩ := UA 0 h0
  rw [HR 0 h0, Nat.add_zero] at x0
  have hlt0 : (0 : Int) < (N : Int) := by omega
  subst hA
  go_enter Try.func5, Try.ntmps5
  go_wp2_with (first
    | (go_at_call 12; with_reducible refine (c3 _ HB).mono ?_; rintro _ w1 ⟨rfl, hb1⟩; replace x0 := keepsC hb1 x0 hb; replace hb := Nat.lt_of_lt_of_le hb hb1.size; replace HB := later HB hb1; clear hb1)
    | (go_at_call 8; with_reducible refine (c1 _ HB).mono ?_; rintro _ w2 ⟨rfl, hb1⟩; replace x0 := keepsC hb1 x0 hb; replace hb := Nat.lt_of_lt_of_le hb hb1.size; replace HB := later HB hb1; clear hb1))
  have HC : Hid (∀ x, W2 x → ∀ w, Calls Try.prog 24 #[.agg #[.float .f64 x.1, .float .f64 x.2]] w fun e w' => e = .returned (.agg #[.float .f64 (pointP x).1, .float .f64 (pointP x).2]) ∧ Below w.heap.size w w') := fun x hx w => point_c x hx w
  have VA := UA.keep HB
  have E0 : OwnR w2.heap.size w2 (.slice none 0 0) [] := World.ownsRow_nil _ _ _ _
  go_loopg [6, 44] N (fun G s6 s44 wx => Below w2.heap.size w2 wx ∧ w2.heap.size ≤ wx.heap.size ∧ ∃ (i : Nat) (vs : List Value), i + G = N ∧ s44 = .int .i64 (i : Int) ∧ OwnR w2.heap.size wx s6 vs ∧ RowG w2.heap.size wx (thinZ X) k i vs)
  case atStart => exact ⟨Below.refl _ _, Nat.le_refl _, 0, [], by omega, rfl, E0, rfl, fun r hr => absurd hr (by omega)⟩
  case round =>
    clear E0
    obtain ⟨HW, hSz, i, vs, hi, rfl, hown, hrow⟩ := hrel
    by_cases ci : i = N
    · subst ci
      clear VA
      have HB0 := later HB HW
      have VE := UE.keep HB0
      have QT : Hid (∀ r, r < i → ∀ c, c < k → Gr (thinZ X r c) (X r c) ∧ W2 (thinZ X r c)) := fun r hr c hc => pt_all (QX r hr c hc).1 (QX r hr c hc).2
      have QW : Hid (∀ c, c < k → Gr (pointP (Y c)) (Y c) ∧ W2 (pointP (Y c))) := fun c hc => pt_all (QY c hc).1 (QY c hc).2
      obtain ⟨TA, TC, TRA, TRC, eT, T⟩ := hrow.rws hown (by omega) (fun r hr c hc => (QT r hr c hc).2)
      subst eT
      clear hown hrow HW hSz
      obtain ⟨w4, rfl⟩ : ∃ w4, w4 = wr := ⟨_, rfl⟩
      have E1 : OwnI w4.heap.size w4 (.slice none 0 0) [] := World.ownsRow_nil _ _ _ _
      go_wp2_with fail
      go_loopg [12, 68] k (fun G s12 s68 wy => Below w4.heap.size w4 wy ∧ w4.heap.size ≤ wy.heap.size ∧ ∃ j : Nat, j + G = k ∧ s68 = .int .i64 (j : Int) ∧ OwnI w4.heap.size wy s12 (rowZ (fun _ c => pointP (Y c)) 0 j))
      case atStart => exact ⟨Below.refl _ _, Nat.le_refl _, 0, by omega, rfl, E1⟩
      case round =>
        clear E1
        obtain ⟨HY, hSy, j, hj, rfl, hownI⟩ := hrel
        by_cases cj : j = k
        · subst cj
          obtain ⟨WA, WC, eW, U⟩ := ivs_of hownI (fun c hc => (QW c hc).2)
          subst eW
          replace T := T.keep HY
          have HBW := later HB0 HY
          clear hownI HY hSy VE HB0 x0 hb l0 c3 c1
          have cA : ∀ w2, Below w.heap.size w w2 → Calls Try.prog 11 #[.slice (some ⟨b, o, none⟩) i C, .slice E j F] w2 fun e w' => ∃ g, e = .returned (.tuple #[.slice (some ⟨g, 0, none⟩) i i, .int .i64 0]) ∧ Img w' g i (fun r => dotP (X r) Y j) ∧ Below w2.heap.size w2 w' := fun w2 q =>
            apply_good (some ⟨b, o, none⟩) E i C j F RA RL RC X Y hN h0 hk HR w2 (UA.keep q) (UE.keep q) (fun w3 q3 => cmm w3 (later q q3)) (fun w3 q3 => cvv w3 (later q q3))
          have cT : ∀ w2, Below wr.heap.size wr w2 → Calls Try.prog 11 #[.slice TA i TC, .slice WA j WC] w2 fun e w' => ∃ g, e = .returned (.tuple #[.slice (some ⟨g, 0, none⟩) i i, .int .i64 0]) ∧ Img w' g i (fun r => dotP (thinZ X r) (fun c => pointP (Y c)) j) ∧ Below w2.heap.size w2 w' := fun w2 q =>
            apply_good TA WA i TC j WC TRA (fun _ => j) TRC (thinZ X) (fun c => pointP (Y c)) hN h0 hk (fun _ _ => rfl) w2 (T.keep q) (U.keep q)
              (fun w3 q3 => by have := matMay_w TA i TC TRA (fun _ => j) TRC (thinZ X) (by omega) w3 (T.keep (later q q3)); rw [mat_of h0 hN hk0 hk (fun r hr c hc => (QT r hr c hc).1.told.2.1)] at this; exact this)
              (fun w3 q3 => by have := vecMay_w WA j WC (fun c => pointP (Y c)) (by omega) w3 (U.keep (later q q3)); rw [vec_of hk0 hk (fun c hc => (QW c hc).1.told.2.1)] at this; exact this)
          have cO := fun w => One_rws i h0 hN w
          have cM : ∀ OA OC OSA OSC w2, Rws w2 OA i OSA (fun _ => i) OSC oneP → Below w.heap.size w w2 → Calls Try.prog 15 #[.slice OA i OC, .slice (some ⟨b, o, none⟩) i C] w2 fun e w' => ∃ g h, e = .returned (.tuple #[.slice (some ⟨g, 0, none⟩) i i, .int .i64 0]) ∧ Grd w' g i j h (prodI oneP X i) ∧ Below w2.heap.size w2 w' := fun OA OC OSA OSC w2 O q =>
            Mul_good OA (some ⟨b, o, none⟩) i i j OC C OSA RA (fun _ => i) OSC RL RC oneP X hN h0 hN h0 hk (fun _ _ => rfl) HR w2 O (UA.keep q)
              (fun w3 q3 => by have := matMay_w OA i OC OSA (fun _ => i) OSC oneP (by omega) w3 (O.keep q3); rw [mat_of h0 hN h0 hN (fun r _ c _ => one_right r c)] at this; exact this)
              (fun w3 q3 => cmm w3 (later q q3))
          have cN : ∀ OA OC OSA OSC w2, Rws w2 OA i OSA (fun _ => i) OSC oneP → Calls Try.prog 18 #[.slice OA i OC] w2 fun e w' => e = .returned (.tuple #[.float .f64 4607182418800017408, .int .i64 0]) ∧ Below w2.heap.size w2 w' := fun OA OC OSA OSC w2 O => by
            have := Norm_w OA i OC OSA (fun _ => i) OSC oneP (by omega) w2 O
            rw [mat_of h0 hN h0 hN (fun r _ c _ => one_right r c), if_pos rfl, if_pos rfl, norm_one i i (Nat.le_refl _) h0] at this
            exact this
          have oo : (FloatKind.f64.format.order 4607182418800017408 4607182418800017408 != some .eq) = false := by decide
          have HW := Below.refl wr.heap.size wr
          clear cmm cvv UE
          go_wp2_with (first
            | (go_at_call_of 11 (Value.slice (some ⟨b, o, none⟩) i C); with_reducible refine (cA _ HBW).mono ?_; rintro _ wA ⟨gA, rfl, IA, hb1⟩; replace HBW := later HBW hb1; replace HW := later HW hb1; clear hb1 cA)
            | (go_at_call 11; with_reducible refine (cT _ HW).mono ?_; rintro _ wB ⟨gB, rfl, IB, hb1⟩; replace IA := IA.keep hb1; replace HBW := later HBW hb1; clear hb1 cT HW)
            | (go_at_call 20; with_reducible refine (cO _).mono ?_; rintro _ wC ⟨OA, OC, OSA, OSC, rfl, JO, hb1⟩; replace IA := IA.keep hb1; replace IB := IB.keep hb1; replace HBW := later HBW hb1; (try replace GM := GM.keep hb1); clear hb1)
            | (go_at_call 15; with_reducible refine (cM _ _ _ _ _ JO HBW).mono ?_; rintro _ wD ⟨gM, hM, rfl, GM, hb1⟩; replace IA := IA.keep hb1; replace IB := IB.keep hb1; replace HBW := later HBW hb1; clear hb1 JO cM)
            | (go_at_call 18; with_reducible refine (cN _ _ _ _ _ JO).mono ?_; rintro _ wE ⟨rfl, hb1⟩; replace IA := IA.keep hb1; replace IB := IB.keep hb1; replace HBW := later HBW hb1; replace GM := GM.keep hb1; clear hb1 JO cN))
          have FI : Hid (∀ p, p < i → insideB (dotP (thinZ X p) (fun c => pointP (Y c)) j).1 (dotP (thinZ X p) (fun c => pointP (Y c)) j).2 (dotP (X p) Y j).1 (dotP (X p) Y j).2 = true) := fun p hp =>
            (dot_gr (fun c hc => (QT p hp c hc).1) (fun c hc => (QW c hc).1) (fun c hc => (QT p hp c hc).2) (fun c hc => (QW c hc).2) (fun c hc => (QX p hp c hc).1) (fun c hc => (QY c hc).1)).told.1
          have FA : Hid (∀ p, p < i → W2 (dotP (X p) Y j)) := fun p hp => dotP_lt (fun c hc => (QX p hp c hc).1) (fun c hc => (QY c hc).1)
          have FB : Hid (∀ p, p < i → W2 (dotP (thinZ X p) (fun c => pointP (Y c)) j)) := fun p hp => dotP_lt (fun c hc => (QT p hp c hc).2) (fun c hc => (QW c hc).2)
          have FP : Hid (∀ p, p < i → ∀ q, q < j → W2 (prodI oneP X i p q)) := fun p _ q hq => dotP_lt (fun s _ => oneP_w p s) (fun s hs => (QX s hs q hq).1)
          have FM : Hid (∀ p, p < i → ∀ q, q < j → hollowB i X q = false → insideB (X p q).1 (X p q).2 (prodI oneP X i p q).1 (prodI oneP X i p q).2 = true) := fun p hp q hq hh => by
            have al : (List.range i).all (fun r => hsB (X r q).1 (X r q).2) = true := by
              unfold hollowB at hh
              simpa using hh
            exact (one_dot (Y := fun s => X s q) hp (fun s hs => hs_iff.1 (all_upto.1 al s hs)) (fun s hs => (QX s hs q hq).1)).told.1
          have RM := GM.rws (by omega) FP
          have UM := UA.keep HBW
          have FV : Hid (∀ p, p < i → vecB j (X p) = true) := fun p hp => vec_of hk0 hk (fun c hc => (QX p hp c hc).2)
          clear QT QW QX QY T U UA HC GM h0
          go_loopg [140] i (fun G s140 wx => Below wE.heap.size wE wx ∧ ∃ p : Nat, p + G = i ∧ s140 = .int .i64 (p : Int))
          case atStart => exact ⟨Below.refl _ _, 0, by omega, rfl⟩
          case round =>
            obtain ⟨HX, p, hp, rfl⟩ := hrel
            by_cases cp : p = i
            · subst cp
              go_wp2_with fail
              go_ret
              exact ⟨rfl, later HBW HX⟩
            · have hltp : (p : Int) < (i : Int) := by omega
              have hpi : p < i := by omega
              obtain ⟨-, aa⟩ := IA.keep HX
              obtain ⟨a0, a1, -, -⟩ := aa p hpi
              have aS : gA < wr.heap.size := (IA.keep HX).1
              obtain ⟨-, bb⟩ := IB.keep HX
              obtain ⟨b0, b1, -, -⟩ := bb p hpi
              have bS : gB < wr.heap.size := (IB.keep HX).1
              have cI := fun w => rinside_w _ _ _ _ (FB p hpi).1 (FB p hpi).2 (FA p hpi).1 (FA p hpi).2 w
              rw [FI p hpi] at cI
              clear aa bb
              dsimp only at a0 a1 b0 b1
              generalize dotP (X p) Y j = dA at a0 a1 cI
              generalize dotP (thinZ X p) (fun c => pointP (Y c)) j = dB at b0 b1 cI
              go_wp2_with fail
              have ka0 := fun n : Behind wr => n.cell a0 aS
              have ka1 := fun n : Behind wr => n.cell a1 aS
              have kb0 := fun n : Behind wr => n.cell b0 bS
              have kb1 := fun n : Behind wr => n.cell b1 bS
              refine region_behind (by kernel_rfl) (by kernel_rfl) ?_
              repeat (go_big_quiet_step (first | (go_at_call 29; with_reducible refine Behind.call (cI _))))
              refine wpQuiet_nil ?_
              rintro _ ⟨n, rfl⟩
              obtain ⟨W, hb1⟩ := n
              dsimp only
              replace HX := later HX hb1
              clear ka0 ka1 kb0 kb1 a0 a1 b0 b1 aS bS cI hb1
              obtain ⟨b', o', hA', hb', y0, l0', I⟩ := (UM.keep HX) p hpi
              rw [HR p hpi] at y0 I
              clear l0'
              obtain ⟨rfl, rfl⟩ : b = b' ∧ o = o' := by
                simp only [Option.some.injEq, Addr.mk.injEq] at hA'
                exact ⟨hA'.1, hA'.2.1⟩
              obtain ⟨P, hP⟩ : ∃ P, P = RA p := ⟨_, rfl⟩
              obtain ⟨Q, hQ⟩ : ∃ Q, Q = RC p := ⟨_, rfl⟩
              rw [← hP] at I
              rw [← hP, ← hQ] at y0
              clear hP hQ
              obtain ⟨W0, rfl⟩ : ∃ W0, W0 = W := ⟨_, rfl⟩
              go_wp2_with fail
              go_loopg [158] j (fun G s158 wy => Below W0.heap.size W0 wy ∧ ∃ q : Nat, q + G = j ∧ s158 = .int .i64 (q : Int))
              case atStart => exact ⟨Below.refl _ _, 0, by omega, rfl⟩
              case round =>
                obtain ⟨HQ, q, hq, rfl⟩ := hrel
                by_cases cq : q = j
                · subst cq
                  go_wp2_with fail
                  go_roundg (i - p - 1)
                  case measure => omega
                  case rel => exact ⟨later HX HQ, p + 1, by omega, by go_num⟩
                · have hltq : (q : Int) < (j : Int) := by omega
                  have hqj : q < j := by omega
                  replace y0 := keepsC HQ y0 hb'
                  replace hb' := Nat.lt_of_lt_of_le hb' HQ.size
                  replace I := I.keep HQ
                  replace HX := later HX HQ
                  obtain ⟨b2, o2, hA2, hb2, z0, z1, k0, k1⟩ := I q hqj
                  obtain ⟨b3, o3, hA3, hb3, t0, -, J⟩ := (RM.keep HX) p hpi
                  obtain ⟨b4, o4, hA4, hb4, u0, u1, m0, m1⟩ := J q hqj
                  obtain ⟨rfl, rfl⟩ : gM = b3 ∧ 0 = o3 := by
                    simp only [Option.some.injEq, Addr.mk.injEq] at hA3
                    exact ⟨hA3.1, hA3.2.1⟩
                  obtain ⟨rfl, rfl⟩ : hM p = b4 ∧ 0 = o4 := by
                    simp only [Option.some.injEq, Addr.mk.injEq] at hA4
                    exact ⟨hA4.1, hA4.2.1⟩
                  have cV : ∀ n : Behind wr, Calls Try.prog 8 #[.slice P j Q] n.W fun e w' => e = .returned (.bool true) ∧ Below n.W.heap.size n.W w' := fun n => by
                    have := rvec_w P j Q (X p) (by omega) n.W (I.keep n.bel)
                    rw [FV p hpi] at this
                    exact this
                  have cH : ∀ n : Behind wr, Calls Try.prog 30 #[.slice (some ⟨b, o, none⟩) i C, .int .i64 (q : Int)] n.W fun e w' => e = .returned (.bool (hollowB i X q)) ∧ Below n.W.heap.size n.W w' := fun n =>
                    hollow_w (some ⟨b, o, none⟩) i C q RA RL RC X (by omega) (fun r hr => by rw [HR r hr]; exact hqj) n.W (UM.keep (later HX n.bel))
                  have cI := fun w => rinside_w (X p q).1 (X p q).2 (prodI oneP X i p q).1 (prodI oneP X i p q).2 k0 k1 m0 m1 w
                  have hc : hollowB i X q = true ∨ hollowB i X q = false := by cases hollowB i X q <;> simp
                  have FQ : Hid (hollowB i X q = false → insideB (X p q).1 (X p q).2 (prodI oneP X i p q).1 (prodI oneP X i p q).2 = true) := FM p hpi q hqj
                  dsimp only at t0
                  rw [Nat.zero_add] at t0 u0 u1
                  clear FI FA FB FP FM FV I J
                  clear hA3 hA4
                  subst hA2
                  generalize prodI oneP X i p q = pr at *
                  have ky := fun n : Behind wr => n.cell y0 hb'
                  have kz0 := fun n : Behind wr => n.cell z0 hb2
                  have kz1 := fun n : Behind wr => n.cell z1 hb2
                  have kt := fun n : Behind wr => n.cell t0 hb3
                  have ku0 := fun n : Behind wr => n.cell u0 hb4
                  have ku1 := fun n : Behind wr => n.cell u1 hb4
                  rcases hc with hc | hc
                  · rw [hc] at cH
                    clear FQ hc
                    go_wp2_with fail
                    refine region_behind (by kernel_rfl) (by kernel_rfl) ?_
                    repeat (go_big_quiet_step (first | (go_at_call 8; with_reducible refine Behind.call (cV _)) | (go_at_call 30; with_reducible refine Behind.call (cH _)) | (go_at_call 29; with_reducible refine Behind.call (cI _))))
                    refine wpQuiet_nil ?_
                    rintro _ ⟨n, rfl⟩
                    obtain ⟨W, hb1⟩ := n
                    dsimp only
                    go_wp2_with fail
                    go_roundg (j - q - 1)
                    case measure => omega
                    case rel => exact ⟨later HQ hb1, q + 1, by omega, by go_num⟩
                  · rw [hc] at cH
                    rw [FQ hc] at cI
                    clear FQ hc
                    go_wp2_with fail
                    refine region_behind (by kernel_rfl) (by kernel_rfl) ?_
                    repeat (go_big_quiet_step (first | (go_at_call 8; with_reducible refine Behind.call (cV _)) | (go_at_call 30; with_reducible refine Behind.call (cH _)) | (go_at_call 29; with_reducible refine Behind.call (cI _))))
                    refine wpQuiet_nil ?_
                    rintro _ ⟨n, rfl⟩
                    obtain ⟨W, hb1⟩ := n
                    dsimp only
                    go_wp2_with fail
                    go_roundg (j - q - 1)
                    case measure => omega
                    case rel => exact ⟨later HQ hb1, q + 1, by omega, by go_num⟩
        · have hltj : (j : Int) < (k : Int) := by omega
          have hlen : (rowZ (fun _ c => pointP (Y c)) 0 j).length ≤ 2000000 := by rw [rowZ_len]; omega
          obtain ⟨b2, o2, hA2, hb2, z0, z1, k0, k1⟩ := (VE.keep HY) j (by omega)
          have cm : ∀ w, Calls Try.prog 24 #[.agg #[.float .f64 (Y j).1, .float .f64 (Y j).2]] w fun e w' => e = .returned (.agg #[.float .f64 (pointP (Y j)).1, .float .f64 (pointP (Y j)).2]) ∧ Below w.heap.size w w' := HC (Y j) ⟨k0, k1⟩
          subst hA2
          go_wp2_with (first
            | (go_at_call 24; refine (cm _).mono ?_; rintro _ w3 ⟨rfl, hb1⟩; replace hownI := OwnI.keep (hownI.alloc _) hb1; replace HY := later (below_alloc HY _) hb1; have hS1 := HY.size)
            | (at_builtin; refine wpList_pushI (by rfl) _ _ (by rfl) _ (rowZ (fun _ c => pointP (Y c)) 0 j) (pointP (Y j)).1 (pointP (Y j)).2 (by rfl) (by rfl) hownI hlen hS1 HY ?_; intro v' w' hown' hB' hS'))
          go_roundg (k - j - 1)
          case measure => omega
          case rel => exact ⟨hB', hS', j + 1, by omega, by go_num, by rw [rowZ_step]; exact hown'⟩
    · have hlti : (i : Int) < (N : Int) := by omega
      obtain ⟨b', o', hA', hb', y0, l0', I⟩ := (VA.keep HW) i (by omega)
      rw [HR i (by omega)] at y0 I
      clear l0'
      obtain ⟨rfl, rfl⟩ : b = b' ∧ o = o' := by
        simp only [Option.some.injEq, Addr.mk.injEq] at hA'
        exact ⟨hA'.1, hA'.2.1⟩
      generalize RA i = P at *
      obtain ⟨w1, rfl⟩ : ∃ w1, w1 = wr := ⟨_, rfl⟩
      have E1 : OwnI w1.heap.size w1 (.slice none 0 0) [] := World.ownsRow_nil _ _ _ _
      go_wp2_with fail
      go_loopg [9, 50] k (fun G s9 s50 wy => Below w1.heap.size w1 wy ∧ w1.heap.size ≤ wy.heap.size ∧ ∃ j : Nat, j + G = k ∧ s50 = .int .i64 (j : Int) ∧ OwnI w1.heap.size wy s9 (rowZ (thinZ X) i j))
      case atStart => exact ⟨Below.refl _ _, Nat.le_refl _, 0, by omega, rfl, E1⟩
      case round =>
        clear E1
        obtain ⟨HY, hSy, j, hj, rfl, hownI⟩ := hrel
        by_cases cj : j = k
        · subst cj
          obtain ⟨A', C', hv⟩ := hownI.form
          rw [rowZ_len] at hv
          subst hv
          have hlen : vs.length ≤ 2000000 := by rw [hrow.1]; omega
          have hownR := hown.keep HY
          have hrow1 := hrow.keep fun u xs q => q.keep HY
          have HB1 := later HW HY
          have hS1 := HB1.size
          go_wp2_with (at_builtin; refine wpList_pushR (by rfl) _ _ (by rfl) _ vs A' j C' (by rfl) (by rfl) hownR hlen hS1 HB1 ?_; intro v' w' hown' hB' hS' hkeep)
          go_roundg (N - i - 1)
          case measure => omega
          case rel => exact ⟨hB', hS', i + 1, _, by omega, by go_num, hown', (hrow1.keep hkeep).push (hkeep _ _ (hownI.base hSz))⟩
        · have hltj : (j : Int) < (k : Int) := by omega
          have hlen : (rowZ (thinZ X) i j).length ≤ 2000000 := by rw [rowZ_len]; omega
          obtain ⟨b2, o2, hA2, hb2, z0, z1, k0, k1⟩ := (I.keep HY) j (by omega)
          have cm : ∀ w, Calls Try.prog 24 #[.agg #[.float .f64 (X i j).1, .float .f64 (X i j).2]] w fun e w' => e = .returned (.agg #[.float .f64 (thinZ X i j).1, .float .f64 (thinZ X i j).2]) ∧ Below w.heap.size w w' := HC (X i j) ⟨k0, k1⟩
          subst hA2
          go_wp2_with (first
            | (go_at_call 24; refine (cm _).mono ?_; rintro _ w3 ⟨rfl, hb1⟩; replace hownI := OwnI.keep (hownI.alloc _) hb1; replace HY := later (below_alloc HY _) hb1; have hS1 := HY.size)
            | (at_builtin; refine wpList_pushI (by rfl) _ _ (by rfl) _ (rowZ (thinZ X) i j) (thinZ X i j).1 (thinZ X i j).2 (by rfl) (by rfl) hownI hlen hS1 HY ?_; intro v' w' hown' hB' hS'))
          go_roundg (k - j - 1)
          case measure => omega
          case rel => exact ⟨hB', hS', j + 1, by omega, by go_num, by rw [rowZ_step]; exact hown'⟩

end Go.Proofs.Ytddkojmdhckleaa
