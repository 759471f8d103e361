/- LinProducts' walk. LinProducts of slices as they lie in memory. -/
import Derived.Test.YtddkojmdhckleaaLi
import Derived.Deep.CutRange
namespace Go.Proofs.Ytddkojmdhckleaa
open Go.ChangeShapes Go.WideShapes Go.ChangeAt Go.RowKit

theorem all_parts {p q r : Bool} (h : (p && q && r) = true) : p = true ∧ q = true ∧ r = true := by cases p <;> cases q <;> cases r <;> simp_all

theorem matB_parts {N : Nat} {RL : Nat → Nat} {X : Nat → Nat → Nat × Nat} (h : matB N RL X = true) : 0 < N ∧ N ≤ 24 ∧ (∀ r, r < N → RL r = RL 0) ∧ RL 0 ≤ 24 := by
  unfold matB at h
  obtain ⟨h1, h2⟩ := Bool.and_eq_true_iff.1 h
  have d : 1 ≤ N ∧ N ≤ 24 := of_decide_eq_true h2
  have a := all_upto.1 h1
  refine ⟨by omega, d.2, fun r hr => of_decide_eq_true (Bool.and_eq_true_iff.1 (a r hr)).1, ?_⟩
  have v := (Bool.and_eq_true_iff.1 (a 0 (by omega))).2
  unfold vecB at v
  have := of_decide_eq_true (Bool.and_eq_true_iff.1 v).2
  exact this.2

theorem vecB_parts {n : Nat} {X : Nat → Nat × Nat} (h : vecB n X = true) : 0 < n ∧ n ≤ 24 := by
  unfold vecB at h
  have := of_decide_eq_true (Bool.and_eq_true_iff.1 h).2
  exact ⟨by omega, this.2⟩

set_option maxHeartbeats 8000000 in
set_option maxRecDepth 100000 in
theorem linProds_core (A B E fA : Option Addr) (N C M D k F fL fC d1 d2 L : Nat) (r1 : Int) (b1 b2 b3 b4 b5 m1 m2 : Bool) (Z : Nat → Nat × Nat) (P : Nat → Nat → Nat × Nat) (hN : N ≤ 9223372036854775807) (w : World)
    (cf : ∀ w2, Below w.heap.size w w2 → Calls Try.prog 7 #[.slice A N C] w2 fun e w' => e = .returned (.slice fA fL fC) ∧ w2 = w')
    (cD : ∀ w2, Below w.heap.size w w2 → Calls Try.prog 6 #[.slice E k F, .slice fA fL fC] w2 fun e w' => e = .returned (.tuple #[.agg #[.float .f64 d1, .float .f64 d2], .int .i64 r1]) ∧ Below w2.heap.size w2 w')
    (hr1 : r1 = if b1 && b2 && b3 then 0 else 1)
    (c1 : ∀ w2, Below w.heap.size w w2 → Calls Try.prog 8 #[.slice E k F] w2 fun e w' => e = .returned (.bool b1) ∧ Below w2.heap.size w2 w')
    (c2 : ∀ w2, Below w.heap.size w w2 → Calls Try.prog 8 #[.slice fA fL fC] w2 fun e w' => e = .returned (.bool b2) ∧ Below w2.heap.size w2 w')
    (h3 : ((k : Int) != (fL : Int)) = !b3)
    (cR : (b1 && b2 && b3) = true → ∀ w2, Below w.heap.size w w2 → Calls Try.prog 10 #[.slice E k F, .slice fA fL fC] w2 fun e w' => e = .returned (.agg #[.float .f64 d1, .float .f64 d2]) ∧ Below w2.heap.size w2 w')
    (cS : (b1 && b2 && b3) = true → ∀ w2, Calls Try.prog 9 #[.agg #[.float .f64 d1, .float .f64 d2], .agg #[.float .f64 d1, .float .f64 d2]] w2 fun e w' => e = .returned (.bool true) ∧ Below w2.heap.size w2 w')
    (c3 : ∀ w2, Below w.heap.size w w2 → Calls Try.prog 12 #[.slice A N C] w2 fun e w' => e = .returned (.bool m1) ∧ Below w2.heap.size w2 w')
    (x0 : m1 = true → 0 < N ∧ ∃ b o, A = some ⟨b, o, none⟩ ∧ b < w.heap.size ∧ w.cell? ⟨b, o, none⟩ = some (.slice fA fL fC))
    (h4 : ((fL : Int) != (k : Int)) = !b4) (h5 : ((fL : Int) != (M : Int)) = !b5)
    (cA : ∀ w2, Below w.heap.size w w2 → Calls Try.prog 11 #[.slice A N C, .slice E k F] w2 fun e w' => ∃ xA xL xC r, e = .returned (.tuple #[.slice xA xL xC, .int .i64 r]) ∧ ((m1 && b1 && b4) = true → r = 0 ∧ xL = N ∧ Ivs w' xA N Z) ∧ ((m1 && b1 && b4) = false → r = 1 ∧ xL = 0) ∧ Below w2.heap.size w2 w')
    (cP : (m1 && b1 && b4) = true → ∀ w2, Below w.heap.size w w2 → Calls Try.prog 14 #[.slice A N C, .slice E k F] w2 fun e w' => ∃ vA vC, e = .returned (.slice vA N vC) ∧ Ivs w' vA N Z ∧ Below w2.heap.size w2 w')
    (c4 : ∀ w2, Below w.heap.size w w2 → Calls Try.prog 12 #[.slice B M D] w2 fun e w' => e = .returned (.bool m2) ∧ Below w2.heap.size w2 w')
    (cM : ∀ w2, Below w.heap.size w w2 → Calls Try.prog 15 #[.slice A N C, .slice B M D] w2 fun e w' => ∃ xA xL xC r, e = .returned (.tuple #[.slice xA xL xC, .int .i64 r]) ∧ ((m1 && m2 && b5) = true → r = 0 ∧ xL = N ∧ ∃ RA RC, Rws w' xA N RA (fun _ => L) RC P) ∧ ((m1 && m2 && b5) = false → r = 1 ∧ xL = 0) ∧ Below w2.heap.size w2 w')
    (cQ : (m1 && m2 && b5) = true → ∀ w2, Below w.heap.size w w2 → Calls Try.prog 17 #[.slice A N C, .slice B M D] w2 fun e w' => ∃ vA vC RA RC, e = .returned (.slice vA N vC) ∧ Rws w' vA N RA (fun _ => L) RC P ∧ Below w2.heap.size w2 w') :
    Calls Try.prog 3 #[.slice A N C, .slice B M D, .slice E k F] w fun e w' => e = .returned (.bool true) ∧ Below w.heap.size w w' := by
  have HB : Below w.heap.size w w := Below.refl _ _
  have HR1 : Hid (r1 = if b1 && b2 && b3 then 0 else 1) := hr1
  clear hr1
  go_enter Try.func3, Try.ntmps3
  go_upto_region 2 with (first
    | (go_at_call 7; refine (cf _ HB).mono ?_; rintro _ _ ⟨rfl, rfl⟩)
    | (go_at_call 6; with_reducible refine (cD _ HB).mono ?_; rintro _ V1 ⟨rfl, hb1⟩; replace HB := later HB hb1; clear hb1))
  have O := has2_new V1 (.float .f64 d1) (.float .f64 d2) 26
  replace HB := below_alloc HB (.cells #[.float .f64 d1, .float .f64 d2] 26)
  generalize V1.alloc (.cells #[.float .f64 d1, .float .f64 d2] 26) = V2 at *
  generalize V1.heap.size = ob at *
  clear V1 cD
  go_cut [36] from 20 to 36 (fun s36 wx => s36 = .bool (!(b1 && b2 && b3)) ∧ Below w.heap.size w wx ∧ Has2 wx ob (.float .f64 d1) (.float .f64 d2))
  case first =>
    clear cR cS cA cP cM cQ c3 c4 x0 h4 h5 HR1
    cases b1
    case' true => cases b2
    case' true.true => cases b3
    all_goals
      try simp only [Bool.not_true, Bool.not_false] at h3
      go_wp2_with (first
        | (go_at_call 7; refine (cf _ HB).mono ?_; rintro _ _ ⟨rfl, rfl⟩)
        | (go_at_call 8; with_reducible refine (c1 _ HB).mono ?_; rintro _ w1 ⟨rfl, hb1⟩; replace O := O.keep hb1; replace HB := later HB hb1; clear hb1)
        | (go_at_call 8; with_reducible refine (c2 _ HB).mono ?_; rintro _ w1 ⟨rfl, hb1⟩; replace O := O.keep hb1; replace HB := later HB hb1; clear hb1))
      go_meet
      exact ⟨rfl, HB, O⟩
  case rest =>
    clear HB O
    obtain ⟨rfl, HB, O⟩ := hcut
    go_upto_if 36 with fail
    go_cut [] from 37 to 49 (fun wx => Below w.heap.size w wx)
    case first =>
      clear cA cP cM cQ c3 c4 x0 h4 h5 c1 c2 h3
      generalize (b1 && b2 && b3) = ok1 at *
      cases ok1
      · have e : r1 = 1 := HR1
        subst e
        clear HR1 cR cS cf O
        go_wp2_with fail
        go_meet
        exact HB
      · have e : r1 = 0 := HR1
        subst e
        replace cR := cR rfl
        replace cS := cS rfl
        clear HR1
        go_upto_region 5 with fail
        obtain ⟨V3, hV3⟩ : ∃ V3, V3 = wc := ⟨_, rfl⟩
        have cf' : ∀ n : Behind wc, Calls Try.prog 7 #[.slice A N C] n.W fun e w' => e = .returned (.slice fA fL fC) ∧ n.W = w' := fun n => cf n.W (later HB n.bel)
        have cR' : ∀ n : Behind wc, Calls Try.prog 10 #[.slice E k F, .slice fA fL fC] n.W fun e w' => e = .returned (.agg #[.float .f64 d1, .float .f64 d2]) ∧ Below n.W.heap.size n.W w' := fun n => cR n.W (later HB n.bel)
        clear hV3 V3 cf cR
        have ko0 := fun n : Behind wc => n.cell O.1 O.2.2.2.2
        have ko1 := fun n : Behind wc => n.cell O.2.1 O.2.2.2.2
        refine region_behind (by kernel_rfl) (by kernel_rfl) ?_
        repeat (go_big_quiet_step (first
          | (go_at_call 7; with_reducible refine Behind.same (cf' _))
          | (go_at_call 10; with_reducible refine Behind.call (cR' _))
          | (go_at_call 9; with_reducible refine Behind.call (cS _))))
        refine wpQuiet_nil ?_
        rintro _ ⟨q, rfl⟩
        obtain ⟨W, hb1⟩ := q
        dsimp only
        go_wp2_with fail
        go_meet
        exact later HB hb1
    case rest =>
      clear HB O cf cR cS HR1 h3 c2
      have HB := hcut
      clear hcut
      go_upto_region 8 with (go_at_call 11; with_reducible refine (cA _ HB).mono ?_; rintro _ V3 ⟨xA, xL, xC, r2, rfl, hx1, hx2, hb1⟩; replace HB := later HB hb1; clear hb1)
      have HX1 : Hid ((m1 && b1 && b4) = true → r2 = 0 ∧ xL = N ∧ Ivs V3 xA N Z) := hx1
      have HX2 : Hid ((m1 && b1 && b4) = false → r2 = 1 ∧ xL = 0) := hx2
      clear hx1 hx2 cA
      have HV := Below.refl V3.heap.size V3
      go_cut [72] from 56 to 72 (fun s72 wx => s72 = .bool (!(m1 && b1 && b4)) ∧ Below w.heap.size w wx ∧ Below V3.heap.size V3 wx)
      case first =>
        clear cP cM cQ c4 h5 HX1 HX2
        cases m1
        · clear x0 c1 h4
          go_wp2_with (go_at_call 12; with_reducible refine (c3 _ HB).mono ?_; rintro _ w1 ⟨rfl, hb1⟩; replace HV := later HV hb1; replace HB := later HB hb1; clear hb1)
          go_meet
          exact ⟨rfl, HB, HV⟩
        · obtain ⟨hN0, b, o, hA, hb, y0⟩ := x0 rfl
          have hlt : (0 : Int) < (N : Int) := by omega
          have y1 := keepsC HB y0 hb
          clear x0
          subst hA
          cases b1
          case' true => cases b4
          all_goals
            try simp only [Bool.not_true, Bool.not_false] at h4
            go_wp2_with (first
              | (go_at_call 12; with_reducible refine (c3 _ HB).mono ?_; rintro _ w1 ⟨rfl, hb1⟩; replace HV := later HV hb1; replace HB := later HB hb1; clear hb1; have y2 := keepsC HB y0 hb)
              | (go_at_call 8; with_reducible refine (c1 _ HB).mono ?_; rintro _ w1 ⟨rfl, hb1⟩; replace HV := later HV hb1; replace HB := later HB hb1; clear hb1; have y3 := keepsC HB y0 hb))
            go_meet
            exact ⟨rfl, HB, HV⟩
      case rest =>
        clear HB HV
        obtain ⟨rfl, HB, HV⟩ := hcut
        go_upto_if 72 with fail
        go_cut [] from 73 to 89 (fun wx => Below w.heap.size w wx)
        case first =>
          clear cM cQ c3 c4 x0 h4 h5 c1
          generalize (m1 && b1 && b4) = ok2 at *
          cases ok2
          · obtain ⟨e1, e2⟩ := HX2 rfl
            subst e1 e2
            clear HX1 HX2 cP
            go_wp2_with fail
            go_meet
            exact HB
          · obtain ⟨e1, e2, hI⟩ := HX1 rfl
            subst e1 e2
            replace cP := cP rfl
            clear HX1 HX2
            have hI1 := hI.keep HV
            go_wp2_with (first
              | (go_at_call 14; with_reducible refine (cP _ HB).mono ?_; rintro _ w1 ⟨vA, vC, rfl, hJ, hb1⟩; have hI2 := hI1.keep hb1; replace HB := later HB hb1; clear hb1)
              | (go_at_call 13; refine (rsameV_w _ _ _ _ _ Z Z hN (fun _ _ => rfl) _ hI2 hJ).mono ?_; rintro _ w2 ⟨rfl, hb2⟩; replace HB := later HB hb2))
            go_meet
            exact HB
        case rest =>
          clear HB HV HX1 HX2 cP c1 h4
          have HB := hcut
          clear hcut
          go_upto_region 14 with (go_at_call 15; with_reducible refine (cM _ HB).mono ?_; rintro _ V4 ⟨yA, yL, yC, r3, rfl, hy1, hy2, hb1⟩; replace HB := later HB hb1; clear hb1)
          have HY1 : Hid ((m1 && m2 && b5) = true → r3 = 0 ∧ yL = N ∧ ∃ RA RC, Rws V4 yA N RA (fun _ => L) RC P) := hy1
          have HY2 : Hid ((m1 && m2 && b5) = false → r3 = 1 ∧ yL = 0) := hy2
          clear hy1 hy2 cM
          have HV := Below.refl V4.heap.size V4
          go_cut [112] from 96 to 112 (fun s112 wx => s112 = .bool (!(m1 && m2 && b5)) ∧ Below w.heap.size w wx ∧ Below V4.heap.size V4 wx)
          case first =>
            clear cQ HY1 HY2
            cases m1
            · clear x0 c4 h5
              go_wp2_with (go_at_call 12; with_reducible refine (c3 _ HB).mono ?_; rintro _ w1 ⟨rfl, hb1⟩; replace HV := later HV hb1; replace HB := later HB hb1; clear hb1)
              go_meet
              exact ⟨rfl, HB, HV⟩
            · obtain ⟨hN0, b, o, hA, hb, y0⟩ := x0 rfl
              have hlt : (0 : Int) < (N : Int) := by omega
              have y1 := keepsC HB y0 hb
              clear x0
              subst hA
              cases m2
              case' true => cases b5
              all_goals
                try simp only [Bool.not_true, Bool.not_false] at h5
                go_wp2_with (first
                  | (go_at_call 12; with_reducible refine (c3 _ HB).mono ?_; rintro _ w1 ⟨rfl, hb1⟩; replace HV := later HV hb1; replace HB := later HB hb1; clear hb1; have y2 := keepsC HB y0 hb)
                  | (go_at_call 12; with_reducible refine (c4 _ HB).mono ?_; rintro _ w1 ⟨rfl, hb1⟩; replace HV := later HV hb1; replace HB := later HB hb1; clear hb1; have y3 := keepsC HB y0 hb))
                go_meet
                exact ⟨rfl, HB, HV⟩
          case rest =>
            clear HB HV
            obtain ⟨rfl, HB, HV⟩ := hcut
            clear c3 c4 x0 h5
            generalize (m1 && m2 && b5) = ok3 at *
            cases ok3
            · obtain ⟨e1, e2⟩ := HY2 rfl
              subst e1 e2
              clear HY1 HY2 cQ
              go_wp2_with fail
              go_ret
              exact ⟨rfl, HB⟩
            · obtain ⟨e1, e2, RA, RC, hI⟩ := HY1 rfl
              subst e1 e2
              replace cQ := cQ rfl
              clear HY1 HY2
              have hI1 := hI.keep HV
              go_wp2_with (first
                | (go_at_call 17; with_reducible refine (cQ _ HB).mono ?_; rintro _ w1 ⟨vA, vC, RA2, RC2, rfl, hJ, hb1⟩; have hI2 := hI1.keep hb1; replace HB := later HB hb1; clear hb1)
                | (go_at_call 16; refine (rsameA_w _ _ _ _ _ _ _ _ _ _ _ P P hN (fun _ _ => rfl) (fun _ _ _ _ => rfl) _ hI2 hJ).mono ?_; rintro _ w2 ⟨rfl, hb2⟩; replace HB := later HB hb2))
              go_ret
              exact ⟨rfl, HB⟩

theorem Ivs.congr {w : World} {A : Option Addr} {n : Nat} {X Y : Nat → Nat × Nat} (h : Ivs w A n X) (e : ∀ i, i < n → X i = Y i) : Ivs w A n Y := fun i hi => by
  rw [← e i hi]; exact h i hi

theorem image_words {w : World} {A B : Option Addr} {N k : Nat} {RA : Nat → Option Addr} {RL RC : Nat → Nat} {X : Nat → Nat → Nat × Nat} {Y : Nat → Nat × Nat} (V : Rws w A N RA RL RC X) (U : Ivs w B k Y) (hR : ∀ r, r < N → RL r = k) {r : Nat} (hr : r < N) : (dotP (X r) Y k).1 < 18446744073709551616 ∧ (dotP (X r) Y k).2 < 18446744073709551616 :=
  dotP_lt (fun _ hi => rws_words V hr (by rw [hR r hr]; exact hi)) (ivs_words U)

theorem prodI_words {w : World} {A B : Option Addr} {N M L : Nat} {RA SA : Nat → Option Addr} {RL RC SL SC : Nat → Nat} {X Y : Nat → Nat → Nat × Nat} (V : Rws w A N RA RL RC X) (U : Rws w B M SA SL SC Y) (hR : ∀ r, r < N → RL r = M) (hS : ∀ s, s < M → SL s = L) {r c : Nat} (hr : r < N) (hc : c < L) : (prodI X Y M r c).1 < 18446744073709551616 ∧ (prodI X Y M r c).2 < 18446744073709551616 :=
  dotP_lt (fun _ hi => rws_words V hr (by rw [hR r hr]; exact hi)) (fun s hs => rws_words U hs (by rw [hS s hs]; exact hc))

theorem Rowed.rws {B : Nat} {w : World} {X Y : Nat → Nat → Nat × Nat} {M L N : Nat} {v : Value} {vs : List Value} (h : Rowed B w X Y M L N vs) (k : OwnR B w v vs) (hL : L ≤ 9223372036854775807) (hw : ∀ r, r < N → ∀ c, c < L → (prodI X Y M r c).1 < 18446744073709551616 ∧ (prodI X Y M r c).2 < 18446744073709551616) :
    ∃ A C RA RC, v = .slice A N C ∧ Rws w A N RA (fun _ => L) RC (prodI X Y M) := by
  obtain ⟨f, hf⟩ := Classical.axiomOfChoice (fun r => (show ∃ p : Option Addr × Nat, r < N → vs[r]? = some (.slice p.1 L p.2) ∧ OwnI B w (.slice p.1 L p.2) (rowL X Y M r L) by
    by_cases hr : r < N
    · obtain ⟨A, C, a, b⟩ := h.2 r hr
      exact ⟨(A, C), fun _ => ⟨a, b⟩⟩
    · exact ⟨(none, 0), fun q => absurd q hr⟩))
  have k' : w.ownsRow B 23 1 v vs.length vs := k
  rcases k'.2 with ⟨rfl, hn⟩ | ⟨g, cap, cur, rfl, -⟩
  · have e : N = 0 := by rw [← h.1]; exact hn
    subst e
    exact ⟨none, 0, fun _ => none, fun _ => 0, rfl, fun r hr => absurd hr (by omega)⟩
  · rw [h.1] at k' ⊢
    have hl := (World.ownsRow.lt k' g rfl).2
    refine ⟨_, cap, fun r => (f r).1, fun r => (f r).2, rfl, fun r hr => ?_⟩
    obtain ⟨a, b⟩ := hf r hr
    obtain ⟨A', C', e, J⟩ := ownI_ivs b (fun p hp => by
      simp only [rowL, List.mem_map, List.mem_range] at hp
      obtain ⟨t, ht, rfl⟩ := hp
      exact hw r hr t ht)
    rw [rowL_len] at e J
    have e1 : (f r).1 = A' := by injection e
    refine ⟨g, 0, rfl, hl, ?_, hL, ?_⟩
    · rw [Nat.zero_add, World.ownsRow.cellAt k' r (by omega)]
      exact a
    · show Ivs w (f r).1 L (prodI X Y M r)
      rw [e1]
      exact J.congr fun i hi => rowL_at X Y M r L i hi

set_option maxHeartbeats 4000000 in
theorem linProds_of (A B E fA : Option Addr) (N C M D k F fL fC : Nat) (RA SA : Nat → Option Addr) (RL RC SL SC : Nat → Nat) (X Y : Nat → Nat → Nat × Nat) (V fX : Nat → Nat × Nat) (hN : N ≤ 9223372036854775807) (hM : M ≤ 9223372036854775807) (hk : k ≤ 9223372036854775807) (hfL : fL ≤ 9223372036854775807) (w : World)
    (UA : Rws w A N RA RL RC X) (UB : Rws w B M SA SL SC Y) (UE : Ivs w E k V) (UF : Ivs w fA fL fX)
    (cf : ∀ w2, Below w.heap.size w w2 → Calls Try.prog 7 #[.slice A N C] w2 fun e w' => e = .returned (.slice fA fL fC) ∧ w2 = w')
    (hf : 0 < N → fL = RL 0 ∧ ∃ b o, A = some ⟨b, o, none⟩ ∧ b < w.heap.size ∧ w.cell? ⟨b, o, none⟩ = some (.slice fA fL fC)) :
    Calls Try.prog 3 #[.slice A N C, .slice B M D, .slice E k F] w fun e w' => e = .returned (.bool true) ∧ Below w.heap.size w w' := by
  have ne : ∀ a b : Nat, ((a : Int) != (b : Int)) = !decide (a = b) := fun a b => by
    by_cases e : a = b
    · subst e; simp
    · have : ((a : Int) != (b : Int)) = true := by simp; omega
      rw [this, decide_eq_false e]; rfl
  have ok2 : (matB N RL X && vecB k V && decide (fL = k)) = true → 0 < N ∧ N ≤ 24 ∧ k ≤ 24 ∧ ∀ r, r < N → RL r = k := fun h => by
    obtain ⟨p1, p2, p3⟩ := all_parts h
    obtain ⟨a, b, c, -⟩ := matB_parts p1
    have v := vecB_parts p2
    have e : fL = k := of_decide_eq_true p3
    have e2 := (hf a).1
    exact ⟨a, b, v.2, fun r hr => by rw [c r hr]; omega⟩
  have ok3 : (matB N RL X && matB M SL Y && decide (fL = M)) = true → (0 < N ∧ N ≤ 24) ∧ (0 < M ∧ M ≤ 24) ∧ (∀ r, r < N → RL r = M) ∧ (∀ s, s < M → SL s = SL 0) ∧ SL 0 ≤ 24 := fun h => by
    obtain ⟨p1, p2, p3⟩ := all_parts h
    obtain ⟨a, b, c, -⟩ := matB_parts p1
    obtain ⟨a2, b2, c2, d2⟩ := matB_parts p2
    have e : fL = M := of_decide_eq_true p3
    have e2 := (hf a).1
    exact ⟨⟨a, b⟩, ⟨a2, b2⟩, fun r hr => by rw [c r hr]; omega, c2, d2⟩
  have cv := fun w2 (hb : Below w.heap.size w w2) => vecMay_w E k F V hk w2 (UE.keep hb)
  have cF := fun w2 (hb : Below w.heap.size w w2) => vecMay_w fA fL fC fX hfL w2 (UF.keep hb)
  have cma := fun w2 (hb : Below w.heap.size w w2) => matMay_w A N C RA RL RC X hN w2 (UA.keep hb)
  have cmb := fun w2 (hb : Below w.heap.size w w2) => matMay_w B M D SA SL SC Y hM w2 (UB.keep hb)
  refine linProds_core A B E fA N C M D k F fL fC (if vecB k V && vecB fL fX && decide (k = fL) then (dotP V fX k).1 else 0) (if vecB k V && vecB fL fX && decide (k = fL) then (dotP V fX k).2 else 0) (SL 0) (if vecB k V && vecB fL fX && decide (k = fL) then 0 else 1) (vecB k V) (vecB fL fX) (decide (k = fL)) (decide (fL = k)) (decide (fL = M)) (matB N RL X) (matB M SL Y) (fun r => dotP (X r) V k) (prodI X Y M) hN w
    cf (fun w2 hb => ?_) rfl (fun w2 hb => rvec_w E k F V hk w2 (UE.keep hb)) (fun w2 hb => rvec_w fA fL fC fX hfL w2 (UF.keep hb)) (ne k fL) (fun h w2 hb => ?_) (fun h w2 => ?_) (fun w2 hb => rmat_w A N C RA RL RC X hN w2 (UA.keep hb)) (fun h => ?_) (ne fL k) (ne fL M) (fun w2 hb => ?_) (fun h w2 hb => ?_) (fun w2 hb => rmat_w B M D SA SL SC Y hM w2 (UB.keep hb)) (fun w2 hb => ?_) (fun h w2 hb => ?_)
  · exact Dot_core E fA k fL F fC _ _ (vecB k V) (vecB fL fX) (decide (k = fL)) w2 (fun w3 hb3 => cv w3 (later hb hb3)) (fun w3 hb3 => cF w3 (later hb hb3)) (ne k fL) (fun h w3 hb3 => by
      have e : k = fL := of_decide_eq_true (all_parts h).2.2
      exact dot_w E fA k fL F fC V fX hk hfL (by omega) w3 (UE.keep (later hb hb3)) (UF.keep (later hb hb3))) _ _ _ rfl rfl rfl
  · have e : k = fL := of_decide_eq_true (all_parts h).2.2
    rw [if_pos h, if_pos h]
    exact rdot_w E fA k fL F fC V fX hk hfL (by omega) w2 (UE.keep hb) (UF.keep hb)
  · have e : k = fL := of_decide_eq_true (all_parts h).2.2
    have q := dotP_lt (n := k) (ivs_words UE) (fun i hi => ivs_words UF i (by omega))
    rw [if_pos h, if_pos h]
    exact rsame_self _ _ q.1 q.2 w2
  · obtain ⟨a, -⟩ := matB_parts h
    exact ⟨a, (hf a).2⟩
  · cases h : matB N RL X && vecB k V && decide (fL = k)
    · have q := apply_bad A E N C k F RA RL RC X (matB N RL X) (vecB k V) (decide (RL 0 = k)) w2 (UA.keep hb) (fun h => (matB_parts h).1) (ne (RL 0) k) (by
        cases h1 : matB N RL X
        · rfl
        · have e := (hf (matB_parts h1).1).1
          rw [h1, e] at h
          exact h) (fun w3 hb3 => cma w3 (later hb hb3)) (fun w3 hb3 => cv w3 (later hb hb3))
      exact q.mono fun e w' ⟨he, hw⟩ => ⟨none, 0, 0, 1, he, fun c => by simp at c, fun _ => ⟨rfl, rfl⟩, hw⟩
    · obtain ⟨n0, n24, k24, hR⟩ := ok2 h
      obtain ⟨p1, p2, -⟩ := all_parts h
      have q := apply_good A E N C k F RA RL RC X V n24 n0 k24 hR w2 (UA.keep hb) (UE.keep hb) (fun w3 hb3 => by rw [← p1]; exact cma w3 (later hb hb3)) (fun w3 hb3 => by rw [← p2]; exact cv w3 (later hb hb3))
      exact q.mono fun e w' ⟨g, he, hI, hw⟩ => ⟨_, _, _, 0, he, fun _ => ⟨rfl, rfl, hI.ivs fun i hi => image_words UA UE hR hi⟩, fun c => by simp at c, hw⟩
  · obtain ⟨n0, n24, k24, hR⟩ := ok2 h
    have q := rapply_w A E N C k F RA RL RC X V n24 k24 hR w2 (UA.keep hb) (UE.keep hb)
    refine q.mono fun e w' ⟨v, he, hI, hw⟩ => ?_
    obtain ⟨A', C', e1, J⟩ := ownI_ivs hI (fun p hp => by
      simp only [imageP, List.mem_map, List.mem_range] at hp
      obtain ⟨t, ht, rfl⟩ := hp
      exact image_words UA UE hR ht)
    rw [imageP_len] at e1 J
    exact ⟨A', C', by rw [he, e1], J.congr fun i hi => by simp [imageP, List.getD, hi], hw⟩
  · cases h : matB N RL X && matB M SL Y && decide (fL = M)
    · have q := Mul_bad A B N C M D RA RL RC X (matB N RL X) (matB M SL Y) (decide (RL 0 = M)) w2 (UA.keep hb) (fun h => (matB_parts h).1) (ne (RL 0) M) (by
        cases h1 : matB N RL X
        · rfl
        · have e := (hf (matB_parts h1).1).1
          rw [h1, e] at h
          exact h) (fun w3 hb3 => cma w3 (later hb hb3)) (fun w3 hb3 => cmb w3 (later hb hb3))
      exact q.mono fun e w' ⟨he, hw⟩ => ⟨none, 0, 0, 1, he, fun c => by simp at c, fun _ => ⟨rfl, rfl⟩, hw⟩
    · obtain ⟨⟨n0, n24⟩, ⟨m0, m24⟩, hR, hS, l24⟩ := ok3 h
      obtain ⟨p1, p2, -⟩ := all_parts h
      have q := Mul_good A B N M (SL 0) C D RA SA RL RC SL SC X Y n24 n0 m24 m0 l24 hR hS w2 (UA.keep hb) (UB.keep hb) (fun w3 hb3 => by rw [← p1]; exact cma w3 (later hb hb3)) (fun w3 hb3 => by rw [← p2]; exact cmb w3 (later hb hb3))
      exact q.mono fun e w' ⟨g, h, he, G, hw⟩ => ⟨_, _, _, 0, he, fun _ => ⟨rfl, rfl, _, _, G.rws (by omega) fun r hr c hc => prodI_words UA UB hR hS hr hc⟩, fun c => by simp at c, hw⟩
  · obtain ⟨⟨n0, n24⟩, ⟨m0, m24⟩, hR, hS, l24⟩ := ok3 h
    have q := rMulM_w A B N M (SL 0) C D RA SA RL RC SL SC X Y n24 m24 m0 l24 hR hS w2 (UA.keep hb) (UB.keep hb)
    refine q.mono fun e w' ⟨v, vs, he, hO, hRo, hw⟩ => ?_
    obtain ⟨A', C', RA', RC', e1, J⟩ := hRo.rws hO (by omega) fun r hr c hc => prodI_words UA UB hR hS hr hc
    exact ⟨A', C', RA', RC', by rw [he, e1], J, hw⟩

end Go.Proofs.Ytddkojmdhckleaa
