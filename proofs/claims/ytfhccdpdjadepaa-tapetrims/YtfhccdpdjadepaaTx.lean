/- TapeTrims: the law's walk. -/
import Derived.Test.YtfhccdpdjadepaaTw
namespace Go.Proofs.Ytfhccdpdjadepaa
open Go.ChangeShapes Go.WideShapes Go.ChangeAt Go.RowKit

/-- Whole numbers that a call made, as they lie in memory. -/
theorem own_ins {B : Nat} {w : World} {v : Value} {zs : List Int} (h : OwnN B w v zs) : ∃ A C, v = .slice A zs.length C ∧ Ins w A zs.length (fun j => zs.getD j 0) := by
  have h' : w.ownsRow B 3 1 v zs.length (zs.map fun z => Value.int .i64 z) := h
  rcases h'.2 with ⟨rfl, hn⟩ | ⟨g, cap, cur, rfl, -⟩
  · rw [hn]
    exact ⟨none, 0, rfl, fun i hi => by omega⟩
  · have hl := (World.ownsRow.lt h' g rfl).2
    refine ⟨_, cap, rfl, fun i hi => ⟨g, 0, rfl, hl, ?_⟩⟩
    rw [Nat.zero_add, World.ownsRow.cellAt h' _ (by omega)]
    simp [List.getD, List.getElem?_eq_getElem hi]

set_option maxHeartbeats 4000000 in
theorem tapeTrims_bad (v : Int) (A : Option Addr) (n C : Nat) (D : Option Addr) (m E : Nat) (hn : n ≤ 300) (w : World)
    (cT : ∀ w2, Below w.heap.size w w2 → Calls Try.prog 7 #[tapeV v A n C D m E] w2 fun e w' => e = .returned (.tuple #[.agg #[.int .i64 0, .slice none 0 0, .slice none 0 0], .int .i64 50]) ∧ Below w2.heap.size w2 w')
    (cR : ∀ w2, Below w.heap.size w w2 → Calls Try.prog 6 #[tapeV v A n C D m E] w2 fun e w' => e = .returned (.bool false) ∧ Below w2.heap.size w2 w') :
    Calls Try.prog 4 #[tapeV v A n C D m E] w fun e w' => e = .returned (.bool true) ∧ Below w.heap.size w w' := by
  have cL : ∀ w, Calls Try.prog 8 #[.agg #[.int .i64 0, .slice none 0 0, .slice none 0 0], .agg #[.int .i64 0, .slice none 0 0, .slice none 0 0]] w fun e w' => e = .returned (.bool true) ∧ Below w.heap.size w w' := fun w =>
    like_w 0 none none 0 0 0 none none 0 0 0 (fun _ => zeroO) (fun _ => 0) (by omega) (by omega) w (fun i hi => absurd hi (by omega)) (fun i hi => absurd hi (by omega)) (fun i hi => absurd hi (by omega)) (fun i hi => absurd hi (by omega))
  have t := tap3_new w (.int .i64 v) (.slice A n C) (.slice D m E) 25
  have HB : Below w.heap.size w (w.alloc (.cells #[.int .i64 v, .slice A n C, .slice D m E] 25)) := by go_grown
  have hle : ¬ (n : Int) > 300 := by omega
  unfold tapeV at *
  go_enter Try.func4, Try.ntmps4
  go_wp2_with (first
    | (go_at_call 7; with_reducible refine (cT _ HB).mono ?_; rintro _ w1 ⟨rfl, hb1⟩
       replace t := t.keep hb1
       replace HB := later HB hb1
       clear hb1 cT
       obtain ⟨t0, t1, t2, -, -, -, tl⟩ := id t)
    | (go_at_call 6; with_reducible refine (cR _ (below_alloc HB _)).mono ?_; rintro _ w2 ⟨rfl, hb2⟩
       have sb := (tap3_new w1 (.int .i64 0) (.slice none 0 0) (.slice none 0 0) 25).keep hb2
       replace HB := later (below_alloc HB _) hb2
       clear hb2 cR
       obtain ⟨y0, y1, y2, -, -, -, yl⟩ := id sb)
    | (go_at_call 8; with_reducible refine (cL _).mono ?_; rintro _ w3 ⟨rfl, hb3⟩))
  go_ret
  exact ⟨rfl, later HB hb3⟩

theorem tapeTrims_big (v : Int) (A : Option Addr) (n C : Nat) (D : Option Addr) (m E : Nat) (hn : ¬ n ≤ 300) (w : World) :
    Calls Try.prog 4 #[tapeV v A n C D m E] w fun e w' => e = .returned (.bool true) ∧ Below w.heap.size w w' := by
  have hle : (n : Int) > 300 := by omega
  unfold tapeV
  go_enter Try.func4, Try.ntmps4
  go_wp2_with fail
  go_ret
  exact ⟨rfl, by go_grown⟩

set_option maxHeartbeats 4000000 in
theorem tapeTrims_good (v : Int) (A : Option Addr) (n C : Nat) (D : Option Addr) (m E : Nat) (T : List Opw) (zs : List Int) (hT : T.length ≤ 4000) (hz : zs.length ≤ 4000) (hk : ∀ t ∈ T, t.ok) (hn : n ≤ 300) (w : World)
    (cT : ∀ w2, Below w.heap.size w w2 → Calls Try.prog 7 #[tapeV v A n C D m E] w2 fun e w' => (∃ S0 S1 vO vN, e = .returned (.tuple #[.agg #[.int .i64 v, vO, vN], .int .i64 0]) ∧ OwnO S0 w' vO T ∧ OwnN S1 w' vN zs) ∧ Below w2.heap.size w2 w')
    (cR : ∀ w2, Below w.heap.size w w2 → Calls Try.prog 6 #[tapeV v A n C D m E] w2 fun e w' => e = .returned (.bool true) ∧ Below w2.heap.size w2 w')
    (cU : ∀ w2, Below w.heap.size w w2 → Calls Try.prog 9 #[tapeV v A n C D m E] w2 fun e w' => (∃ S0 S1 vO vN, e = .returned (.agg #[.int .i64 v, vO, vN]) ∧ OwnO S0 w' vO T ∧ OwnN S1 w' vN zs) ∧ Below w2.heap.size w2 w') :
    Calls Try.prog 4 #[tapeV v A n C D m E] w fun e w' => e = .returned (.bool true) ∧ Below w.heap.size w w' := by
  have t := tap3_new w (.int .i64 v) (.slice A n C) (.slice D m E) 25
  have HB : Below w.heap.size w (w.alloc (.cells #[.int .i64 v, .slice A n C, .slice D m E] 25)) := by go_grown
  have hle : ¬ (n : Int) > 300 := by omega
  have HKt : Hid (∀ t ∈ T, t.ok) := hk
  clear hk
  unfold tapeV at *
  go_enter Try.func4, Try.ntmps4
  go_wp2_with (first
    | (go_at_call 7; with_reducible refine (cT _ HB).mono ?_; rintro _ w1 ⟨⟨S0, S1, vO, vN, rfl, hO, hN⟩, hb1⟩
       replace t := t.keep hb1
       replace HB := later HB hb1
       clear hb1 cT
       obtain ⟨OA, OC, hvO, VO⟩ := own_ops hO HKt
       obtain ⟨NA, NC, hvN, VN⟩ := own_ins hN
       subst hvO hvN
       clear hO hN
       obtain ⟨t0, t1, t2, -, -, -, tl⟩ := id t)
    | (go_at_call 6; with_reducible refine (cR _ (below_alloc HB _)).mono ?_; rintro _ w2 ⟨rfl, hb2⟩
       have sb := (tap3_new w1 (.int .i64 v) (.slice OA T.length OC) (.slice NA zs.length NC) 25).keep hb2
       replace t := (t.alloc _).keep hb2
       replace VO := (VO.keep (below_alloc (Below.refl _ _) _)).keep hb2
       replace VN := (VN.keep (below_alloc (Below.refl _ _) _)).keep hb2
       replace HB := later (below_alloc HB _) hb2
       clear hb2 cR t0 t1 t2 tl
       obtain ⟨t0, t1, t2, -, -, -, tl⟩ := id t
       obtain ⟨y0, y1, y2, -, -, -, yl⟩ := id sb))
  go_region_held3 (fun w' => w'.cell? ⟨w1.heap.size, 0, none⟩ = some (.int .i64 v) ∧ w'.cell? ⟨w1.heap.size, 1, none⟩ = some (.slice OA T.length OC) ∧ w'.cell? ⟨w1.heap.size, 2, none⟩ = some (.slice NA zs.length NC) ∧ w'.cell? ⟨w.heap.size, 0, none⟩ = some (.int .i64 v) ∧ w'.cell? ⟨w.heap.size, 1, none⟩ = some (.slice A n C) ∧ w'.cell? ⟨w.heap.size, 2, none⟩ = some (.slice D m E)) (first | go_keep | exact ⟨by assumption, by assumption, by assumption, by assumption, by assumption, by assumption⟩)
    (first
      | (go_at_call 9; with_reducible refine (cU _ HB.drew).mono ?_; rintro _ w3 ⟨⟨S2, S3, vO2, vN2, rfl, hO, hN⟩, hb3⟩
         replace hb3 := later (Below.drew (Below.refl w2.heap.size w2)) hb3
         replace VO := VO.keep hb3
         replace VN := VN.keep hb3
         replace HB := later HB hb3
         replace t := t.keep hb3
         replace sb := sb.keep hb3
         obtain ⟨OA2, OC2, hvO, UO⟩ := own_ops hO HKt
         obtain ⟨NA2, NC2, hvN, UN⟩ := own_ins hN
         subst hvO hvN
         clear hO hN hb3
         obtain ⟨t0', t1', t2', -, -, -, tl'⟩ := id t
         obtain ⟨y0', y1', y2', -, -, -, yl'⟩ := id sb)
      | (go_at_call 8; have cl := like_w v OA OA2 T.length OC OC2 NA NA2 zs.length NC NC2 _ _ (by omega) (by omega) w3 VO UO VN UN; unfold tapeV at cl; with_reducible refine cl.mono ?_; rintro _ w4 ⟨rfl, hb4⟩
         obtain ⟨t0'', t1'', t2'', -, -, -, tl''⟩ := t.keep hb4
         obtain ⟨y0'', y1'', y2'', -, -, -, yl''⟩ := sb.keep hb4))
  all_goals
    go_wp2_with fail
    go_ret
    exact ⟨rfl, later HB hb4⟩

/-- What a tape that may be says of its parts. -/
theorem right_parts {v : Int} {n : Nat} {X : Nat → Opw} {m : Nat} {Y : Nat → Int} (h : rightT v n X m Y = true) : n ≤ 4000 ∧ m ≤ 400 ∧ (∀ k, k < m → 0 ≤ Y k ∧ Y k < (n : Int)) ∧ (∀ i, i < n → ∀ j, j < (X i).ar → 0 ≤ (X i).at j ∧ (X i).at j < (i : Int)) ∧ (∀ i, i < n → rarI (X i).k = arI (X i).k) ∧ (∀ i, i < n → (X i).k = 1 → hsB (X i).lo (X i).hi = true) := by
  unfold rightT at h
  simp only [Bool.and_eq_true] at h
  obtain ⟨⟨h1, h2⟩, h3⟩ := h
  have s := of_decide_eq_true h1
  have o := all_upto2.1 h2
  have u := all_upto2.1 h3
  refine ⟨s.2.2.1, s.2.2.2, fun k hk => of_decide_eq_true (u k hk), fun i hi j hj => opB_at (o i hi) hj, fun i hi => ?_, fun i hi hk => ?_⟩
  · have q := o i hi
    unfold opB at q
    simp only [Bool.and_eq_true] at q
    unfold rarI
    rw [if_pos (of_decide_eq_true q.1.1)]
  · have q := o i hi
    unfold opB at q
    simp only [Bool.and_eq_true] at q
    have r := q.2
    unfold restB at r
    rw [if_pos hk] at r
    exact r

theorem tapeTrims_all (v : Int) (A : Option Addr) (n C : Nat) (D : Option Addr) (m E : Nat) (X : Nat → Opw) (Y : Nat → Int) (hn : n ≤ 9223372036854775807) (hm : m ≤ 9223372036854775807) (w : World) (VX : Ops w A n X) (VY : Ins w D m Y) :
    Calls Try.prog 4 #[tapeV v A n C D m E] w fun e w' => e = .returned (.bool true) ∧ Below w.heap.size w w' := by
  by_cases h3 : n ≤ 300
  · cases hr : rightT v n X m Y
    · refine tapeTrims_bad v A n C D m E h3 w (fun w2 q => trim_bad v A n C D m E w2 fun w3 q3 => ?_) (fun w2 q => ?_)
      · have := right_t v A n C D m E X Y hn hm w3 (VX.keep (later q q3)) (VY.keep (later q q3))
        rw [hr] at this
        exact this
      · have := rright_t v A n C D m E X Y w2 (VX.keep q) (VY.keep q)
        rw [hr] at this
        exact this
    · obtain ⟨p1, p2, p3, p4, p5, p6⟩ := right_parts hr
      have p4' : ∀ i, i < n → ∀ j, j < (X i).ar → 0 ≤ (X i).at j ∧ (X i).at j < (n : Int) := fun i hi j hj => by have := p4 i hi j hj; omega
      have ok : ∀ i, i < n → (X i).ok := fun i hi => by obtain ⟨-, -, -, -, -, -, -, -, -, -, l0, l1⟩ := VX i hi; exact ⟨l0, l1⟩
      have F := trim_facts (nd := needF X n Y m) ok n (Nat.le_refl _)
      refine tapeTrims_good v A n C D m E (trimS X (needF X n Y m) n).1 (outL (trimS X (needF X n Y m) n).2 Y m) (by omega) (by rw [outL_len]; omega) F.1 h3 w (fun w2 q => ?_) (fun w2 q => ?_) (fun w2 q => ?_)
      · refine trim_good v A n C D m E X Y p1 p2 (needF X n Y m) p3 p4' ok w2 (VX.keep q) (VY.keep q) (fun w3 q3 => ?_) (fun w3 q3 => need_w v A n C D m E X Y p1 p2 p3 p4' w3 (VX.keep (later q q3)) (VY.keep (later q q3)))
        have := right_t v A n C D m E X Y hn hm w3 (VX.keep (later q q3)) (VY.keep (later q q3))
        rw [hr] at this
        exact this
      · have := rright_t v A n C D m E X Y w2 (VX.keep q) (VY.keep q)
        rw [hr] at this
        exact this
      · exact rtrim_good v A n C D m E X Y p1 p2 (needF X n Y m) p3 p4' ok p5 p6 w2 (VX.keep q) (VY.keep q) (fun w3 q3 => rneed_w v A n C D m E X Y p1 p2 p3 p4 p5 w3 (VX.keep (later q q3)) (VY.keep (later q q3)))
  · exact tapeTrims_big v A n C D m E h3 w

end Go.Proofs.Ytfhccdpdjadepaa
