/- The wave of an interval: Sin, Cos. -/
import Derived.Test.YtnchhfhoaepjnaaGreatEk
namespace Go.Proofs.YtnchhfhoaepjnaaGreat
open Go.ChangeShapes Go.WideShapes Go.ChangeAt Go.RowKit

set_option maxHeartbeats 1000000 in
theorem wave_empty (x c g : Nat × Nat) (a : Int) (c1 : ∀ w, Calls Tryz.prog 132 #[.agg #[.float .f64 x.1, .float .f64 x.2]] w fun e w' => e = .returned (.agg #[.float .f64 c.1, .float .f64 c.2]) ∧ Below w.heap.size w w') (c2 : ∀ w, Calls Tryz.prog 82 #[.float .f64 13830554455654793216, .float .f64 4607182418800017408] w fun e w' => e = .returned (.agg #[.float .f64 g.1, .float .f64 g.2]) ∧ Below w.heap.size w w') (o1 : (FloatKind.f64.format.order c.1 (infI 1) == some .eq) = true) (o2 : (FloatKind.f64.format.order c.2 (infI (-1)) == some .eq) = true) (w : World) : Calls Tryz.prog 85 #[.agg #[.float .f64 x.1, .float .f64 x.2], .int .i64 a] w fun e w' => e = .returned (.agg #[.float .f64 c.1, .float .f64 c.2]) ∧ Below w.heap.size w w' := by
  obtain ⟨X, R, HB⟩ := enter1 w (.float .f64 x.1) (.float .f64 x.2) 46
  go_enter Tryz.func85, Tryz.ntmps85
  go_upto_region 1 with fail
  generalize (w.alloc (.cells #[.float .f64 x.1, .float .f64 x.2] 46)).alloc (.cells #[.float .f64 0, .float .f64 0] 46) = V1 at *
  obtain ⟨x0, x1, x2, x3, x4⟩ := id X
  go_upto_region 2 with (go_at_call 132; refine (c1 _).mono ?_; rintro _ V2 ⟨rfl, hb1⟩; replace X := X.keep hb1; replace R := R.keep hb1; replace HB := later HB hb1; clear hb1; clear x0 x1 x2 x3 x4; obtain ⟨x0, x1, x2, x3, x4⟩ := id X)
  clear x0 x1 x2 x3 x4
  replace X := X.put (.float .f64 c.1) (.float .f64 c.2)
  replace R := R.far2 (c := w.heap.size) (by omega) (.float .f64 c.1) (.float .f64 c.2)
  replace HB : Below w.heap.size w ((V2.setCell ⟨w.heap.size, 0, none⟩ (.float .f64 c.1)).setCell ⟨w.heap.size, 1, none⟩ (.float .f64 c.2)) := (HB.setCell (by simp) _).setCell (by simp) _
  generalize (V2.setCell ⟨w.heap.size, 0, none⟩ (.float .f64 c.1)).setCell ⟨w.heap.size, 1, none⟩ (.float .f64 c.2) = V3 at *
  go_upto_region 3 with (go_at_call 82; with_reducible refine (c2 _).mono ?_; rintro _ VV ⟨rfl, hb1⟩; replace X := X.keep hb1; replace R := R.keep hb1; replace HB := later HB hb1; clear hb1)
  have D : Has2 (VV.alloc (.cells #[.float .f64 g.1, .float .f64 g.2] 46)) VV.heap.size (.float .f64 g.1) (.float .f64 g.2) := has2_new _ _ _ _
  have hb1 : Below VV.heap.size VV (VV.alloc (.cells #[.float .f64 g.1, .float .f64 g.2] 46)) := by go_grown
  replace X := X.keep hb1; replace R := R.keep hb1; replace HB := later HB hb1; clear hb1
  generalize VV.alloc (.cells #[.float .f64 g.1, .float .f64 g.2] 46) = V4 at *
  generalize VV.heap.size = d at *
  have kX0 := fun n : Behind V4 => n.cell X.1 X.2.2.2.2; have kX1 := fun n : Behind V4 => n.cell X.2.1 X.2.2.2.2
  refine region_behind (by kernel_rfl) (by kernel_rfl) ?_
  repeat (go_big_quiet_step (first | (go_at_call 68; with_reducible refine Behind.call (empty_w _))))
  refine wpQuiet_nil ?_
  rintro _ ⟨m', rfl⟩
  obtain ⟨V5, hb1⟩ := m'
  dsimp only
  clear kX0 kX1 c1 c2
  replace X := X.keep hb1; replace R := R.keep hb1; replace D := D.keep hb1; replace HB := later HB hb1; clear hb1
  obtain ⟨x0, x1, x2, x3, x4⟩ := id X
  obtain ⟨k0, k1, k2, k3, k4⟩ := id R
  go_wp2_with fail
  refine bodyPost_ret (v := .agg #[.float .f64 c.1, .float .f64 c.2]) (by simp [results, Tryz.results85, go_sem, *]) rfl ⟨rfl, ?_⟩; repeat' (first | (with_reducible exact HB) | (with_reducible refine Below.setCell ?_ ?_ _) | go_size)

set_option maxHeartbeats 1000000 in
theorem wave_far (x c g : Nat × Nat) (a : Int) (m : Nat) (c1 : ∀ w, Calls Tryz.prog 132 #[.agg #[.float .f64 x.1, .float .f64 x.2]] w fun e w' => e = .returned (.agg #[.float .f64 c.1, .float .f64 c.2]) ∧ Below w.heap.size w w') (c2 : ∀ w, Calls Tryz.prog 82 #[.float .f64 13830554455654793216, .float .f64 4607182418800017408] w fun e w' => e = .returned (.agg #[.float .f64 g.1, .float .f64 g.2]) ∧ Below w.heap.size w w') (o1 : (FloatKind.f64.format.order c.1 (infI 1) == some .eq) = false) (c3 : ∀ w, Calls Tryz.prog 127 #[.agg #[.float .f64 c.1, .float .f64 c.2]] w fun e w' => e = .returned (.float .f64 m) ∧ Below w.heap.size w w') (o2 : (FloatKind.f64.format.order m 4697254411347427328 == some .gt) = true) (w : World) : Calls Tryz.prog 85 #[.agg #[.float .f64 x.1, .float .f64 x.2], .int .i64 a] w fun e w' => e = .returned (.agg #[.float .f64 g.1, .float .f64 g.2]) ∧ Below w.heap.size w w' := by
  obtain ⟨X, R, HB⟩ := enter1 w (.float .f64 x.1) (.float .f64 x.2) 46
  go_enter Tryz.func85, Tryz.ntmps85
  go_upto_region 1 with fail
  generalize (w.alloc (.cells #[.float .f64 x.1, .float .f64 x.2] 46)).alloc (.cells #[.float .f64 0, .float .f64 0] 46) = V1 at *
  obtain ⟨x0, x1, x2, x3, x4⟩ := id X
  go_upto_region 2 with (go_at_call 132; refine (c1 _).mono ?_; rintro _ V2 ⟨rfl, hb1⟩; replace X := X.keep hb1; replace R := R.keep hb1; replace HB := later HB hb1; clear hb1; clear x0 x1 x2 x3 x4; obtain ⟨x0, x1, x2, x3, x4⟩ := id X)
  clear x0 x1 x2 x3 x4
  replace X := X.put (.float .f64 c.1) (.float .f64 c.2)
  replace R := R.far2 (c := w.heap.size) (by omega) (.float .f64 c.1) (.float .f64 c.2)
  replace HB : Below w.heap.size w ((V2.setCell ⟨w.heap.size, 0, none⟩ (.float .f64 c.1)).setCell ⟨w.heap.size, 1, none⟩ (.float .f64 c.2)) := (HB.setCell (by simp) _).setCell (by simp) _
  generalize (V2.setCell ⟨w.heap.size, 0, none⟩ (.float .f64 c.1)).setCell ⟨w.heap.size, 1, none⟩ (.float .f64 c.2) = V3 at *
  go_upto_region 3 with (go_at_call 82; with_reducible refine (c2 _).mono ?_; rintro _ VV ⟨rfl, hb1⟩; replace X := X.keep hb1; replace R := R.keep hb1; replace HB := later HB hb1; clear hb1)
  have D : Has2 (VV.alloc (.cells #[.float .f64 g.1, .float .f64 g.2] 46)) VV.heap.size (.float .f64 g.1) (.float .f64 g.2) := has2_new _ _ _ _
  have hb1 : Below VV.heap.size VV (VV.alloc (.cells #[.float .f64 g.1, .float .f64 g.2] 46)) := by go_grown
  replace X := X.keep hb1; replace R := R.keep hb1; replace HB := later HB hb1; clear hb1
  generalize VV.alloc (.cells #[.float .f64 g.1, .float .f64 g.2] 46) = V4 at *
  generalize VV.heap.size = d at *
  have kX0 := fun n : Behind V4 => n.cell X.1 X.2.2.2.2; have kX1 := fun n : Behind V4 => n.cell X.2.1 X.2.2.2.2
  refine region_behind (by kernel_rfl) (by kernel_rfl) ?_
  repeat (go_big_quiet_step (first | (go_at_call 68; with_reducible refine Behind.call (empty_w _))))
  refine wpQuiet_nil ?_
  rintro _ ⟨m', rfl⟩
  obtain ⟨V5, hb1⟩ := m'
  dsimp only
  clear kX0 kX1 c1 c2
  replace X := X.keep hb1; replace R := R.keep hb1; replace D := D.keep hb1; replace HB := later HB hb1; clear hb1
  obtain ⟨x0, x1, x2, x3, x4⟩ := id X
  go_wp2_with (go_at_call 127; refine (c3 _).mono ?_; rintro _ V6 ⟨rfl, hb1⟩; replace R := R.keep hb1; replace D := D.keep hb1; replace HB := later HB hb1; clear hb1; obtain ⟨k0, k1, k2, k3, k4⟩ := id R; obtain ⟨e0, e1, e2, e3, e4⟩ := id D)
  refine bodyPost_ret (v := .agg #[.float .f64 g.1, .float .f64 g.2]) (by simp [results, Tryz.results85, go_sem, *]) rfl ⟨rfl, ?_⟩; repeat' (first | (with_reducible exact HB) | (with_reducible refine Below.setCell ?_ ?_ _) | go_size)

set_option maxHeartbeats 4000000 in
theorem wave_near (x c g p q y o n y1 y2 r : Nat × Nat) (a : Int) (ha : 0 ≤ a ∧ a ≤ 3) (m : Nat) (b1 b2 : Bool) (c1 : ∀ w, Calls Tryz.prog 132 #[.agg #[.float .f64 x.1, .float .f64 x.2]] w fun e w' => e = .returned (.agg #[.float .f64 c.1, .float .f64 c.2]) ∧ Below w.heap.size w w') (c2 : ∀ w, Calls Tryz.prog 82 #[.float .f64 13830554455654793216, .float .f64 4607182418800017408] w fun e w' => e = .returned (.agg #[.float .f64 g.1, .float .f64 g.2]) ∧ Below w.heap.size w w') (o1 : (FloatKind.f64.format.order c.1 (infI 1) == some .eq) = false) (c3 : ∀ w, Calls Tryz.prog 127 #[.agg #[.float .f64 c.1, .float .f64 c.2]] w fun e w' => e = .returned (.float .f64 m) ∧ Below w.heap.size w w') (o2 : (FloatKind.f64.format.order m 4697254411347427328 == some .gt) = false)
    (c4 : ∀ w, Calls Tryz.prog 144 #[.float .f64 c.1, .int .i64 a] w fun e w' => e = .returned (.agg #[.float .f64 p.1, .float .f64 p.2]) ∧ Below w.heap.size w w') (c5 : ∀ w, Calls Tryz.prog 144 #[.float .f64 c.2, .int .i64 a] w fun e w' => e = .returned (.agg #[.float .f64 q.1, .float .f64 q.2]) ∧ Below w.heap.size w w') (c6 : ∀ w, Calls Tryz.prog 143 #[.agg #[.float .f64 p.1, .float .f64 p.2], .agg #[.float .f64 q.1, .float .f64 q.2]] w fun e w' => e = .returned (.agg #[.float .f64 y.1, .float .f64 y.2]) ∧ Below w.heap.size w w') (c7 : ∀ w, Calls Tryz.prog 145 #[.agg #[.float .f64 c.1, .float .f64 c.2], .int .i64 (1 - a)] w fun e w' => e = .returned (.bool b1) ∧ Below w.heap.size w w') (c8 : ∀ w, Calls Tryz.prog 145 #[.agg #[.float .f64 c.1, .float .f64 c.2], .int .i64 (3 - a)] w fun e w' => e = .returned (.bool b2) ∧ Below w.heap.size w w') (c9 : ∀ w, Calls Tryz.prog 114 #[.float .f64 4607182418800017408] w fun e w' => e = .returned (.agg #[.float .f64 o.1, .float .f64 o.2]) ∧ Below w.heap.size w w') (c10 : ∀ w, Calls Tryz.prog 114 #[.float .f64 13830554455654793216] w fun e w' => e = .returned (.agg #[.float .f64 n.1, .float .f64 n.2]) ∧ Below w.heap.size w w')
    (e1 : b1 = false → y1 = y) (e2 : b2 = false → y2 = y1) (c11 : b1 = true → ∀ w, Calls Tryz.prog 143 #[.agg #[.float .f64 y.1, .float .f64 y.2], .agg #[.float .f64 o.1, .float .f64 o.2]] w fun e w' => e = .returned (.agg #[.float .f64 y1.1, .float .f64 y1.2]) ∧ Below w.heap.size w w') (c12 : b2 = true → ∀ w, Calls Tryz.prog 143 #[.agg #[.float .f64 y1.1, .float .f64 y1.2], .agg #[.float .f64 n.1, .float .f64 n.2]] w fun e w' => e = .returned (.agg #[.float .f64 y2.1, .float .f64 y2.2]) ∧ Below w.heap.size w w') (c13 : ∀ w, Calls Tryz.prog 81 #[.agg #[.float .f64 y2.1, .float .f64 y2.2], .agg #[.float .f64 g.1, .float .f64 g.2]] w fun e w' => e = .returned (.agg #[.float .f64 r.1, .float .f64 r.2]) ∧ Below w.heap.size w w') (w : World) : Calls Tryz.prog 85 #[.agg #[.float .f64 x.1, .float .f64 x.2], .int .i64 a] w fun e w' => e = .returned (.agg #[.float .f64 r.1, .float .f64 r.2]) ∧ Below w.heap.size w w' := by
  obtain ⟨X, R, HB⟩ := enter1 w (.float .f64 x.1) (.float .f64 x.2) 46
  go_enter Tryz.func85, Tryz.ntmps85
  go_upto_region 1 with fail
  generalize (w.alloc (.cells #[.float .f64 x.1, .float .f64 x.2] 46)).alloc (.cells #[.float .f64 0, .float .f64 0] 46) = V1 at *
  obtain ⟨x0, x1, x2, x3, x4⟩ := id X
  go_upto_region 2 with (go_at_call 132; refine (c1 _).mono ?_; rintro _ V2 ⟨rfl, hb1⟩; replace X := X.keep hb1; replace R := R.keep hb1; replace HB := later HB hb1; clear hb1; clear x0 x1 x2 x3 x4; obtain ⟨x0, x1, x2, x3, x4⟩ := id X)
  clear x0 x1 x2 x3 x4
  replace X := X.put (.float .f64 c.1) (.float .f64 c.2)
  replace R := R.far2 (c := w.heap.size) (by omega) (.float .f64 c.1) (.float .f64 c.2)
  replace HB : Below w.heap.size w ((V2.setCell ⟨w.heap.size, 0, none⟩ (.float .f64 c.1)).setCell ⟨w.heap.size, 1, none⟩ (.float .f64 c.2)) := (HB.setCell (by simp) _).setCell (by simp) _
  generalize (V2.setCell ⟨w.heap.size, 0, none⟩ (.float .f64 c.1)).setCell ⟨w.heap.size, 1, none⟩ (.float .f64 c.2) = V3 at *
  go_upto_region 3 with (go_at_call 82; with_reducible refine (c2 _).mono ?_; rintro _ VV ⟨rfl, hb1⟩; replace X := X.keep hb1; replace R := R.keep hb1; replace HB := later HB hb1; clear hb1)
  have D : Has2 (VV.alloc (.cells #[.float .f64 g.1, .float .f64 g.2] 46)) VV.heap.size (.float .f64 g.1) (.float .f64 g.2) := has2_new _ _ _ _
  have hb1 : Below VV.heap.size VV (VV.alloc (.cells #[.float .f64 g.1, .float .f64 g.2] 46)) := by go_grown
  replace X := X.keep hb1; replace R := R.keep hb1; replace HB := later HB hb1; clear hb1
  generalize VV.alloc (.cells #[.float .f64 g.1, .float .f64 g.2] 46) = V4 at *
  generalize VV.heap.size = d at *
  have kX0 := fun n : Behind V4 => n.cell X.1 X.2.2.2.2; have kX1 := fun n : Behind V4 => n.cell X.2.1 X.2.2.2.2
  refine region_behind (by kernel_rfl) (by kernel_rfl) ?_
  repeat (go_big_quiet_step (first | (go_at_call 68; with_reducible refine Behind.call (empty_w _))))
  refine wpQuiet_nil ?_
  rintro _ ⟨m', rfl⟩
  obtain ⟨V5, hb1⟩ := m'
  dsimp only
  clear kX0 kX1 c1 c2
  replace X := X.keep hb1; replace R := R.keep hb1; replace D := D.keep hb1; replace HB := later HB hb1; clear hb1
  obtain ⟨x0, x1, x2, x3, x4⟩ := id X
  go_upto_region 7 with (go_at_call 127; refine (c3 _).mono ?_; rintro _ V6 ⟨rfl, hb1⟩; replace X := X.keep hb1; replace R := R.keep hb1; replace D := D.keep hb1; replace HB := later HB hb1; clear hb1; clear x0 x1 x2 x3 x4)
  have lim := And.intro X.lt (And.intro R.lt D.lt)
  have limH := HB.size
  apply tail_alloc1 9 (by kernel_rfl) (by kernel_rfl) rfl
  · intro W1 hW
    replace X := X.keep hW
    have kX0 := fun n : Behind W1 => n.cell X.1 X.2.2.2.2; have kX1 := fun n : Behind W1 => n.cell X.2.1 X.2.2.2.2
    simp only [List.take_succ_cons, List.take_zero]
    repeat (go_big_quiet_step (first | (go_at_call 144; with_reducible refine Behind.call (c4 _)) | (go_at_call 144; with_reducible refine Behind.call (c5 _)) | (go_at_call 143; with_reducible refine Behind.call (c6 _))))
    exact wpQuiet_nil rfl
  intro b W hbb B hb1
  have sX := X.lt
  have sR := R.lt
  have sD := D.lt
  have sHB := HB.size
  replace X := X.keep hb1; replace R := R.keep hb1; replace D := D.keep hb1; replace HB := later HB hb1; clear hb1
  have E := B.put (.float .f64 y.1) (.float .f64 y.2)
  replace X := X.far2 (c := b) (by omega) (.float .f64 y.1) (.float .f64 y.2)
  replace R := R.far2 (c := b) (by omega) (.float .f64 y.1) (.float .f64 y.2)
  replace D := D.far2 (c := b) (by omega) (.float .f64 y.1) (.float .f64 y.2)
  replace HB : Below w.heap.size w ((W.setCell ⟨b, 0, none⟩ (.float .f64 y.1)).setCell ⟨b, 1, none⟩ (.float .f64 y.2)) := (HB.setCell (by simp; omega) _).setCell (by simp; omega) _
  obtain ⟨bb0, bb1, bb2, bb3, bb4⟩ := id B
  simp only [List.drop_succ_cons, List.drop_zero, Act.put, List.setIfInBounds_toArray, List.set_cons_succ, List.set_cons_zero]
  go_upto_region 8 with fail
  clear bb0 bb1 bb2 bb3 bb4 B sX sR sD sHB
  generalize ((W.setCell ⟨b, 0, none⟩ (.float .f64 y.1)).setCell ⟨b, 1, none⟩ (.float .f64 y.2)) = V7 at *
  generalize b = bE at *
  clear c3 c4 c5 c6 o1 o2
  obtain ⟨x0, x1, x2, x3, x4⟩ := id X
  cases b1 with
  | false =>
    obtain rfl := e1 rfl
    clear e1 c11
    go_upto_region 10 with (go_at_call 145; refine (c7 _).mono ?_; rintro _ VV ⟨rfl, hb1⟩; replace X := X.keep hb1; replace R := R.keep hb1; replace D := D.keep hb1; replace E := E.keep hb1; replace HB := later HB hb1; clear hb1)
    clear c7 x0 x1 x2 x3 x4
    obtain ⟨x0, x1, x2, x3, x4⟩ := id X
    cases b2 with
    | false =>
      obtain rfl := e2 rfl
      clear e2 c12
      go_upto_region 12 with (go_at_call 145; refine (c8 _).mono ?_; rintro _ VV ⟨rfl, hb1⟩; replace X := X.keep hb1; replace R := R.keep hb1; replace D := D.keep hb1; replace E := E.keep hb1; replace HB := later HB hb1; clear hb1)
      obtain ⟨e0, e1, e2, e3, e4⟩ := id E
      obtain ⟨d0, d1, d2, d3, d4⟩ := id D
      go_wp2_with (go_at_call 81; refine (c13 _).mono ?_; rintro _ V9 ⟨rfl, hb1⟩; replace R := R.keep hb1; replace HB := later HB hb1; clear hb1; obtain ⟨k0, k1, k2, k3, k4⟩ := id R)
      refine bodyPost_ret (v := .agg #[.float .f64 r.1, .float .f64 r.2]) (by simp [results, Tryz.results85, go_sem, *]) rfl ⟨rfl, ?_⟩; repeat' (first | (with_reducible exact HB) | (with_reducible refine Below.setCell ?_ ?_ _) | go_size)
    | true =>
      replace c12 := c12 rfl
      clear e2
      go_upto_region 11 with (go_at_call 145; refine (c8 _).mono ?_; rintro _ VV ⟨rfl, hb1⟩; replace X := X.keep hb1; replace R := R.keep hb1; replace D := D.keep hb1; replace E := E.keep hb1; replace HB := later HB hb1; clear hb1)
      generalize VV = V8 at *
      have kE0 := fun n : Behind V8 => n.cell E.1 E.2.2.2.2; have kE1 := fun n : Behind V8 => n.cell E.2.1 E.2.2.2.2
      refine tail_behind 3 (by kernel_rfl) (by kernel_rfl) ?_
      simp only [List.take_succ_cons, List.take_zero, List.drop_succ_cons, List.drop_zero]
      repeat (go_big_quiet_step (first | (go_at_call 114; with_reducible refine Behind.call (c10 _)) | (go_at_call 143; with_reducible refine Behind.call (c12 _))))
      refine wpQuiet_nil ?_
      rintro _ ⟨m', rfl⟩
      obtain ⟨W3, hb1⟩ := m'
      dsimp only
      clear kE0 kE1
      replace X := X.keep hb1; replace R := R.keep hb1; replace D := D.keep hb1; replace E := E.keep hb1; replace HB := later HB hb1; clear hb1
      obtain ⟨e0, e1, e2, e3, e4⟩ := id E
      go_upto_region 12 with fail
      clear e0 e1 e2 e3 e4
      replace E := E.put (.float .f64 y2.1) (.float .f64 y2.2)
      replace X := X.far2 (c := bE) (by omega) (.float .f64 y2.1) (.float .f64 y2.2)
      replace R := R.far2 (c := bE) (by omega) (.float .f64 y2.1) (.float .f64 y2.2)
      replace D := D.far2 (c := bE) (by omega) (.float .f64 y2.1) (.float .f64 y2.2)
      replace HB : Below w.heap.size w ((W3.setCell ⟨bE, 0, none⟩ (.float .f64 y2.1)).setCell ⟨bE, 1, none⟩ (.float .f64 y2.2)) := (HB.setCell (by simp; omega) _).setCell (by simp; omega) _
      generalize ((W3.setCell ⟨bE, 0, none⟩ (.float .f64 y2.1)).setCell ⟨bE, 1, none⟩ (.float .f64 y2.2)) = V7 at *
      obtain ⟨e0, e1, e2, e3, e4⟩ := id E
      obtain ⟨d0, d1, d2, d3, d4⟩ := id D
      go_wp2_with (go_at_call 81; refine (c13 _).mono ?_; rintro _ V9 ⟨rfl, hb1⟩; replace R := R.keep hb1; replace HB := later HB hb1; clear hb1; obtain ⟨k0, k1, k2, k3, k4⟩ := id R)
      refine bodyPost_ret (v := .agg #[.float .f64 r.1, .float .f64 r.2]) (by simp [results, Tryz.results85, go_sem, *]) rfl ⟨rfl, ?_⟩; repeat' (first | (with_reducible exact HB) | (with_reducible refine Below.setCell ?_ ?_ _) | go_size)
  | true =>
    replace c11 := c11 rfl
    clear e1
    go_upto_region 9 with (go_at_call 145; refine (c7 _).mono ?_; rintro _ VV ⟨rfl, hb1⟩; replace X := X.keep hb1; replace R := R.keep hb1; replace D := D.keep hb1; replace E := E.keep hb1; replace HB := later HB hb1; clear hb1)
    clear c7 x0 x1 x2 x3 x4
    generalize VV = V8 at *
    have kE0 := fun n : Behind V8 => n.cell E.1 E.2.2.2.2; have kE1 := fun n : Behind V8 => n.cell E.2.1 E.2.2.2.2
    refine tail_behind 3 (by kernel_rfl) (by kernel_rfl) ?_
    simp only [List.take_succ_cons, List.take_zero, List.drop_succ_cons, List.drop_zero]
    repeat (go_big_quiet_step (first | (go_at_call 114; with_reducible refine Behind.call (c9 _)) | (go_at_call 143; with_reducible refine Behind.call (c11 _))))
    refine wpQuiet_nil ?_
    rintro _ ⟨m', rfl⟩
    obtain ⟨W3, hb1⟩ := m'
    dsimp only
    clear kE0 kE1
    replace X := X.keep hb1; replace R := R.keep hb1; replace D := D.keep hb1; replace E := E.keep hb1; replace HB := later HB hb1; clear hb1
    obtain ⟨e0, e1, e2, e3, e4⟩ := id E
    go_upto_region 10 with fail
    clear e0 e1 e2 e3 e4
    replace E := E.put (.float .f64 y1.1) (.float .f64 y1.2)
    replace X := X.far2 (c := bE) (by omega) (.float .f64 y1.1) (.float .f64 y1.2)
    replace R := R.far2 (c := bE) (by omega) (.float .f64 y1.1) (.float .f64 y1.2)
    replace D := D.far2 (c := bE) (by omega) (.float .f64 y1.1) (.float .f64 y1.2)
    replace HB : Below w.heap.size w ((W3.setCell ⟨bE, 0, none⟩ (.float .f64 y1.1)).setCell ⟨bE, 1, none⟩ (.float .f64 y1.2)) := (HB.setCell (by simp; omega) _).setCell (by simp; omega) _
    generalize ((W3.setCell ⟨bE, 0, none⟩ (.float .f64 y1.1)).setCell ⟨bE, 1, none⟩ (.float .f64 y1.2)) = V7 at *
    obtain ⟨x0, x1, x2, x3, x4⟩ := id X
    cases b2 with
    | false =>
      obtain rfl := e2 rfl
      clear e2 c12
      go_upto_region 12 with (go_at_call 145; refine (c8 _).mono ?_; rintro _ VV ⟨rfl, hb1⟩; replace X := X.keep hb1; replace R := R.keep hb1; replace D := D.keep hb1; replace E := E.keep hb1; replace HB := later HB hb1; clear hb1)
      obtain ⟨e0, e1, e2, e3, e4⟩ := id E
      obtain ⟨d0, d1, d2, d3, d4⟩ := id D
      go_wp2_with (go_at_call 81; refine (c13 _).mono ?_; rintro _ V9 ⟨rfl, hb1⟩; replace R := R.keep hb1; replace HB := later HB hb1; clear hb1; obtain ⟨k0, k1, k2, k3, k4⟩ := id R)
      refine bodyPost_ret (v := .agg #[.float .f64 r.1, .float .f64 r.2]) (by simp [results, Tryz.results85, go_sem, *]) rfl ⟨rfl, ?_⟩; repeat' (first | (with_reducible exact HB) | (with_reducible refine Below.setCell ?_ ?_ _) | go_size)
    | true =>
      replace c12 := c12 rfl
      clear e2
      go_upto_region 11 with (go_at_call 145; refine (c8 _).mono ?_; rintro _ VV ⟨rfl, hb1⟩; replace X := X.keep hb1; replace R := R.keep hb1; replace D := D.keep hb1; replace E := E.keep hb1; replace HB := later HB hb1; clear hb1)
      generalize VV = V8 at *
      have kE0 := fun n : Behind V8 => n.cell E.1 E.2.2.2.2; have kE1 := fun n : Behind V8 => n.cell E.2.1 E.2.2.2.2
      refine tail_behind 3 (by kernel_rfl) (by kernel_rfl) ?_
      simp only [List.take_succ_cons, List.take_zero, List.drop_succ_cons, List.drop_zero]
      repeat (go_big_quiet_step (first | (go_at_call 114; with_reducible refine Behind.call (c10 _)) | (go_at_call 143; with_reducible refine Behind.call (c12 _))))
      refine wpQuiet_nil ?_
      rintro _ ⟨m', rfl⟩
      obtain ⟨W3, hb1⟩ := m'
      dsimp only
      clear kE0 kE1
      replace X := X.keep hb1; replace R := R.keep hb1; replace D := D.keep hb1; replace E := E.keep hb1; replace HB := later HB hb1; clear hb1
      obtain ⟨e0, e1, e2, e3, e4⟩ := id E
      go_upto_region 12 with fail
      clear e0 e1 e2 e3 e4
      replace E := E.put (.float .f64 y2.1) (.float .f64 y2.2)
      replace X := X.far2 (c := bE) (by omega) (.float .f64 y2.1) (.float .f64 y2.2)
      replace R := R.far2 (c := bE) (by omega) (.float .f64 y2.1) (.float .f64 y2.2)
      replace D := D.far2 (c := bE) (by omega) (.float .f64 y2.1) (.float .f64 y2.2)
      replace HB : Below w.heap.size w ((W3.setCell ⟨bE, 0, none⟩ (.float .f64 y2.1)).setCell ⟨bE, 1, none⟩ (.float .f64 y2.2)) := (HB.setCell (by simp; omega) _).setCell (by simp; omega) _
      generalize ((W3.setCell ⟨bE, 0, none⟩ (.float .f64 y2.1)).setCell ⟨bE, 1, none⟩ (.float .f64 y2.2)) = V7 at *
      obtain ⟨e0, e1, e2, e3, e4⟩ := id E
      obtain ⟨d0, d1, d2, d3, d4⟩ := id D
      go_wp2_with (go_at_call 81; refine (c13 _).mono ?_; rintro _ V9 ⟨rfl, hb1⟩; replace R := R.keep hb1; replace HB := later HB hb1; clear hb1; obtain ⟨k0, k1, k2, k3, k4⟩ := id R)
      refine bodyPost_ret (v := .agg #[.float .f64 r.1, .float .f64 r.2]) (by simp [results, Tryz.results85, go_sem, *]) rfl ⟨rfl, ?_⟩; repeat' (first | (with_reducible exact HB) | (with_reducible refine Below.setCell ?_ ?_ _) | go_size)

end Go.Proofs.YtnchhfhoaepjnaaGreat
