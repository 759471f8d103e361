/- The series of sine and cosine as functions of words; constants in more bits. -/
import Derived.Test.YtnchhfhoaepjnaaGreatEc
import Derived.Test.YtnchhfhoaepjnaaGreatTk
namespace Go.Proofs.YtnchhfhoaepjnaaGreat
open Go.ChangeShapes Go.WideShapes Go.ChangeAt Go.RowKit

set_option maxHeartbeats 1000000 in
theorem turn_core (r o q t s : Nat × Nat) (f : Int) (c1 : ∀ w, Calls Tryz.prog 114 #[.float .f64 4607182418800017408] w fun e w' => e = .returned (.agg #[.float .f64 o.1, .float .f64 o.2]) ∧ Below w.heap.size w w') (c2 : ∀ w, Calls Tryz.prog 117 #[.agg #[.float .f64 r.1, .float .f64 r.2]] w fun e w' => e = .returned (.agg #[.float .f64 q.1, .float .f64 q.2]) ∧ Below w.heap.size w w') (c3 : ∀ w, Calls Tryz.prog 174 #[] w fun e w' => e = .returned (.agg #[.float .f64 t.1, .float .f64 t.2]) ∧ Below w.heap.size w w')
    (c4 : ∀ z a b W, W.cell? ⟨z, 0, none⟩ = some (.int .i64 f) → z < W.heap.size → Has2 W a (.float .f64 o.1) (.float .f64 o.2) → Has2 W b (.float .f64 q.1) (.float .f64 q.2) → Calls Tryz.prog 173 #[.int .i64 10, .agg #[.float .f64 t.1, .float .f64 t.2], .func (.func 222) #[] #[.pointer (some ⟨z, 0, none⟩), .pointer (some ⟨a, 0, none⟩), .pointer (some ⟨b, 0, none⟩)]] W fun e w' => e = .returned (.agg #[.float .f64 s.1, .float .f64 s.2]) ∧ Below W.heap.size W w') (w : World) :
    Calls Tryz.prog 209 #[.agg #[.float .f64 r.1, .float .f64 r.2], .int .i64 f] w fun e w' => e = .returned (.agg #[.float .f64 s.1, .float .f64 s.2]) ∧ Below w.heap.size w w' := by
  have X : Has2 (((w.alloc (.cells #[.float .f64 r.1, .float .f64 r.2] 46)).alloc (.cells #[.int .i64 f] 3)).alloc (.cells #[.float .f64 0, .float .f64 0] 46)) w.heap.size (.float .f64 r.1) (.float .f64 r.2) := ⟨by go_simp, by go_simp, by go_simp, by go_simp, by go_size⟩
  have Z : HasI (((w.alloc (.cells #[.float .f64 r.1, .float .f64 r.2] 46)).alloc (.cells #[.int .i64 f] 3)).alloc (.cells #[.float .f64 0, .float .f64 0] 46)) (w.heap.size + 1) (.int .i64 f) := ⟨by go_simp, by go_size⟩
  have R : Has2 (((w.alloc (.cells #[.float .f64 r.1, .float .f64 r.2] 46)).alloc (.cells #[.int .i64 f] 3)).alloc (.cells #[.float .f64 0, .float .f64 0] 46)) (w.heap.size + 1 + 1) (.float .f64 0) (.float .f64 0) := ⟨by go_simp, by go_simp, by go_simp, by go_simp, by go_size⟩
  have HB : Below w.heap.size w (((w.alloc (.cells #[.float .f64 r.1, .float .f64 r.2] 46)).alloc (.cells #[.int .i64 f] 3)).alloc (.cells #[.float .f64 0, .float .f64 0] 46)) := by go_grown
  go_enter Tryz.func209, Tryz.ntmps209
  go_upto_region 1 with fail
  generalize (((w.alloc (.cells #[.float .f64 r.1, .float .f64 r.2] 46)).alloc (.cells #[.int .i64 f] 3)).alloc (.cells #[.float .f64 0, .float .f64 0] 46)) = V0 at *
  apply tail_alloc2 3 (by kernel_rfl) (by kernel_rfl) rfl rfl (by decide)
  · intro W1 hW
    replace X := X.keep hW
    have kX0 := fun n : Behind W1 => n.cell X.1 X.2.2.2.2; have kX1 := fun n : Behind W1 => n.cell X.2.1 X.2.2.2.2
    simp only [List.take_succ_cons, List.take_zero]
    repeat (go_big_quiet_step (first | (go_at_call 114; with_reducible refine Behind.call (c1 _)) | (go_at_call 117; with_reducible refine Behind.call (c2 _))))
    exact wpQuiet_nil rfl
  · intro b c W hb hc hbc B C hb1
    have s1 := X.2.2.2.2
    have s2 := Z.2
    have s3 := R.2.2.2.2
    replace X := X.keep hb1; replace Z := Z.keep hb1; replace R := R.keep hb1; replace HB := later HB hb1; clear hb1
    have D := (B.put (.float .f64 o.1) (.float .f64 o.2)).far (Ne.symm hbc) (.float .f64 q.1) (.float .f64 q.2)
    have E := (C.far hbc (.float .f64 o.1) (.float .f64 o.2)).put (.float .f64 q.1) (.float .f64 q.2)
    replace Z := (Z.far (c := b) (by omega) (.float .f64 o.1) (.float .f64 o.2)).far (c := c) (by omega) (.float .f64 q.1) (.float .f64 q.2)
    replace R := (R.far (c := b) (by omega) (.float .f64 o.1) (.float .f64 o.2)).far (c := c) (by omega) (.float .f64 q.1) (.float .f64 q.2)
    replace HB : Below w.heap.size w ((((W.setCell ⟨b, 0, none⟩ (.float .f64 o.1)).setCell ⟨b, 1, none⟩ (.float .f64 o.2)).setCell ⟨c, 0, none⟩ (.float .f64 q.1)).setCell ⟨c, 1, none⟩ (.float .f64 q.2)) := (((HB.setCell (by simp; omega) _).setCell (by simp; omega) _).setCell (by simp; omega) _).setCell (by simp; omega) _
    obtain ⟨b0, b1, b2, b3, b4⟩ := id B
    obtain ⟨a0, a1, a2, a3, a4⟩ := id C
    simp only [List.drop_succ_cons, List.drop_zero, Act.put, List.setIfInBounds_toArray, List.set_cons_succ, List.set_cons_zero]
    go_upto_region 2 with fail
    clear b0 b1 b2 b3 b4 a0 a1 a2 a3 a4 B C X
    generalize ((((W.setCell ⟨b, 0, none⟩ (.float .f64 o.1)).setCell ⟨b, 1, none⟩ (.float .f64 o.2)).setCell ⟨c, 0, none⟩ (.float .f64 q.1)).setCell ⟨c, 1, none⟩ (.float .f64 q.2)) = V2 at *
    have hmf : ∀ (fn : Fn) (first cap : Array Value) (w : World), (Instr.makeFunc fn first cap).run Tryz.prog w = .ok (.func fn first cap) w := fun _ _ _ _ => rfl
    go_wp2_with (first
      | (go_at_call 174; refine (c3 _).mono ?_; rintro _ V3 ⟨rfl, hb1⟩; replace Z := Z.keep hb1; replace R := R.keep hb1; replace D := D.keep hb1; replace E := E.keep hb1; replace HB := later HB hb1; clear hb1)
      | (go_at_call 173; refine (c4 _ _ _ _ Z.1 Z.2 D E).mono ?_; rintro _ V4 ⟨rfl, hb1⟩; replace R := R.keep hb1; replace HB := later HB hb1; clear hb1; obtain ⟨k0, k1, k2, k3, k4⟩ := id R))
    refine bodyPost_ret (v := .agg #[.float .f64 s.1, .float .f64 s.2]) (by simp [results, Tryz.results209, go_sem, *]) rfl ⟨rfl, ?_⟩; repeat' (first | (with_reducible exact HB) | (with_reducible refine Below.setCell ?_ ?_ _) | go_size)

set_option maxHeartbeats 1000000 in
theorem taken_core (v f : Nat) (k : Int) (r o n p m l q s : Nat × Nat) (c1 : ∀ w, Calls Tryz.prog 114 #[.float .f64 v] w fun e w' => e = .returned (.agg #[.float .f64 o.1, .float .f64 o.2]) ∧ Below w.heap.size w w') (c2 : ∀ w, Calls Tryz.prog 176 #[.int .i64 k] w fun e w' => e = .returned (.agg #[.float .f64 n.1, .float .f64 n.2]) ∧ Below w.heap.size w w') (c3 : ∀ w, Calls Tryz.prog 114 #[.float .f64 f] w fun e w' => e = .returned (.agg #[.float .f64 p.1, .float .f64 p.2]) ∧ Below w.heap.size w w') (c4 : ∀ w, Calls Tryz.prog 72 #[.agg #[.float .f64 n.1, .float .f64 n.2], .agg #[.float .f64 p.1, .float .f64 p.2]] w fun e w' => e = .returned (.agg #[.float .f64 m.1, .float .f64 m.2]) ∧ Below w.heap.size w w') (c5 : ∀ w, Calls Tryz.prog 71 #[.agg #[.float .f64 o.1, .float .f64 o.2], .agg #[.float .f64 m.1, .float .f64 m.2]] w fun e w' => e = .returned (.agg #[.float .f64 l.1, .float .f64 l.2]) ∧ Below w.heap.size w w') (c6 : ∀ w, Calls Tryz.prog 72 #[.agg #[.float .f64 n.1, .float .f64 n.2], .agg #[.float .f64 r.1, .float .f64 r.2]] w fun e w' => e = .returned (.agg #[.float .f64 q.1, .float .f64 q.2]) ∧ Below w.heap.size w w') (c7 : ∀ w, Calls Tryz.prog 71 #[.agg #[.float .f64 l.1, .float .f64 l.2], .agg #[.float .f64 q.1, .float .f64 q.2]] w fun e w' => e = .returned (.agg #[.float .f64 s.1, .float .f64 s.2]) ∧ Below w.heap.size w w') (w : World) :
    Calls Tryz.prog 138 #[.agg #[.float .f64 f, .float .f64 r.1, .float .f64 r.2], .float .f64 v, .int .i64 k] w fun e w' => e = .returned (.agg #[.float .f64 s.1, .float .f64 s.2]) ∧ Below w.heap.size w w' := by
  have X : Has3 ((w.alloc (.cells #[.float .f64 f, .float .f64 r.1, .float .f64 r.2] 109)).alloc (.cells #[.float .f64 0, .float .f64 0] 46)) w.heap.size (.float .f64 f) (.float .f64 r.1) (.float .f64 r.2) := ⟨by go_simp, by go_simp, by go_simp, by go_simp, by go_simp, by go_simp, by go_size⟩
  have R : Has2 ((w.alloc (.cells #[.float .f64 f, .float .f64 r.1, .float .f64 r.2] 109)).alloc (.cells #[.float .f64 0, .float .f64 0] 46)) (w.heap.size + 1) (.float .f64 0) (.float .f64 0) := ⟨by go_simp, by go_simp, by go_simp, by go_simp, by go_size⟩
  have HB : Below w.heap.size w ((w.alloc (.cells #[.float .f64 f, .float .f64 r.1, .float .f64 r.2] 109)).alloc (.cells #[.float .f64 0, .float .f64 0] 46)) := by go_grown
  go_enter Tryz.func138, Tryz.ntmps138
  go_upto_region 1 with fail
  generalize ((w.alloc (.cells #[.float .f64 f, .float .f64 r.1, .float .f64 r.2] 109)).alloc (.cells #[.float .f64 0, .float .f64 0] 46)) = V1 at *
  apply tail_alloc1 9 (by kernel_rfl) (by kernel_rfl) rfl
  · intro W1 hW
    replace X := X.keep hW
    have kX0 := fun n : Behind W1 => n.cell X.1 X.lt; have kX1 := fun n : Behind W1 => n.cell X.2.1 X.lt; have kX2 := fun n : Behind W1 => n.cell X.2.2.1 X.lt
    simp only [List.take_succ_cons, List.take_zero]
    repeat (go_big_quiet_step (first | (go_at_call 114; with_reducible refine Behind.call (c1 _)) | (go_at_call 176; with_reducible refine Behind.call (c2 _)) | (go_at_call 114; with_reducible refine Behind.call (c3 _)) | (go_at_call 72; with_reducible refine Behind.call (c4 _)) | (go_at_call 71; with_reducible refine Behind.call (c5 _))))
    exact wpQuiet_nil rfl
  intro b W hbb B hb1
  have sX := X.lt
  have sR := R.lt
  have sHB := HB.size
  replace X := X.keep hb1; replace R := R.keep hb1; replace HB := later HB hb1; clear hb1
  have D := B.put (.float .f64 l.1) (.float .f64 l.2)
  replace X := X.far2 (c := b) (by omega) (.float .f64 l.1) (.float .f64 l.2)
  replace R := R.far2 (c := b) (by omega) (.float .f64 l.1) (.float .f64 l.2)
  replace HB : Below w.heap.size w ((W.setCell ⟨b, 0, none⟩ (.float .f64 l.1)).setCell ⟨b, 1, none⟩ (.float .f64 l.2)) := (HB.setCell (by simp; omega) _).setCell (by simp; omega) _
  obtain ⟨bb0, bb1, bb2, bb3, bb4⟩ := id B
  simp only [List.drop_succ_cons, List.drop_zero, Act.put, List.setIfInBounds_toArray, List.set_cons_succ, List.set_cons_zero]
  go_upto_region 2 with fail
  clear bb0 bb1 bb2 bb3 bb4 B hbb sX sR sHB
  generalize ((W.setCell ⟨b, 0, none⟩ (.float .f64 l.1)).setCell ⟨b, 1, none⟩ (.float .f64 l.2)) = V2 at *
  generalize b = bD at *
  have kX1 := fun n : Behind V2 => n.cell X.2.1 X.lt
  have kX2 := fun n : Behind V2 => n.cell X.2.2.1 X.lt
  have kD0 := fun n : Behind V2 => n.cell D.1 D.2.2.2.2; have kD1 := fun n : Behind V2 => n.cell D.2.1 D.2.2.2.2
  refine tail_behind 7 (by kernel_rfl) (by kernel_rfl) ?_
  simp only [List.take_succ_cons, List.take_zero, List.drop_succ_cons, List.drop_zero]
  repeat (go_big_quiet_step (first | (go_at_call 176; with_reducible refine Behind.call (c2 _)) | (go_at_call 72; with_reducible refine Behind.call (c6 _)) | (go_at_call 71; with_reducible refine Behind.call (c7 _))))
  refine wpQuiet_nil ?_
  rintro _ ⟨m', rfl⟩
  obtain ⟨W, hb1⟩ := m'
  dsimp only
  clear kD0 kD1
  replace R := R.keep hb1; replace HB := later HB hb1; clear hb1
  clear kX1 kX2
  obtain ⟨k0, k1, k2, k3, k4⟩ := id R
  go_wp2_with fail
  refine bodyPost_ret (v := .agg #[.float .f64 s.1, .float .f64 s.2]) (by simp [results, Tryz.results138, go_sem, *]) rfl ⟨rfl, ?_⟩; repeat' (first | (with_reducible exact HB) | (with_reducible refine Below.setCell ?_ ?_ _) | go_size)

set_option maxHeartbeats 1000000 in
theorem putto_core (x : Nat × Nat) (f : Nat) (k : Int) (r n p m l q s : Nat × Nat) (c2 : ∀ w, Calls Tryz.prog 176 #[.int .i64 k] w fun e w' => e = .returned (.agg #[.float .f64 n.1, .float .f64 n.2]) ∧ Below w.heap.size w w') (c3 : ∀ w, Calls Tryz.prog 72 #[.agg #[.float .f64 n.1, .float .f64 n.2], .agg #[.float .f64 r.1, .float .f64 r.2]] w fun e w' => e = .returned (.agg #[.float .f64 q.1, .float .f64 q.2]) ∧ Below w.heap.size w w') (c4 : ∀ w, Calls Tryz.prog 70 #[.agg #[.float .f64 x.1, .float .f64 x.2], .agg #[.float .f64 q.1, .float .f64 q.2]] w fun e w' => e = .returned (.agg #[.float .f64 l.1, .float .f64 l.2]) ∧ Below w.heap.size w w') (c5 : ∀ w, Calls Tryz.prog 114 #[.float .f64 f] w fun e w' => e = .returned (.agg #[.float .f64 p.1, .float .f64 p.2]) ∧ Below w.heap.size w w') (c6 : ∀ w, Calls Tryz.prog 72 #[.agg #[.float .f64 n.1, .float .f64 n.2], .agg #[.float .f64 p.1, .float .f64 p.2]] w fun e w' => e = .returned (.agg #[.float .f64 m.1, .float .f64 m.2]) ∧ Below w.heap.size w w') (c7 : ∀ w, Calls Tryz.prog 70 #[.agg #[.float .f64 l.1, .float .f64 l.2], .agg #[.float .f64 m.1, .float .f64 m.2]] w fun e w' => e = .returned (.agg #[.float .f64 s.1, .float .f64 s.2]) ∧ Below w.heap.size w w') (w : World) :
    Calls Tryz.prog 141 #[.agg #[.float .f64 f, .float .f64 r.1, .float .f64 r.2], .agg #[.float .f64 x.1, .float .f64 x.2], .int .i64 k] w fun e w' => e = .returned (.agg #[.float .f64 s.1, .float .f64 s.2]) ∧ Below w.heap.size w w' := by
  have X : Has3 (((w.alloc (.cells #[.float .f64 f, .float .f64 r.1, .float .f64 r.2] 109)).alloc (.cells #[.float .f64 x.1, .float .f64 x.2] 46)).alloc (.cells #[.float .f64 0, .float .f64 0] 46)) w.heap.size (.float .f64 f) (.float .f64 r.1) (.float .f64 r.2) := ⟨by go_simp, by go_simp, by go_simp, by go_simp, by go_simp, by go_simp, by go_size⟩
  have Y : Has2 (((w.alloc (.cells #[.float .f64 f, .float .f64 r.1, .float .f64 r.2] 109)).alloc (.cells #[.float .f64 x.1, .float .f64 x.2] 46)).alloc (.cells #[.float .f64 0, .float .f64 0] 46)) (w.heap.size + 1) (.float .f64 x.1) (.float .f64 x.2) := ⟨by go_simp, by go_simp, by go_simp, by go_simp, by go_size⟩
  have R : Has2 (((w.alloc (.cells #[.float .f64 f, .float .f64 r.1, .float .f64 r.2] 109)).alloc (.cells #[.float .f64 x.1, .float .f64 x.2] 46)).alloc (.cells #[.float .f64 0, .float .f64 0] 46)) (w.heap.size + 1 + 1) (.float .f64 0) (.float .f64 0) := ⟨by go_simp, by go_simp, by go_simp, by go_simp, by go_size⟩
  have HB : Below w.heap.size w (((w.alloc (.cells #[.float .f64 f, .float .f64 r.1, .float .f64 r.2] 109)).alloc (.cells #[.float .f64 x.1, .float .f64 x.2] 46)).alloc (.cells #[.float .f64 0, .float .f64 0] 46)) := by go_grown
  go_enter Tryz.func141, Tryz.ntmps141
  go_upto_region 1 with fail
  generalize (((w.alloc (.cells #[.float .f64 f, .float .f64 r.1, .float .f64 r.2] 109)).alloc (.cells #[.float .f64 x.1, .float .f64 x.2] 46)).alloc (.cells #[.float .f64 0, .float .f64 0] 46)) = V1 at *
  apply tail_alloc1 7 (by kernel_rfl) (by kernel_rfl) rfl
  · intro W1 hW
    replace X := X.keep hW
    replace Y := Y.keep hW
    have kY0 := fun n : Behind W1 => n.cell Y.1 Y.2.2.2.2; have kY1 := fun n : Behind W1 => n.cell Y.2.1 Y.2.2.2.2
    have kX0 := fun n : Behind W1 => n.cell X.1 X.lt; have kX1 := fun n : Behind W1 => n.cell X.2.1 X.lt; have kX2 := fun n : Behind W1 => n.cell X.2.2.1 X.lt
    simp only [List.take_succ_cons, List.take_zero]
    repeat (go_big_quiet_step (first | (go_at_call 176; with_reducible refine Behind.call (c2 _)) | (go_at_call 72; with_reducible refine Behind.call (c3 _)) | (go_at_call 70; with_reducible refine Behind.call (c4 _))))
    exact wpQuiet_nil rfl
  intro b W hbb B hb1
  have sX := X.lt
  have sR := R.lt
  have sHB := HB.size
  replace X := X.keep hb1; replace R := R.keep hb1; replace HB := later HB hb1; clear hb1
  have D := B.put (.float .f64 l.1) (.float .f64 l.2)
  replace X := X.far2 (c := b) (by omega) (.float .f64 l.1) (.float .f64 l.2)
  replace R := R.far2 (c := b) (by omega) (.float .f64 l.1) (.float .f64 l.2)
  replace HB : Below w.heap.size w ((W.setCell ⟨b, 0, none⟩ (.float .f64 l.1)).setCell ⟨b, 1, none⟩ (.float .f64 l.2)) := (HB.setCell (by simp; omega) _).setCell (by simp; omega) _
  obtain ⟨bb0, bb1, bb2, bb3, bb4⟩ := id B
  simp only [List.drop_succ_cons, List.drop_zero, Act.put, List.setIfInBounds_toArray, List.set_cons_succ, List.set_cons_zero]
  go_upto_region 2 with fail
  clear bb0 bb1 bb2 bb3 bb4 B hbb sX sR sHB
  generalize ((W.setCell ⟨b, 0, none⟩ (.float .f64 l.1)).setCell ⟨b, 1, none⟩ (.float .f64 l.2)) = V2 at *
  generalize b = bD at *
  have kX0 := fun n : Behind V2 => n.cell X.1 X.lt
  have kD0 := fun n : Behind V2 => n.cell D.1 D.2.2.2.2; have kD1 := fun n : Behind V2 => n.cell D.2.1 D.2.2.2.2
  refine tail_behind 8 (by kernel_rfl) (by kernel_rfl) ?_
  simp only [List.take_succ_cons, List.take_zero, List.drop_succ_cons, List.drop_zero]
  repeat (go_big_quiet_step (first | (go_at_call 176; with_reducible refine Behind.call (c2 _)) | (go_at_call 114; with_reducible refine Behind.call (c5 _)) | (go_at_call 72; with_reducible refine Behind.call (c6 _)) | (go_at_call 70; with_reducible refine Behind.call (c7 _))))
  refine wpQuiet_nil ?_
  rintro _ ⟨m', rfl⟩
  obtain ⟨W, hb1⟩ := m'
  dsimp only
  clear kD0 kD1
  replace R := R.keep hb1; replace HB := later HB hb1; clear hb1
  clear kX0
  obtain ⟨k0, k1, k2, k3, k4⟩ := id R
  go_wp2_with fail
  refine bodyPost_ret (v := .agg #[.float .f64 s.1, .float .f64 s.2]) (by simp [results, Tryz.results141, go_sem, *]) rfl ⟨rfl, ?_⟩; repeat' (first | (with_reducible exact HB) | (with_reducible refine Below.setCell ?_ ?_ _) | go_size)

end Go.Proofs.YtnchhfhoaepjnaaGreat
