/- An operation's value behind those ahead: nextValue. -/
import Derived.Test.YtnchhfhoaepjnaaGreatVb
namespace Go.Proofs.YtnchhfhoaepjnaaGreat
open Go.ChangeShapes Go.WideShapes Go.ChangeAt Go.RowKit

set_option maxHeartbeats 1000000 in
theorem nv_out (k oa ob n : Int) (l a b : Nat × Nat) (ahead xs : Value) (w : World) (c1 : ∀ W, Below w.heap.size w W → Calls Tryz.prog 34 #[.agg #[.int .i64 k, .int .i64 oa, .int .i64 ob, .int .i64 n, .float .f64 l.1, .float .f64 l.2], ahead] W fun e w' => e = .returned (.tuple #[.agg #[.float .f64 a.1, .float .f64 a.2], .agg #[.float .f64 b.1, .float .f64 b.2]]) ∧ Below W.heap.size W w') (c2 : ∀ w, Calls Tryz.prog 35 #[.agg #[.int .i64 k, .int .i64 oa, .int .i64 ob, .int .i64 n, .float .f64 l.1, .float .f64 l.2], .agg #[.float .f64 a.1, .float .f64 a.2], .agg #[.float .f64 b.1, .float .f64 b.2]] w fun e w' => e = .returned (.bool true) ∧ Below w.heap.size w w') : Calls Tryz.prog 16 #[.agg #[.int .i64 k, .int .i64 oa, .int .i64 ob, .int .i64 n, .float .f64 l.1, .float .f64 l.2], ahead, xs] w fun e w' => e = .returned (.tuple #[.agg #[.float .f64 0, .float .f64 0], .int .i64 51]) ∧ Below w.heap.size w w' := by
  have O : HasO ((w.alloc (.cells #[.int .i64 k, .int .i64 oa, .int .i64 ob, .int .i64 n, .float .f64 l.1, .float .f64 l.2] 48)).alloc (.cells #[.float .f64 0, .float .f64 0] 46)) w.heap.size k oa ob n l := (hasO_new w k oa ob n l).alloc _
  have R : Has2 ((w.alloc (.cells #[.int .i64 k, .int .i64 oa, .int .i64 ob, .int .i64 n, .float .f64 l.1, .float .f64 l.2] 48)).alloc (.cells #[.float .f64 0, .float .f64 0] 46)) (w.heap.size + 1) (.float .f64 0) (.float .f64 0) := ⟨by go_simp, by go_simp, by go_simp, by go_simp, by go_size⟩
  have HB : Below w.heap.size w ((w.alloc (.cells #[.int .i64 k, .int .i64 oa, .int .i64 ob, .int .i64 n, .float .f64 l.1, .float .f64 l.2] 48)).alloc (.cells #[.float .f64 0, .float .f64 0] 46)) := by go_grown
  go_enter Tryz.func16, Tryz.ntmps16
  go_upto_region 1 with fail
  generalize (w.alloc (.cells #[.int .i64 k, .int .i64 oa, .int .i64 ob, .int .i64 n, .float .f64 l.1, .float .f64 l.2] 48)).alloc (.cells #[.float .f64 0, .float .f64 0] 46) = V1 at *
  obtain ⟨o0, o1, o2, o3, o4, o5, ol⟩ := id O
  go_upto_region 2 with (go_at_call 34; refine (c1 _ HB).mono ?_; rintro _ VV ⟨rfl, hb1⟩; replace O := O.keep hb1; replace R := R.keep hb1; replace HB := later HB hb1; clear hb1)
  clear c1 o0 o1 o2 o3 o4 o5 ol
  have hb1 : Below VV.heap.size VV ((VV.alloc (.cells #[.float .f64 a.1, .float .f64 a.2] 46)).alloc (.cells #[.float .f64 b.1, .float .f64 b.2] 46)) := by go_grown
  have X : Has2 ((VV.alloc (.cells #[.float .f64 a.1, .float .f64 a.2] 46)).alloc (.cells #[.float .f64 b.1, .float .f64 b.2] 46)) VV.heap.size (.float .f64 a.1) (.float .f64 a.2) := ⟨by go_simp, by go_simp, by go_simp, by go_simp, by go_size⟩
  have Y : Has2 ((VV.alloc (.cells #[.float .f64 a.1, .float .f64 a.2] 46)).alloc (.cells #[.float .f64 b.1, .float .f64 b.2] 46)) (VV.heap.size + 1) (.float .f64 b.1) (.float .f64 b.2) := ⟨by go_simp, by go_simp, by go_simp, by go_simp, by go_size⟩
  replace O := O.keep hb1; replace R := R.keep hb1; replace HB := later HB hb1; clear hb1
  generalize ((VV.alloc (.cells #[.float .f64 a.1, .float .f64 a.2] 46)).alloc (.cells #[.float .f64 b.1, .float .f64 b.2] 46)) = V2 at *
  generalize VV.heap.size = d at *
  obtain ⟨o0, o1, o2, o3, o4, o5, ol⟩ := id O
  obtain ⟨p0, p1, p2, p3, p4⟩ := id X
  obtain ⟨q0, q1, q2, q3, q4⟩ := id Y
  go_wp2_with (go_at_call 35; refine (c2 _).mono ?_; rintro _ V3 ⟨rfl, hb1⟩; replace R := R.keep hb1; replace HB := later HB hb1; clear hb1; obtain ⟨k0, k1, k2, k3, k4⟩ := id R)
  refine bodyPost_ret (v := .tuple #[.agg #[.float .f64 0, .float .f64 0], .int .i64 51]) (by simp [results, Tryz.results16, go_sem, *]) rfl ⟨rfl, ?_⟩; repeat' (first | (with_reducible exact HB) | (with_reducible refine Below.setCell ?_ ?_ _) | go_size)

set_option maxHeartbeats 1000000 in
theorem nv_wide (v : Nat × Nat) (k oa ob n : Int) (l a b : Nat × Nat) (ahead xs : Value) (w : World) (c1 : ∀ W, Below w.heap.size w W → Calls Tryz.prog 34 #[.agg #[.int .i64 k, .int .i64 oa, .int .i64 ob, .int .i64 n, .float .f64 l.1, .float .f64 l.2], ahead] W fun e w' => e = .returned (.tuple #[.agg #[.float .f64 a.1, .float .f64 a.2], .agg #[.float .f64 b.1, .float .f64 b.2]]) ∧ Below W.heap.size W w') (c2 : ∀ w, Calls Tryz.prog 35 #[.agg #[.int .i64 k, .int .i64 oa, .int .i64 ob, .int .i64 n, .float .f64 l.1, .float .f64 l.2], .agg #[.float .f64 a.1, .float .f64 a.2], .agg #[.float .f64 b.1, .float .f64 b.2]] w fun e w' => e = .returned (.bool false) ∧ Below w.heap.size w w') (c3 : ∀ W, Below w.heap.size w W → Calls Tryz.prog 36 #[.agg #[.int .i64 k, .int .i64 oa, .int .i64 ob, .int .i64 n, .float .f64 l.1, .float .f64 l.2], .agg #[.float .f64 a.1, .float .f64 a.2], .agg #[.float .f64 b.1, .float .f64 b.2], xs] W fun e w' => e = .returned (.agg #[.float .f64 v.1, .float .f64 v.2]) ∧ Below W.heap.size W w') (c4 : ∀ w, Calls Tryz.prog 37 #[.agg #[.float .f64 v.1, .float .f64 v.2]] w fun e w' => e = .returned (.bool false) ∧ Below w.heap.size w w') : Calls Tryz.prog 16 #[.agg #[.int .i64 k, .int .i64 oa, .int .i64 ob, .int .i64 n, .float .f64 l.1, .float .f64 l.2], ahead, xs] w fun e w' => e = .returned (.tuple #[.agg #[.float .f64 0, .float .f64 0], .int .i64 5]) ∧ Below w.heap.size w w' := by
  have O : HasO ((w.alloc (.cells #[.int .i64 k, .int .i64 oa, .int .i64 ob, .int .i64 n, .float .f64 l.1, .float .f64 l.2] 48)).alloc (.cells #[.float .f64 0, .float .f64 0] 46)) w.heap.size k oa ob n l := (hasO_new w k oa ob n l).alloc _
  have R : Has2 ((w.alloc (.cells #[.int .i64 k, .int .i64 oa, .int .i64 ob, .int .i64 n, .float .f64 l.1, .float .f64 l.2] 48)).alloc (.cells #[.float .f64 0, .float .f64 0] 46)) (w.heap.size + 1) (.float .f64 0) (.float .f64 0) := ⟨by go_simp, by go_simp, by go_simp, by go_simp, by go_size⟩
  have HB : Below w.heap.size w ((w.alloc (.cells #[.int .i64 k, .int .i64 oa, .int .i64 ob, .int .i64 n, .float .f64 l.1, .float .f64 l.2] 48)).alloc (.cells #[.float .f64 0, .float .f64 0] 46)) := by go_grown
  go_enter Tryz.func16, Tryz.ntmps16
  go_upto_region 1 with fail
  generalize (w.alloc (.cells #[.int .i64 k, .int .i64 oa, .int .i64 ob, .int .i64 n, .float .f64 l.1, .float .f64 l.2] 48)).alloc (.cells #[.float .f64 0, .float .f64 0] 46) = V1 at *
  obtain ⟨o0, o1, o2, o3, o4, o5, ol⟩ := id O
  go_upto_region 2 with (go_at_call 34; refine (c1 _ HB).mono ?_; rintro _ VV ⟨rfl, hb1⟩; replace O := O.keep hb1; replace R := R.keep hb1; replace HB := later HB hb1; clear hb1)
  clear c1 o0 o1 o2 o3 o4 o5 ol
  have hb1 : Below VV.heap.size VV ((VV.alloc (.cells #[.float .f64 a.1, .float .f64 a.2] 46)).alloc (.cells #[.float .f64 b.1, .float .f64 b.2] 46)) := by go_grown
  have X : Has2 ((VV.alloc (.cells #[.float .f64 a.1, .float .f64 a.2] 46)).alloc (.cells #[.float .f64 b.1, .float .f64 b.2] 46)) VV.heap.size (.float .f64 a.1) (.float .f64 a.2) := ⟨by go_simp, by go_simp, by go_simp, by go_simp, by go_size⟩
  have Y : Has2 ((VV.alloc (.cells #[.float .f64 a.1, .float .f64 a.2] 46)).alloc (.cells #[.float .f64 b.1, .float .f64 b.2] 46)) (VV.heap.size + 1) (.float .f64 b.1) (.float .f64 b.2) := ⟨by go_simp, by go_simp, by go_simp, by go_simp, by go_size⟩
  replace O := O.keep hb1; replace R := R.keep hb1; replace HB := later HB hb1; clear hb1
  generalize ((VV.alloc (.cells #[.float .f64 a.1, .float .f64 a.2] 46)).alloc (.cells #[.float .f64 b.1, .float .f64 b.2] 46)) = V2 at *
  generalize VV.heap.size = d at *
  obtain ⟨o0, o1, o2, o3, o4, o5, ol⟩ := id O
  obtain ⟨p0, p1, p2, p3, p4⟩ := id X
  obtain ⟨q0, q1, q2, q3, q4⟩ := id Y
  go_upto_region 4 with (go_at_call 35; refine (c2 _).mono ?_; rintro _ VV ⟨rfl, hb1⟩; replace O := O.keep hb1; replace R := R.keep hb1; replace X := X.keep hb1; replace Y := Y.keep hb1; replace HB := later HB hb1; clear hb1)
  clear o0 o1 o2 o3 o4 o5 ol p0 p1 p2 p3 p4 q0 q1 q2 q3 q4 c2
  obtain ⟨o0, o1, o2, o3, o4, o5, ol⟩ := id O
  obtain ⟨p0, p1, p2, p3, p4⟩ := id X
  obtain ⟨q0, q1, q2, q3, q4⟩ := id Y
  go_upto_region 5 with (go_at_call 36; refine (c3 _ HB).mono ?_; rintro _ VV ⟨rfl, hb1⟩; replace R := R.keep hb1; replace HB := later HB hb1; clear hb1)
  clear o0 o1 o2 o3 o4 o5 ol p0 p1 p2 p3 p4 q0 q1 q2 q3 q4 c3 O X Y
  have hb1 : Below VV.heap.size VV (VV.alloc (.cells #[.float .f64 v.1, .float .f64 v.2] 46)) := by go_grown
  have Z : Has2 (VV.alloc (.cells #[.float .f64 v.1, .float .f64 v.2] 46)) VV.heap.size (.float .f64 v.1) (.float .f64 v.2) := has2_new _ _ _ _
  replace R := R.keep hb1; replace HB := later HB hb1; clear hb1
  generalize (VV.alloc (.cells #[.float .f64 v.1, .float .f64 v.2] 46)) = V4 at *
  generalize VV.heap.size = z at *
  obtain ⟨y0, y1, y2, y3, y4⟩ := id Z
  go_wp2_with (go_at_call 37; refine (c4 _).mono ?_; rintro _ V5 ⟨rfl, hb1⟩; replace R := R.keep hb1; replace HB := later HB hb1; clear hb1; obtain ⟨k0, k1, k2, k3, k4⟩ := id R)
  refine bodyPost_ret (v := .tuple #[.agg #[.float .f64 0, .float .f64 0], .int .i64 5]) (by simp [results, Tryz.results16, go_sem, *]) rfl ⟨rfl, ?_⟩; repeat' (first | (with_reducible exact HB) | (with_reducible refine Below.setCell ?_ ?_ _) | go_size)

set_option maxHeartbeats 1000000 in
theorem nv_ok (v : Nat × Nat) (k oa ob n : Int) (l a b : Nat × Nat) (ahead xs : Value) (w : World) (c1 : ∀ W, Below w.heap.size w W → Calls Tryz.prog 34 #[.agg #[.int .i64 k, .int .i64 oa, .int .i64 ob, .int .i64 n, .float .f64 l.1, .float .f64 l.2], ahead] W fun e w' => e = .returned (.tuple #[.agg #[.float .f64 a.1, .float .f64 a.2], .agg #[.float .f64 b.1, .float .f64 b.2]]) ∧ Below W.heap.size W w') (c2 : ∀ w, Calls Tryz.prog 35 #[.agg #[.int .i64 k, .int .i64 oa, .int .i64 ob, .int .i64 n, .float .f64 l.1, .float .f64 l.2], .agg #[.float .f64 a.1, .float .f64 a.2], .agg #[.float .f64 b.1, .float .f64 b.2]] w fun e w' => e = .returned (.bool false) ∧ Below w.heap.size w w') (c3 : ∀ W, Below w.heap.size w W → Calls Tryz.prog 36 #[.agg #[.int .i64 k, .int .i64 oa, .int .i64 ob, .int .i64 n, .float .f64 l.1, .float .f64 l.2], .agg #[.float .f64 a.1, .float .f64 a.2], .agg #[.float .f64 b.1, .float .f64 b.2], xs] W fun e w' => e = .returned (.agg #[.float .f64 v.1, .float .f64 v.2]) ∧ Below W.heap.size W w') (c4 : ∀ w, Calls Tryz.prog 37 #[.agg #[.float .f64 v.1, .float .f64 v.2]] w fun e w' => e = .returned (.bool true) ∧ Below w.heap.size w w') : Calls Tryz.prog 16 #[.agg #[.int .i64 k, .int .i64 oa, .int .i64 ob, .int .i64 n, .float .f64 l.1, .float .f64 l.2], ahead, xs] w fun e w' => e = .returned (.tuple #[.agg #[.float .f64 v.1, .float .f64 v.2], .int .i64 0]) ∧ Below w.heap.size w w' := by
  have O : HasO ((w.alloc (.cells #[.int .i64 k, .int .i64 oa, .int .i64 ob, .int .i64 n, .float .f64 l.1, .float .f64 l.2] 48)).alloc (.cells #[.float .f64 0, .float .f64 0] 46)) w.heap.size k oa ob n l := (hasO_new w k oa ob n l).alloc _
  have R : Has2 ((w.alloc (.cells #[.int .i64 k, .int .i64 oa, .int .i64 ob, .int .i64 n, .float .f64 l.1, .float .f64 l.2] 48)).alloc (.cells #[.float .f64 0, .float .f64 0] 46)) (w.heap.size + 1) (.float .f64 0) (.float .f64 0) := ⟨by go_simp, by go_simp, by go_simp, by go_simp, by go_size⟩
  have HB : Below w.heap.size w ((w.alloc (.cells #[.int .i64 k, .int .i64 oa, .int .i64 ob, .int .i64 n, .float .f64 l.1, .float .f64 l.2] 48)).alloc (.cells #[.float .f64 0, .float .f64 0] 46)) := by go_grown
  go_enter Tryz.func16, Tryz.ntmps16
  go_upto_region 1 with fail
  generalize (w.alloc (.cells #[.int .i64 k, .int .i64 oa, .int .i64 ob, .int .i64 n, .float .f64 l.1, .float .f64 l.2] 48)).alloc (.cells #[.float .f64 0, .float .f64 0] 46) = V1 at *
  obtain ⟨o0, o1, o2, o3, o4, o5, ol⟩ := id O
  go_upto_region 2 with (go_at_call 34; refine (c1 _ HB).mono ?_; rintro _ VV ⟨rfl, hb1⟩; replace O := O.keep hb1; replace R := R.keep hb1; replace HB := later HB hb1; clear hb1)
  clear c1 o0 o1 o2 o3 o4 o5 ol
  have hb1 : Below VV.heap.size VV ((VV.alloc (.cells #[.float .f64 a.1, .float .f64 a.2] 46)).alloc (.cells #[.float .f64 b.1, .float .f64 b.2] 46)) := by go_grown
  have X : Has2 ((VV.alloc (.cells #[.float .f64 a.1, .float .f64 a.2] 46)).alloc (.cells #[.float .f64 b.1, .float .f64 b.2] 46)) VV.heap.size (.float .f64 a.1) (.float .f64 a.2) := ⟨by go_simp, by go_simp, by go_simp, by go_simp, by go_size⟩
  have Y : Has2 ((VV.alloc (.cells #[.float .f64 a.1, .float .f64 a.2] 46)).alloc (.cells #[.float .f64 b.1, .float .f64 b.2] 46)) (VV.heap.size + 1) (.float .f64 b.1) (.float .f64 b.2) := ⟨by go_simp, by go_simp, by go_simp, by go_simp, by go_size⟩
  replace O := O.keep hb1; replace R := R.keep hb1; replace HB := later HB hb1; clear hb1
  generalize ((VV.alloc (.cells #[.float .f64 a.1, .float .f64 a.2] 46)).alloc (.cells #[.float .f64 b.1, .float .f64 b.2] 46)) = V2 at *
  generalize VV.heap.size = d at *
  obtain ⟨o0, o1, o2, o3, o4, o5, ol⟩ := id O
  obtain ⟨p0, p1, p2, p3, p4⟩ := id X
  obtain ⟨q0, q1, q2, q3, q4⟩ := id Y
  go_upto_region 4 with (go_at_call 35; refine (c2 _).mono ?_; rintro _ VV ⟨rfl, hb1⟩; replace O := O.keep hb1; replace R := R.keep hb1; replace X := X.keep hb1; replace Y := Y.keep hb1; replace HB := later HB hb1; clear hb1)
  clear o0 o1 o2 o3 o4 o5 ol p0 p1 p2 p3 p4 q0 q1 q2 q3 q4 c2
  obtain ⟨o0, o1, o2, o3, o4, o5, ol⟩ := id O
  obtain ⟨p0, p1, p2, p3, p4⟩ := id X
  obtain ⟨q0, q1, q2, q3, q4⟩ := id Y
  go_upto_region 5 with (go_at_call 36; refine (c3 _ HB).mono ?_; rintro _ VV ⟨rfl, hb1⟩; replace R := R.keep hb1; replace HB := later HB hb1; clear hb1)
  clear o0 o1 o2 o3 o4 o5 ol p0 p1 p2 p3 p4 q0 q1 q2 q3 q4 c3 O X Y
  have hb1 : Below VV.heap.size VV (VV.alloc (.cells #[.float .f64 v.1, .float .f64 v.2] 46)) := by go_grown
  have Z : Has2 (VV.alloc (.cells #[.float .f64 v.1, .float .f64 v.2] 46)) VV.heap.size (.float .f64 v.1) (.float .f64 v.2) := has2_new _ _ _ _
  replace R := R.keep hb1; replace HB := later HB hb1; clear hb1
  generalize (VV.alloc (.cells #[.float .f64 v.1, .float .f64 v.2] 46)) = V4 at *
  generalize VV.heap.size = z at *
  obtain ⟨y0, y1, y2, y3, y4⟩ := id Z
  go_wp2_with (go_at_call 37; refine (c4 _).mono ?_; rintro _ V5 ⟨rfl, hb1⟩; replace R := R.keep hb1; replace Z := Z.keep hb1; replace HB := later HB hb1; clear hb1; clear y0 y1 y2 y3 y4; obtain ⟨y0, y1, y2, y3, y4⟩ := id Z; obtain ⟨k0, k1, k2, k3, k4⟩ := id R)
  refine bodyPost_ret (v := .tuple #[.agg #[.float .f64 v.1, .float .f64 v.2], .int .i64 0]) (by simp [results, Tryz.results16, go_sem, *]) rfl ⟨rfl, ?_⟩; repeat' (first | (with_reducible exact HB) | (with_reducible refine Below.setCell ?_ ?_ _) | go_size)

end Go.Proofs.YtnchhfhoaepjnaaGreat
