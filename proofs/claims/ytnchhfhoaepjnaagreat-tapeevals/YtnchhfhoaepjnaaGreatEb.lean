/- The series: each closure's step, and the loop over them. -/
import Derived.Test.YtnchhfhoaepjnaaGreatEa
import Derived.Test.YtnchhfhoaepjnaaGreatTl
namespace Go.Proofs.YtnchhfhoaepjnaaGreat
open Go.ChangeShapes Go.WideShapes Go.ChangeAt Go.RowKit

set_option maxHeartbeats 1000000 in
theorem pow_step (o1 o2 r1 r2 t1 t2 : Nat) (m p q s : Nat × Nat) (n : Int) (hn0 : 0 ≤ n) (hn1 : n < 1000)
    (c1 : ∀ w, Calls Tryz.prog 176 #[.int .i64 (n + 1)] w fun e w' => e = .returned (.agg #[.float .f64 m.1, .float .f64 m.2]) ∧ Below w.heap.size w w')
    (c2 : ∀ w, Calls Tryz.prog 72 #[.agg #[.float .f64 r1, .float .f64 r2], .agg #[.float .f64 t1, .float .f64 t2]] w fun e w' => e = .returned (.agg #[.float .f64 p.1, .float .f64 p.2]) ∧ Below w.heap.size w w')
    (c3 : ∀ w, Calls Tryz.prog 73 #[.agg #[.float .f64 p.1, .float .f64 p.2], .agg #[.float .f64 m.1, .float .f64 m.2]] w fun e w' => e = .returned (.agg #[.float .f64 q.1, .float .f64 q.2]) ∧ Below w.heap.size w w')
    (c4 : ∀ w, Calls Tryz.prog 70 #[.agg #[.float .f64 o1, .float .f64 o2], .agg #[.float .f64 q.1, .float .f64 q.2]] w fun e w' => e = .returned (.agg #[.float .f64 s.1, .float .f64 s.2]) ∧ Below w.heap.size w w')
    (a b : Nat) (w : World) (A : Has2 w a (.float .f64 o1) (.float .f64 o2)) (B : Has2 w b (.float .f64 r1) (.float .f64 r2)) :
    Calls Tryz.prog 175 #[.int .i64 n, .agg #[.float .f64 t1, .float .f64 t2], .pointer (some ⟨a, 0, none⟩), .pointer (some ⟨b, 0, none⟩)] w fun e w' => e = .returned (.agg #[.float .f64 s.1, .float .f64 s.2]) ∧ Below w.heap.size w w' := by
  have X : Has2 ((w.alloc (.cells #[.float .f64 t1, .float .f64 t2] 46)).alloc (.cells #[.float .f64 0, .float .f64 0] 46)) w.heap.size (.float .f64 t1) (.float .f64 t2) := ⟨by go_simp, by go_simp, by go_simp, by go_simp, by go_size⟩
  have R : Has2 ((w.alloc (.cells #[.float .f64 t1, .float .f64 t2] 46)).alloc (.cells #[.float .f64 0, .float .f64 0] 46)) (w.heap.size + 1) (.float .f64 0) (.float .f64 0) := ⟨by go_simp, by go_simp, by go_simp, by go_simp, by go_size⟩
  have HB : Below w.heap.size w ((w.alloc (.cells #[.float .f64 t1, .float .f64 t2] 46)).alloc (.cells #[.float .f64 0, .float .f64 0] 46)) := by go_grown
  replace A := A.keep HB
  replace B := B.keep HB
  go_enter Tryz.func175, Tryz.ntmps175
  go_upto_region 4 with fail
  generalize ((w.alloc (.cells #[.float .f64 t1, .float .f64 t2] 46)).alloc (.cells #[.float .f64 0, .float .f64 0] 46)) = V1 at *
  have ka0 := fun n : Behind V1 => n.cell A.1 A.2.2.2.2
  have ka1 := fun n : Behind V1 => n.cell A.2.1 A.2.2.2.2
  have kb0 := fun n : Behind V1 => n.cell B.1 B.2.2.2.2
  have kb1 := fun n : Behind V1 => n.cell B.2.1 B.2.2.2.2
  have kx0 := fun n : Behind V1 => n.cell X.1 X.2.2.2.2
  have kx1 := fun n : Behind V1 => n.cell X.2.1 X.2.2.2.2
  refine tail_behind 9 (by kernel_rfl) (by kernel_rfl) ?_
  simp only [List.take_succ_cons, List.take_zero, List.drop_succ_cons, List.drop_zero]
  repeat (go_big_quiet_step (first
    | (go_at_call 176; with_reducible refine Behind.call (c1 _))
    | (go_at_call 72; with_reducible refine Behind.call (c2 _))
    | (go_at_call 73; with_reducible refine Behind.call (c3 _))
    | (go_at_call 70; with_reducible refine Behind.call (c4 _))))
  refine wpQuiet_nil ?_
  rintro _ ⟨m', rfl⟩
  obtain ⟨W, hb1⟩ := m'
  dsimp only
  clear kx0 kx1 ka0 ka1 kb0 kb1 A B
  replace R := R.keep hb1; replace HB := later HB hb1; clear hb1
  obtain ⟨k0, k1, k2, k3, k4⟩ := id R
  go_wp2_with fail
  refine bodyPost_ret (v := .agg #[.float .f64 s.1, .float .f64 s.2]) (by simp [results, Tryz.results175, go_sem, *]) rfl ⟨rfl, ?_⟩
  repeat' (first | (with_reducible exact HB) | (with_reducible refine Below.setCell ?_ ?_ _) | go_size)

set_option maxHeartbeats 1000000 in
theorem odd_step (o1 o2 r1 r2 t1 t2 : Nat) (m p q s : Nat × Nat) (n : Int) (hn0 : 0 ≤ n) (hn1 : n < 1000)
    (c1 : ∀ w, Calls Tryz.prog 176 #[.int .i64 (2 * n + 1)] w fun e w' => e = .returned (.agg #[.float .f64 m.1, .float .f64 m.2]) ∧ Below w.heap.size w w')
    (c2 : ∀ w, Calls Tryz.prog 73 #[.agg #[.float .f64 o1, .float .f64 o2], .agg #[.float .f64 m.1, .float .f64 m.2]] w fun e w' => e = .returned (.agg #[.float .f64 q.1, .float .f64 q.2]) ∧ Below w.heap.size w w')
    (c3 : ∀ w, Calls Tryz.prog 72 #[.agg #[.float .f64 r1, .float .f64 r2], .agg #[.float .f64 t1, .float .f64 t2]] w fun e w' => e = .returned (.agg #[.float .f64 p.1, .float .f64 p.2]) ∧ Below w.heap.size w w')
    (c4 : ∀ w, Calls Tryz.prog 70 #[.agg #[.float .f64 q.1, .float .f64 q.2], .agg #[.float .f64 p.1, .float .f64 p.2]] w fun e w' => e = .returned (.agg #[.float .f64 s.1, .float .f64 s.2]) ∧ Below w.heap.size w w')
    (a b : Nat) (w : World) (A : Has2 w a (.float .f64 o1) (.float .f64 o2)) (B : Has2 w b (.float .f64 r1) (.float .f64 r2)) :
    Calls Tryz.prog 208 #[.int .i64 n, .agg #[.float .f64 t1, .float .f64 t2], .pointer (some ⟨a, 0, none⟩), .pointer (some ⟨b, 0, none⟩)] w fun e w' => e = .returned (.agg #[.float .f64 s.1, .float .f64 s.2]) ∧ Below w.heap.size w w' := by
  have X : Has2 ((w.alloc (.cells #[.float .f64 t1, .float .f64 t2] 46)).alloc (.cells #[.float .f64 0, .float .f64 0] 46)) w.heap.size (.float .f64 t1) (.float .f64 t2) := ⟨by go_simp, by go_simp, by go_simp, by go_simp, by go_size⟩
  have R : Has2 ((w.alloc (.cells #[.float .f64 t1, .float .f64 t2] 46)).alloc (.cells #[.float .f64 0, .float .f64 0] 46)) (w.heap.size + 1) (.float .f64 0) (.float .f64 0) := ⟨by go_simp, by go_simp, by go_simp, by go_simp, by go_size⟩
  have HB : Below w.heap.size w ((w.alloc (.cells #[.float .f64 t1, .float .f64 t2] 46)).alloc (.cells #[.float .f64 0, .float .f64 0] 46)) := by go_grown
  replace A := A.keep HB
  replace B := B.keep HB
  go_enter Tryz.func208, Tryz.ntmps208
  go_upto_region 4 with fail
  generalize ((w.alloc (.cells #[.float .f64 t1, .float .f64 t2] 46)).alloc (.cells #[.float .f64 0, .float .f64 0] 46)) = V1 at *
  have ka0 := fun n : Behind V1 => n.cell A.1 A.2.2.2.2
  have ka1 := fun n : Behind V1 => n.cell A.2.1 A.2.2.2.2
  have kb0 := fun n : Behind V1 => n.cell B.1 B.2.2.2.2
  have kb1 := fun n : Behind V1 => n.cell B.2.1 B.2.2.2.2
  have kx0 := fun n : Behind V1 => n.cell X.1 X.2.2.2.2
  have kx1 := fun n : Behind V1 => n.cell X.2.1 X.2.2.2.2
  refine tail_behind 10 (by kernel_rfl) (by kernel_rfl) ?_
  simp only [List.take_succ_cons, List.take_zero, List.drop_succ_cons, List.drop_zero]
  repeat (go_big_quiet_step (first
    | (go_at_call 176; with_reducible refine Behind.call (c1 _))
    | (go_at_call 73; with_reducible refine Behind.call (c2 _))
    | (go_at_call 72; with_reducible refine Behind.call (c3 _))
    | (go_at_call 70; with_reducible refine Behind.call (c4 _))))
  refine wpQuiet_nil ?_
  rintro _ ⟨m', rfl⟩
  obtain ⟨W, hb1⟩ := m'
  dsimp only
  clear kx0 kx1 ka0 ka1 kb0 kb1 A B
  replace R := R.keep hb1; replace HB := later HB hb1; clear hb1
  obtain ⟨k0, k1, k2, k3, k4⟩ := id R
  go_wp2_with fail
  refine bodyPost_ret (v := .agg #[.float .f64 s.1, .float .f64 s.2]) (by simp [results, Tryz.results208, go_sem, *]) rfl ⟨rfl, ?_⟩
  repeat' (first | (with_reducible exact HB) | (with_reducible refine Below.setCell ?_ ?_ _) | go_size)

set_option maxHeartbeats 1000000 in
theorem turn_step (o1 o2 r1 r2 t1 t2 : Nat) (m p q s : Nat × Nat) (n f : Int) (hn0 : 0 ≤ n) (hn1 : n < 1000) (hf0 : 0 ≤ f) (hf1 : f < 1000)
    (c1 : ∀ w, Calls Tryz.prog 176 #[.int .i64 ((2 * n + f + 1) * (2 * n + f + 2))] w fun e w' => e = .returned (.agg #[.float .f64 m.1, .float .f64 m.2]) ∧ Below w.heap.size w w')
    (c2 : ∀ w, Calls Tryz.prog 72 #[.agg #[.float .f64 r1, .float .f64 r2], .agg #[.float .f64 t1, .float .f64 t2]] w fun e w' => e = .returned (.agg #[.float .f64 p.1, .float .f64 p.2]) ∧ Below w.heap.size w w')
    (c3 : ∀ w, Calls Tryz.prog 73 #[.agg #[.float .f64 p.1, .float .f64 p.2], .agg #[.float .f64 m.1, .float .f64 m.2]] w fun e w' => e = .returned (.agg #[.float .f64 q.1, .float .f64 q.2]) ∧ Below w.heap.size w w')
    (c4 : ∀ w, Calls Tryz.prog 71 #[.agg #[.float .f64 o1, .float .f64 o2], .agg #[.float .f64 q.1, .float .f64 q.2]] w fun e w' => e = .returned (.agg #[.float .f64 s.1, .float .f64 s.2]) ∧ Below w.heap.size w w')
    (z a b : Nat) (w : World) (Z : w.cell? ⟨z, 0, none⟩ = some (.int .i64 f)) (Zl : z < w.heap.size) (hm : 0 ≤ (2 * n + f + 1) * (2 * n + f + 2) ∧ (2 * n + f + 1) * (2 * n + f + 2) < 100000000) (A : Has2 w a (.float .f64 o1) (.float .f64 o2)) (B : Has2 w b (.float .f64 r1) (.float .f64 r2)) :
    Calls Tryz.prog 222 #[.int .i64 n, .agg #[.float .f64 t1, .float .f64 t2], .pointer (some ⟨z, 0, none⟩), .pointer (some ⟨a, 0, none⟩), .pointer (some ⟨b, 0, none⟩)] w fun e w' => e = .returned (.agg #[.float .f64 s.1, .float .f64 s.2]) ∧ Below w.heap.size w w' := by
  have X : Has2 ((w.alloc (.cells #[.float .f64 t1, .float .f64 t2] 46)).alloc (.cells #[.float .f64 0, .float .f64 0] 46)) w.heap.size (.float .f64 t1) (.float .f64 t2) := ⟨by go_simp, by go_simp, by go_simp, by go_simp, by go_size⟩
  have R : Has2 ((w.alloc (.cells #[.float .f64 t1, .float .f64 t2] 46)).alloc (.cells #[.float .f64 0, .float .f64 0] 46)) (w.heap.size + 1) (.float .f64 0) (.float .f64 0) := ⟨by go_simp, by go_simp, by go_simp, by go_simp, by go_size⟩
  have HB : Below w.heap.size w ((w.alloc (.cells #[.float .f64 t1, .float .f64 t2] 46)).alloc (.cells #[.float .f64 0, .float .f64 0] 46)) := by go_grown
  replace A := A.keep HB
  replace B := B.keep HB
  replace Z := (HB.cell Zl).trans Z
  go_enter Tryz.func222, Tryz.ntmps222
  go_upto_region 7 with
    (go_at_call 176; refine (c1 _).mono ?_; rintro _ V1 ⟨rfl, hb1⟩
     replace X := X.keep hb1; replace R := R.keep hb1; replace A := A.keep hb1; replace B := B.keep hb1; replace HB := later HB hb1; clear hb1)
  have D : Has2 (V1.alloc (.cells #[.float .f64 m.1, .float .f64 m.2] 46)) V1.heap.size (.float .f64 m.1) (.float .f64 m.2) := ⟨by go_simp, by go_simp, by go_simp, by go_simp, by go_size⟩
  have hb1 : Below V1.heap.size V1 (V1.alloc (.cells #[.float .f64 m.1, .float .f64 m.2] 46)) := by go_grown
  replace X := X.keep hb1; replace R := R.keep hb1; replace A := A.keep hb1; replace B := B.keep hb1; replace HB := later HB hb1; clear hb1
  clear Z Zl hm c1
  generalize V1.alloc (.cells #[.float .f64 m.1, .float .f64 m.2] 46) = V2 at *
  generalize V1.heap.size = d at *
  have kd0 := fun n : Behind V2 => n.cell D.1 D.2.2.2.2
  have kd1 := fun n : Behind V2 => n.cell D.2.1 D.2.2.2.2
  have ka0 := fun n : Behind V2 => n.cell A.1 A.2.2.2.2
  have ka1 := fun n : Behind V2 => n.cell A.2.1 A.2.2.2.2
  have kb0 := fun n : Behind V2 => n.cell B.1 B.2.2.2.2
  have kb1 := fun n : Behind V2 => n.cell B.2.1 B.2.2.2.2
  have kx0 := fun n : Behind V2 => n.cell X.1 X.2.2.2.2
  have kx1 := fun n : Behind V2 => n.cell X.2.1 X.2.2.2.2
  refine tail_behind 7 (by kernel_rfl) (by kernel_rfl) ?_
  simp only [List.take_succ_cons, List.take_zero, List.drop_succ_cons, List.drop_zero]
  repeat (go_big_quiet_step (first
    | (go_at_call 72; with_reducible refine Behind.call (c2 _))
    | (go_at_call 73; with_reducible refine Behind.call (c3 _))
    | (go_at_call 71; with_reducible refine Behind.call (c4 _))))
  refine wpQuiet_nil ?_
  rintro _ ⟨m', rfl⟩
  obtain ⟨W, hb1⟩ := m'
  dsimp only
  clear kx0 kx1 ka0 ka1 kb0 kb1 kd0 kd1 A B
  replace R := R.keep hb1; replace HB := later HB hb1; clear hb1
  obtain ⟨k0, k1, k2, k3, k4⟩ := id R
  go_wp2_with fail
  refine bodyPost_ret (v := .agg #[.float .f64 s.1, .float .f64 s.2]) (by simp [results, Tryz.results222, go_sem, *]) rfl ⟨rfl, ?_⟩
  repeat' (first | (with_reducible exact HB) | (with_reducible refine Below.setCell ?_ ?_ _) | go_size)

end Go.Proofs.YtnchhfhoaepjnaaGreat
