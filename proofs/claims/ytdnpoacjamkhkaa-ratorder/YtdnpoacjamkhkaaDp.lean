/- The walks of the statements on quotients: RatMakes, RatCounts, RatPowers. A quotient as an argument: opened and shut. -/
import Derived.Test.YtdnpoacjamkhkaaDn
import Derived.ChangeSame
import Derived.JoinedOf
import Derived.JoinedAt
import Derived.RowKit3
namespace Go.Proofs.Ytdnpoacjamkhkaa
open Go.ChangeShapes Go.WideShapes Go.ChangeAt Go.RowKit

set_option maxHeartbeats 4000000 in
set_option maxRecDepth 4000 in
theorem makes_core (aN aD n d x y e : Int) (b : Bool)
    (c1 : ∀ W, Calls Try.prog 10 #[.int .i64 n, .int .i64 d] W fun r w' => r = .returned (.tuple #[.agg #[.int .i64 x, .int .i64 y], .int .i64 e]) ∧ Below W.heap.size W w')
    (c2 : ∀ W, Calls Try.prog 11 #[.int .i64 n, .int .i64 d] W fun r w' => r = .returned (.tuple #[.agg #[.int .i64 x, .int .i64 y], .int .i64 e]) ∧ Below W.heap.size W w')
    (c3 : ∀ W, Calls Try.prog 12 #[.agg #[.int .i64 aN, .int .i64 aD]] W fun r w' => r = .returned (.bool b) ∧ Below W.heap.size W w')
    (c4 : ∀ W, Calls Try.prog 13 #[.agg #[.int .i64 aN, .int .i64 aD]] W fun r w' => r = .returned (.bool b) ∧ Below W.heap.size W w') (w : World) :
    Calls Try.prog 3 #[.agg #[.int .i64 aN, .int .i64 aD], .int .i64 n, .int .i64 d] w fun r w' => r = .returned (.bool true) ∧ Below w.heap.size w w' := by
  have HB : Below w.heap.size w (w.alloc (.cells #[.int .i64 aN, .int .i64 aD] 23)) := by go_grown
  have X : Has2 (w.alloc (.cells #[.int .i64 aN, .int .i64 aD] 23)) (w.heap.size) (.int .i64 aN) (.int .i64 aD) := ⟨by go_simp, by go_simp, by go_simp, by go_simp, by go_size⟩
  go_enter Try.func3, Try.ntmps3
  go_upto_region 1 with fail
  generalize (w.alloc (.cells #[.int .i64 aN, .int .i64 aD] 23)) = V0 at *
  obtain ⟨qX0, qX1, qX2, qX3, qX4⟩ := id X
  go_upto_region 2 with (go_at_call 10; (with_reducible refine (c1 _).mono ?_); rintro _ V1 ⟨rfl, hb1⟩; replace X := X.keep hb1; replace HB := later HB hb1; clear hb1; clear qX0 qX1 qX2 qX3 qX4; obtain ⟨qX0, qX1, qX2, qX3, qX4⟩ := id X)
  clear qX0 qX1 qX2 qX3 qX4
  have nXP : Hid ((w.heap.size) < V1.heap.size) := X.lt
  replace X := X.keep (grewW V1 (.cells #[.int .i64 x, .int .i64 y] 23))
  replace HB := later HB (grewW V1 (.cells #[.int .i64 x, .int .i64 y] 23))
  have P := has2_new V1 (.int .i64 x) (.int .i64 y) 23
  generalize V1.alloc (.cells #[.int .i64 x, .int .i64 y] 23) = V2 at *
  generalize V1.heap.size = bP at *
  obtain ⟨qX0, qX1, qX2, qX3, qX4⟩ := id X; obtain ⟨qP0, qP1, qP2, qP3, qP4⟩ := id P
  go_upto_region 3 with (go_at_call 11; (with_reducible refine (c2 _).mono ?_); rintro _ V3 ⟨rfl, hb1⟩; replace X := X.keep hb1; replace P := P.keep hb1; replace HB := later HB hb1; clear hb1; clear qX0 qX1 qX2 qX3 qX4 qP0 qP1 qP2 qP3 qP4; obtain ⟨qX0, qX1, qX2, qX3, qX4⟩ := id X; obtain ⟨qP0, qP1, qP2, qP3, qP4⟩ := id P)
  clear qX0 qX1 qX2 qX3 qX4 qP0 qP1 qP2 qP3 qP4
  have nXQ : Hid ((w.heap.size) < V3.heap.size) := X.lt
  have nPQ : Hid (bP < V3.heap.size) := P.lt
  replace X := X.keep (grewW V3 (.cells #[.int .i64 x, .int .i64 y] 23))
  replace P := P.keep (grewW V3 (.cells #[.int .i64 x, .int .i64 y] 23))
  replace HB := later HB (grewW V3 (.cells #[.int .i64 x, .int .i64 y] 23))
  have Q := has2_new V3 (.int .i64 x) (.int .i64 y) 23
  generalize V3.alloc (.cells #[.int .i64 x, .int .i64 y] 23) = V4 at *
  generalize V3.heap.size = bQ at *
  have kX0 := fun n : Behind V4 => n.cell X.1 X.2.2.2.2
  have kX1 := fun n : Behind V4 => n.cell X.2.1 X.2.2.2.2
  have kP0 := fun n : Behind V4 => n.cell P.1 P.2.2.2.2
  have kP1 := fun n : Behind V4 => n.cell P.2.1 P.2.2.2.2
  have kQ0 := fun n : Behind V4 => n.cell Q.1 Q.2.2.2.2
  have kQ1 := fun n : Behind V4 => n.cell Q.2.1 Q.2.2.2.2
  refine region_behind (by kernel_rfl) (by kernel_rfl) ?_
  repeat (go_big_quiet_step (first | (go_at_call 12; with_reducible refine Behind.call (c3 _)) | (go_at_call 13; with_reducible refine Behind.call (c4 _))))
  refine wpQuiet_nil ?_
  rintro _ ⟨m', rfl⟩
  obtain ⟨V5, hb1⟩ := m'
  dsimp only
  clear kX0 kX1 kP0 kP1 kQ0 kQ1
  replace X := X.keep hb1
  replace P := P.keep hb1
  replace Q := Q.keep hb1
  replace HB := later HB hb1
  clear hb1
  go_wp2_with fail
  go_ret
  exact ⟨by simp, HB⟩

set_option maxHeartbeats 4000000 in
set_option maxRecDepth 4000 in
theorem powers_core (aN aD bN bD n x y e k m : Int)
    (c1 : ∀ W, Calls Try.prog 22 #[.agg #[.int .i64 aN, .int .i64 aD], .int .i64 n] W fun r w' => r = .returned (.tuple #[.agg #[.int .i64 x, .int .i64 y], .int .i64 e]) ∧ Below W.heap.size W w')
    (c2 : ∀ W, Calls Try.prog 23 #[.agg #[.int .i64 aN, .int .i64 aD], .int .i64 n] W fun r w' => r = .returned (.tuple #[.agg #[.int .i64 x, .int .i64 y], .int .i64 e]) ∧ Below W.heap.size W w')
    (c3 : ∀ W, Calls Try.prog 24 #[.agg #[.int .i64 aN, .int .i64 aD], .agg #[.int .i64 bN, .int .i64 bD]] W fun r w' => r = .returned (.int .i64 k) ∧ Below W.heap.size W w')
    (c4 : ∀ W, Calls Try.prog 25 #[.agg #[.int .i64 aN, .int .i64 aD], .agg #[.int .i64 bN, .int .i64 bD]] W fun r w' => r = .returned (.int .i64 k) ∧ Below W.heap.size W w')
    (c5 : ∀ W, Calls Try.prog 24 #[.agg #[.int .i64 bN, .int .i64 bD], .agg #[.int .i64 aN, .int .i64 aD]] W fun r w' => r = .returned (.int .i64 m) ∧ Below W.heap.size W w')
    (c6 : ∀ W, Calls Try.prog 25 #[.agg #[.int .i64 bN, .int .i64 bD], .agg #[.int .i64 aN, .int .i64 aD]] W fun r w' => r = .returned (.int .i64 m) ∧ Below W.heap.size W w') (w : World) :
    Calls Try.prog 5 #[.agg #[.int .i64 aN, .int .i64 aD], .agg #[.int .i64 bN, .int .i64 bD], .int .i64 n] w fun r w' => r = .returned (.bool true) ∧ Below w.heap.size w w' := by
  have HB : Below w.heap.size w ((w.alloc (.cells #[.int .i64 aN, .int .i64 aD] 23)).alloc (.cells #[.int .i64 bN, .int .i64 bD] 23)) := by go_grown
  have X : Has2 ((w.alloc (.cells #[.int .i64 aN, .int .i64 aD] 23)).alloc (.cells #[.int .i64 bN, .int .i64 bD] 23)) (w.heap.size) (.int .i64 aN) (.int .i64 aD) := ⟨by go_simp, by go_simp, by go_simp, by go_simp, by go_size⟩
  have Y : Has2 ((w.alloc (.cells #[.int .i64 aN, .int .i64 aD] 23)).alloc (.cells #[.int .i64 bN, .int .i64 bD] 23)) (w.heap.size + 1) (.int .i64 bN) (.int .i64 bD) := ⟨by go_simp, by go_simp, by go_simp, by go_simp, by go_size⟩
  go_enter Try.func5, Try.ntmps5
  go_upto_region 1 with fail
  generalize ((w.alloc (.cells #[.int .i64 aN, .int .i64 aD] 23)).alloc (.cells #[.int .i64 bN, .int .i64 bD] 23)) = V0 at *
  obtain ⟨qX0, qX1, qX2, qX3, qX4⟩ := id X; obtain ⟨qY0, qY1, qY2, qY3, qY4⟩ := id Y
  go_upto_region 2 with (go_at_call 22; (with_reducible refine (c1 _).mono ?_); rintro _ V1 ⟨rfl, hb1⟩; replace X := X.keep hb1; replace Y := Y.keep hb1; replace HB := later HB hb1; clear hb1; clear qX0 qX1 qX2 qX3 qX4 qY0 qY1 qY2 qY3 qY4; obtain ⟨qX0, qX1, qX2, qX3, qX4⟩ := id X; obtain ⟨qY0, qY1, qY2, qY3, qY4⟩ := id Y)
  clear qX0 qX1 qX2 qX3 qX4 qY0 qY1 qY2 qY3 qY4
  have nXP : Hid ((w.heap.size) < V1.heap.size) := X.lt
  have nYP : Hid ((w.heap.size + 1) < V1.heap.size) := Y.lt
  replace X := X.keep (grewW V1 (.cells #[.int .i64 x, .int .i64 y] 23))
  replace Y := Y.keep (grewW V1 (.cells #[.int .i64 x, .int .i64 y] 23))
  replace HB := later HB (grewW V1 (.cells #[.int .i64 x, .int .i64 y] 23))
  have P := has2_new V1 (.int .i64 x) (.int .i64 y) 23
  generalize V1.alloc (.cells #[.int .i64 x, .int .i64 y] 23) = V2 at *
  generalize V1.heap.size = bP at *
  obtain ⟨qX0, qX1, qX2, qX3, qX4⟩ := id X; obtain ⟨qY0, qY1, qY2, qY3, qY4⟩ := id Y; obtain ⟨qP0, qP1, qP2, qP3, qP4⟩ := id P
  go_upto_region 3 with (go_at_call 23; (with_reducible refine (c2 _).mono ?_); rintro _ V3 ⟨rfl, hb1⟩; replace X := X.keep hb1; replace Y := Y.keep hb1; replace P := P.keep hb1; replace HB := later HB hb1; clear hb1; clear qX0 qX1 qX2 qX3 qX4 qY0 qY1 qY2 qY3 qY4 qP0 qP1 qP2 qP3 qP4; obtain ⟨qX0, qX1, qX2, qX3, qX4⟩ := id X; obtain ⟨qY0, qY1, qY2, qY3, qY4⟩ := id Y; obtain ⟨qP0, qP1, qP2, qP3, qP4⟩ := id P)
  clear qX0 qX1 qX2 qX3 qX4 qY0 qY1 qY2 qY3 qY4 qP0 qP1 qP2 qP3 qP4
  have nXQ : Hid ((w.heap.size) < V3.heap.size) := X.lt
  have nYQ : Hid ((w.heap.size + 1) < V3.heap.size) := Y.lt
  have nPQ : Hid (bP < V3.heap.size) := P.lt
  replace X := X.keep (grewW V3 (.cells #[.int .i64 x, .int .i64 y] 23))
  replace Y := Y.keep (grewW V3 (.cells #[.int .i64 x, .int .i64 y] 23))
  replace P := P.keep (grewW V3 (.cells #[.int .i64 x, .int .i64 y] 23))
  replace HB := later HB (grewW V3 (.cells #[.int .i64 x, .int .i64 y] 23))
  have Q := has2_new V3 (.int .i64 x) (.int .i64 y) 23
  generalize V3.alloc (.cells #[.int .i64 x, .int .i64 y] 23) = V4 at *
  generalize V3.heap.size = bQ at *
  have kX0 := fun n : Behind V4 => n.cell X.1 X.2.2.2.2
  have kX1 := fun n : Behind V4 => n.cell X.2.1 X.2.2.2.2
  have kY0 := fun n : Behind V4 => n.cell Y.1 Y.2.2.2.2
  have kY1 := fun n : Behind V4 => n.cell Y.2.1 Y.2.2.2.2
  have kP0 := fun n : Behind V4 => n.cell P.1 P.2.2.2.2
  have kP1 := fun n : Behind V4 => n.cell P.2.1 P.2.2.2.2
  have kQ0 := fun n : Behind V4 => n.cell Q.1 Q.2.2.2.2
  have kQ1 := fun n : Behind V4 => n.cell Q.2.1 Q.2.2.2.2
  refine region_behind (by kernel_rfl) (by kernel_rfl) ?_
  repeat (go_big_quiet_step (first | (go_at_call_of 24 (Value.agg #[.int .i64 aN, .int .i64 aD]); with_reducible refine Behind.call (c3 _)) | (go_at_call_of 25 (Value.agg #[.int .i64 aN, .int .i64 aD]); with_reducible refine Behind.call (c4 _)) | (go_at_call 24; with_reducible refine Behind.call (c5 _)) | (go_at_call 25; with_reducible refine Behind.call (c6 _))))
  refine wpQuiet_nil ?_
  rintro _ ⟨m', rfl⟩
  obtain ⟨V5, hb1⟩ := m'
  dsimp only
  clear kX0 kX1 kY0 kY1 kP0 kP1 kQ0 kQ1
  replace X := X.keep hb1
  replace Y := Y.keep hb1
  replace P := P.keep hb1
  replace Q := Q.keep hb1
  replace HB := later HB hb1
  clear hb1
  go_wp2_with fail
  go_ret
  exact ⟨by simp, HB⟩

set_option maxHeartbeats 4000000 in
set_option maxRecDepth 4000 in
theorem counts_core (aN aD bN bD x y e u v g s t h p q i : Int)
    (c1 : ∀ W, Calls Try.prog 14 #[.agg #[.int .i64 aN, .int .i64 aD], .agg #[.int .i64 bN, .int .i64 bD]] W fun r w' => r = .returned (.tuple #[.agg #[.int .i64 x, .int .i64 y], .int .i64 e]) ∧ Below W.heap.size W w')
    (c2 : ∀ W, Calls Try.prog 15 #[.agg #[.int .i64 aN, .int .i64 aD], .agg #[.int .i64 bN, .int .i64 bD]] W fun r w' => r = .returned (.tuple #[.agg #[.int .i64 x, .int .i64 y], .int .i64 e]) ∧ Below W.heap.size W w')
    (c3 : ∀ W, Calls Try.prog 16 #[.agg #[.int .i64 aN, .int .i64 aD], .agg #[.int .i64 bN, .int .i64 bD]] W fun r w' => r = .returned (.tuple #[.agg #[.int .i64 u, .int .i64 v], .int .i64 g]) ∧ Below W.heap.size W w')
    (c4 : ∀ W, Calls Try.prog 17 #[.agg #[.int .i64 aN, .int .i64 aD], .agg #[.int .i64 bN, .int .i64 bD]] W fun r w' => r = .returned (.tuple #[.agg #[.int .i64 u, .int .i64 v], .int .i64 g]) ∧ Below W.heap.size W w')
    (c5 : ∀ W, Calls Try.prog 18 #[.agg #[.int .i64 aN, .int .i64 aD], .agg #[.int .i64 bN, .int .i64 bD]] W fun r w' => r = .returned (.tuple #[.agg #[.int .i64 s, .int .i64 t], .int .i64 h]) ∧ Below W.heap.size W w')
    (c6 : ∀ W, Calls Try.prog 19 #[.agg #[.int .i64 aN, .int .i64 aD], .agg #[.int .i64 bN, .int .i64 bD]] W fun r w' => r = .returned (.tuple #[.agg #[.int .i64 s, .int .i64 t], .int .i64 h]) ∧ Below W.heap.size W w')
    (c7 : ∀ W, Calls Try.prog 20 #[.agg #[.int .i64 aN, .int .i64 aD], .agg #[.int .i64 bN, .int .i64 bD]] W fun r w' => r = .returned (.tuple #[.agg #[.int .i64 p, .int .i64 q], .int .i64 i]) ∧ Below W.heap.size W w')
    (c8 : ∀ W, Calls Try.prog 21 #[.agg #[.int .i64 aN, .int .i64 aD], .agg #[.int .i64 bN, .int .i64 bD]] W fun r w' => r = .returned (.tuple #[.agg #[.int .i64 p, .int .i64 q], .int .i64 i]) ∧ Below W.heap.size W w') (w : World) :
    Calls Try.prog 4 #[.agg #[.int .i64 aN, .int .i64 aD], .agg #[.int .i64 bN, .int .i64 bD]] w fun r w' => r = .returned (.bool true) ∧ Below w.heap.size w w' := by
  have HB : Below w.heap.size w ((w.alloc (.cells #[.int .i64 aN, .int .i64 aD] 23)).alloc (.cells #[.int .i64 bN, .int .i64 bD] 23)) := by go_grown
  have X : Has2 ((w.alloc (.cells #[.int .i64 aN, .int .i64 aD] 23)).alloc (.cells #[.int .i64 bN, .int .i64 bD] 23)) (w.heap.size) (.int .i64 aN) (.int .i64 aD) := ⟨by go_simp, by go_simp, by go_simp, by go_simp, by go_size⟩
  have Y : Has2 ((w.alloc (.cells #[.int .i64 aN, .int .i64 aD] 23)).alloc (.cells #[.int .i64 bN, .int .i64 bD] 23)) (w.heap.size + 1) (.int .i64 bN) (.int .i64 bD) := ⟨by go_simp, by go_simp, by go_simp, by go_simp, by go_size⟩
  go_enter Try.func4, Try.ntmps4
  go_upto_region 1 with fail
  generalize ((w.alloc (.cells #[.int .i64 aN, .int .i64 aD] 23)).alloc (.cells #[.int .i64 bN, .int .i64 bD] 23)) = V0 at *
  obtain ⟨qX0, qX1, qX2, qX3, qX4⟩ := id X; obtain ⟨qY0, qY1, qY2, qY3, qY4⟩ := id Y
  go_upto_region 2 with (go_at_call 14; (with_reducible refine (c1 _).mono ?_); rintro _ V1 ⟨rfl, hb1⟩; replace X := X.keep hb1; replace Y := Y.keep hb1; replace HB := later HB hb1; clear hb1; clear qX0 qX1 qX2 qX3 qX4 qY0 qY1 qY2 qY3 qY4; obtain ⟨qX0, qX1, qX2, qX3, qX4⟩ := id X; obtain ⟨qY0, qY1, qY2, qY3, qY4⟩ := id Y)
  clear qX0 qX1 qX2 qX3 qX4 qY0 qY1 qY2 qY3 qY4
  have nXP : Hid ((w.heap.size) < V1.heap.size) := X.lt
  have nYP : Hid ((w.heap.size + 1) < V1.heap.size) := Y.lt
  replace X := X.keep (grewW V1 (.cells #[.int .i64 x, .int .i64 y] 23))
  replace Y := Y.keep (grewW V1 (.cells #[.int .i64 x, .int .i64 y] 23))
  replace HB := later HB (grewW V1 (.cells #[.int .i64 x, .int .i64 y] 23))
  have P := has2_new V1 (.int .i64 x) (.int .i64 y) 23
  generalize V1.alloc (.cells #[.int .i64 x, .int .i64 y] 23) = V2 at *
  generalize V1.heap.size = bP at *
  obtain ⟨qX0, qX1, qX2, qX3, qX4⟩ := id X; obtain ⟨qY0, qY1, qY2, qY3, qY4⟩ := id Y; obtain ⟨qP0, qP1, qP2, qP3, qP4⟩ := id P
  go_upto_region 3 with (go_at_call 15; (with_reducible refine (c2 _).mono ?_); rintro _ V3 ⟨rfl, hb1⟩; replace X := X.keep hb1; replace Y := Y.keep hb1; replace P := P.keep hb1; replace HB := later HB hb1; clear hb1; clear qX0 qX1 qX2 qX3 qX4 qY0 qY1 qY2 qY3 qY4 qP0 qP1 qP2 qP3 qP4; obtain ⟨qX0, qX1, qX2, qX3, qX4⟩ := id X; obtain ⟨qY0, qY1, qY2, qY3, qY4⟩ := id Y; obtain ⟨qP0, qP1, qP2, qP3, qP4⟩ := id P)
  clear qX0 qX1 qX2 qX3 qX4 qY0 qY1 qY2 qY3 qY4 qP0 qP1 qP2 qP3 qP4
  have nXQ : Hid ((w.heap.size) < V3.heap.size) := X.lt
  have nYQ : Hid ((w.heap.size + 1) < V3.heap.size) := Y.lt
  have nPQ : Hid (bP < V3.heap.size) := P.lt
  replace X := X.keep (grewW V3 (.cells #[.int .i64 x, .int .i64 y] 23))
  replace Y := Y.keep (grewW V3 (.cells #[.int .i64 x, .int .i64 y] 23))
  replace P := P.keep (grewW V3 (.cells #[.int .i64 x, .int .i64 y] 23))
  replace HB := later HB (grewW V3 (.cells #[.int .i64 x, .int .i64 y] 23))
  have Q := has2_new V3 (.int .i64 x) (.int .i64 y) 23
  generalize V3.alloc (.cells #[.int .i64 x, .int .i64 y] 23) = V4 at *
  generalize V3.heap.size = bQ at *
  obtain ⟨qX0, qX1, qX2, qX3, qX4⟩ := id X; obtain ⟨qY0, qY1, qY2, qY3, qY4⟩ := id Y; obtain ⟨qP0, qP1, qP2, qP3, qP4⟩ := id P; obtain ⟨qQ0, qQ1, qQ2, qQ3, qQ4⟩ := id Q
  go_upto_region 4 with (go_at_call 16; (with_reducible refine (c3 _).mono ?_); rintro _ V5 ⟨rfl, hb1⟩; replace X := X.keep hb1; replace Y := Y.keep hb1; replace P := P.keep hb1; replace Q := Q.keep hb1; replace HB := later HB hb1; clear hb1; clear qX0 qX1 qX2 qX3 qX4 qY0 qY1 qY2 qY3 qY4 qP0 qP1 qP2 qP3 qP4 qQ0 qQ1 qQ2 qQ3 qQ4; obtain ⟨qX0, qX1, qX2, qX3, qX4⟩ := id X; obtain ⟨qY0, qY1, qY2, qY3, qY4⟩ := id Y; obtain ⟨qP0, qP1, qP2, qP3, qP4⟩ := id P; obtain ⟨qQ0, qQ1, qQ2, qQ3, qQ4⟩ := id Q)
  clear qX0 qX1 qX2 qX3 qX4 qY0 qY1 qY2 qY3 qY4 qP0 qP1 qP2 qP3 qP4 qQ0 qQ1 qQ2 qQ3 qQ4
  have nXK : Hid ((w.heap.size) < V5.heap.size) := X.lt
  have nYK : Hid ((w.heap.size + 1) < V5.heap.size) := Y.lt
  have nPK : Hid (bP < V5.heap.size) := P.lt
  have nQK : Hid (bQ < V5.heap.size) := Q.lt
  replace X := X.keep (grewW V5 (.cells #[.int .i64 u, .int .i64 v] 23))
  replace Y := Y.keep (grewW V5 (.cells #[.int .i64 u, .int .i64 v] 23))
  replace P := P.keep (grewW V5 (.cells #[.int .i64 u, .int .i64 v] 23))
  replace Q := Q.keep (grewW V5 (.cells #[.int .i64 u, .int .i64 v] 23))
  replace HB := later HB (grewW V5 (.cells #[.int .i64 u, .int .i64 v] 23))
  have K := has2_new V5 (.int .i64 u) (.int .i64 v) 23
  generalize V5.alloc (.cells #[.int .i64 u, .int .i64 v] 23) = V6 at *
  generalize V5.heap.size = bK at *
  obtain ⟨qX0, qX1, qX2, qX3, qX4⟩ := id X; obtain ⟨qY0, qY1, qY2, qY3, qY4⟩ := id Y; obtain ⟨qP0, qP1, qP2, qP3, qP4⟩ := id P; obtain ⟨qQ0, qQ1, qQ2, qQ3, qQ4⟩ := id Q; obtain ⟨qK0, qK1, qK2, qK3, qK4⟩ := id K
  go_upto_region 5 with (go_at_call 17; (with_reducible refine (c4 _).mono ?_); rintro _ V7 ⟨rfl, hb1⟩; replace X := X.keep hb1; replace Y := Y.keep hb1; replace P := P.keep hb1; replace Q := Q.keep hb1; replace K := K.keep hb1; replace HB := later HB hb1; clear hb1; clear qX0 qX1 qX2 qX3 qX4 qY0 qY1 qY2 qY3 qY4 qP0 qP1 qP2 qP3 qP4 qQ0 qQ1 qQ2 qQ3 qQ4 qK0 qK1 qK2 qK3 qK4; obtain ⟨qX0, qX1, qX2, qX3, qX4⟩ := id X; obtain ⟨qY0, qY1, qY2, qY3, qY4⟩ := id Y; obtain ⟨qP0, qP1, qP2, qP3, qP4⟩ := id P; obtain ⟨qQ0, qQ1, qQ2, qQ3, qQ4⟩ := id Q; obtain ⟨qK0, qK1, qK2, qK3, qK4⟩ := id K)
  clear qX0 qX1 qX2 qX3 qX4 qY0 qY1 qY2 qY3 qY4 qP0 qP1 qP2 qP3 qP4 qQ0 qQ1 qQ2 qQ3 qQ4 qK0 qK1 qK2 qK3 qK4
  have nXM : Hid ((w.heap.size) < V7.heap.size) := X.lt
  have nYM : Hid ((w.heap.size + 1) < V7.heap.size) := Y.lt
  have nPM : Hid (bP < V7.heap.size) := P.lt
  have nQM : Hid (bQ < V7.heap.size) := Q.lt
  have nKM : Hid (bK < V7.heap.size) := K.lt
  replace X := X.keep (grewW V7 (.cells #[.int .i64 u, .int .i64 v] 23))
  replace Y := Y.keep (grewW V7 (.cells #[.int .i64 u, .int .i64 v] 23))
  replace P := P.keep (grewW V7 (.cells #[.int .i64 u, .int .i64 v] 23))
  replace Q := Q.keep (grewW V7 (.cells #[.int .i64 u, .int .i64 v] 23))
  replace K := K.keep (grewW V7 (.cells #[.int .i64 u, .int .i64 v] 23))
  replace HB := later HB (grewW V7 (.cells #[.int .i64 u, .int .i64 v] 23))
  have M := has2_new V7 (.int .i64 u) (.int .i64 v) 23
  generalize V7.alloc (.cells #[.int .i64 u, .int .i64 v] 23) = V8 at *
  generalize V7.heap.size = bM at *
  obtain ⟨qX0, qX1, qX2, qX3, qX4⟩ := id X; obtain ⟨qY0, qY1, qY2, qY3, qY4⟩ := id Y; obtain ⟨qP0, qP1, qP2, qP3, qP4⟩ := id P; obtain ⟨qQ0, qQ1, qQ2, qQ3, qQ4⟩ := id Q; obtain ⟨qK0, qK1, qK2, qK3, qK4⟩ := id K; obtain ⟨qM0, qM1, qM2, qM3, qM4⟩ := id M
  go_upto_region 7 with fail
  go_upto_region 8 with (go_at_call 18; (with_reducible refine (c5 _).mono ?_); rintro _ V9 ⟨rfl, hb1⟩; replace X := X.keep hb1; replace Y := Y.keep hb1; replace P := P.keep hb1; replace Q := Q.keep hb1; replace K := K.keep hb1; replace M := M.keep hb1; replace HB := later HB hb1; clear hb1; clear qX0 qX1 qX2 qX3 qX4 qY0 qY1 qY2 qY3 qY4 qP0 qP1 qP2 qP3 qP4 qQ0 qQ1 qQ2 qQ3 qQ4 qK0 qK1 qK2 qK3 qK4 qM0 qM1 qM2 qM3 qM4; obtain ⟨qX0, qX1, qX2, qX3, qX4⟩ := id X; obtain ⟨qY0, qY1, qY2, qY3, qY4⟩ := id Y; obtain ⟨qP0, qP1, qP2, qP3, qP4⟩ := id P; obtain ⟨qQ0, qQ1, qQ2, qQ3, qQ4⟩ := id Q; obtain ⟨qK0, qK1, qK2, qK3, qK4⟩ := id K; obtain ⟨qM0, qM1, qM2, qM3, qM4⟩ := id M)
  clear qX0 qX1 qX2 qX3 qX4 qY0 qY1 qY2 qY3 qY4 qP0 qP1 qP2 qP3 qP4 qQ0 qQ1 qQ2 qQ3 qQ4 qK0 qK1 qK2 qK3 qK4 qM0 qM1 qM2 qM3 qM4
  replace X := X.far2 (c := bP) (by have := nXP.out; omega) (.int .i64 s) (.int .i64 t)
  replace Y := Y.far2 (c := bP) (by have := nYP.out; omega) (.int .i64 s) (.int .i64 t)
  replace Q := Q.far2 (c := bP) (by have := nPQ.out; omega) (.int .i64 s) (.int .i64 t)
  replace K := K.far2 (c := bP) (by have := nPK.out; omega) (.int .i64 s) (.int .i64 t)
  replace M := M.far2 (c := bP) (by have := nPM.out; omega) (.int .i64 s) (.int .i64 t)
  replace P := P.put (.int .i64 s) (.int .i64 t)
  replace HB : Below w.heap.size w ((V9.setCell ⟨bP, 0, none⟩ (.int .i64 s)).setCell ⟨bP, 1, none⟩ (.int .i64 t)) := (HB.setCell (by simp; have := nXP.out; omega) _).setCell (by simp; have := nXP.out; omega) _
  generalize ((V9.setCell ⟨bP, 0, none⟩ (.int .i64 s)).setCell ⟨bP, 1, none⟩ (.int .i64 t)) = V10 at *
  obtain ⟨qX0, qX1, qX2, qX3, qX4⟩ := id X; obtain ⟨qY0, qY1, qY2, qY3, qY4⟩ := id Y; obtain ⟨qP0, qP1, qP2, qP3, qP4⟩ := id P; obtain ⟨qQ0, qQ1, qQ2, qQ3, qQ4⟩ := id Q; obtain ⟨qK0, qK1, qK2, qK3, qK4⟩ := id K; obtain ⟨qM0, qM1, qM2, qM3, qM4⟩ := id M
  go_upto_region 9 with (go_at_call 19; (with_reducible refine (c6 _).mono ?_); rintro _ V11 ⟨rfl, hb1⟩; replace X := X.keep hb1; replace Y := Y.keep hb1; replace P := P.keep hb1; replace Q := Q.keep hb1; replace K := K.keep hb1; replace M := M.keep hb1; replace HB := later HB hb1; clear hb1; clear qX0 qX1 qX2 qX3 qX4 qY0 qY1 qY2 qY3 qY4 qP0 qP1 qP2 qP3 qP4 qQ0 qQ1 qQ2 qQ3 qQ4 qK0 qK1 qK2 qK3 qK4 qM0 qM1 qM2 qM3 qM4; obtain ⟨qX0, qX1, qX2, qX3, qX4⟩ := id X; obtain ⟨qY0, qY1, qY2, qY3, qY4⟩ := id Y; obtain ⟨qP0, qP1, qP2, qP3, qP4⟩ := id P; obtain ⟨qQ0, qQ1, qQ2, qQ3, qQ4⟩ := id Q; obtain ⟨qK0, qK1, qK2, qK3, qK4⟩ := id K; obtain ⟨qM0, qM1, qM2, qM3, qM4⟩ := id M)
  clear qX0 qX1 qX2 qX3 qX4 qY0 qY1 qY2 qY3 qY4 qP0 qP1 qP2 qP3 qP4 qQ0 qQ1 qQ2 qQ3 qQ4 qK0 qK1 qK2 qK3 qK4 qM0 qM1 qM2 qM3 qM4
  replace X := X.far2 (c := bQ) (by have := nXQ.out; omega) (.int .i64 s) (.int .i64 t)
  replace Y := Y.far2 (c := bQ) (by have := nYQ.out; omega) (.int .i64 s) (.int .i64 t)
  replace P := P.far2 (c := bQ) (by have := nPQ.out; omega) (.int .i64 s) (.int .i64 t)
  replace K := K.far2 (c := bQ) (by have := nQK.out; omega) (.int .i64 s) (.int .i64 t)
  replace M := M.far2 (c := bQ) (by have := nQM.out; omega) (.int .i64 s) (.int .i64 t)
  replace Q := Q.put (.int .i64 s) (.int .i64 t)
  replace HB : Below w.heap.size w ((V11.setCell ⟨bQ, 0, none⟩ (.int .i64 s)).setCell ⟨bQ, 1, none⟩ (.int .i64 t)) := (HB.setCell (by simp; have := nXQ.out; omega) _).setCell (by simp; have := nXQ.out; omega) _
  generalize ((V11.setCell ⟨bQ, 0, none⟩ (.int .i64 s)).setCell ⟨bQ, 1, none⟩ (.int .i64 t)) = V12 at *
  obtain ⟨qX0, qX1, qX2, qX3, qX4⟩ := id X; obtain ⟨qY0, qY1, qY2, qY3, qY4⟩ := id Y; obtain ⟨qP0, qP1, qP2, qP3, qP4⟩ := id P; obtain ⟨qQ0, qQ1, qQ2, qQ3, qQ4⟩ := id Q; obtain ⟨qK0, qK1, qK2, qK3, qK4⟩ := id K; obtain ⟨qM0, qM1, qM2, qM3, qM4⟩ := id M
  go_upto_region 10 with (go_at_call 20; (with_reducible refine (c7 _).mono ?_); rintro _ V13 ⟨rfl, hb1⟩; replace X := X.keep hb1; replace Y := Y.keep hb1; replace P := P.keep hb1; replace Q := Q.keep hb1; replace K := K.keep hb1; replace M := M.keep hb1; replace HB := later HB hb1; clear hb1; clear qX0 qX1 qX2 qX3 qX4 qY0 qY1 qY2 qY3 qY4 qP0 qP1 qP2 qP3 qP4 qQ0 qQ1 qQ2 qQ3 qQ4 qK0 qK1 qK2 qK3 qK4 qM0 qM1 qM2 qM3 qM4; obtain ⟨qX0, qX1, qX2, qX3, qX4⟩ := id X; obtain ⟨qY0, qY1, qY2, qY3, qY4⟩ := id Y; obtain ⟨qP0, qP1, qP2, qP3, qP4⟩ := id P; obtain ⟨qQ0, qQ1, qQ2, qQ3, qQ4⟩ := id Q; obtain ⟨qK0, qK1, qK2, qK3, qK4⟩ := id K; obtain ⟨qM0, qM1, qM2, qM3, qM4⟩ := id M)
  clear qX0 qX1 qX2 qX3 qX4 qY0 qY1 qY2 qY3 qY4 qP0 qP1 qP2 qP3 qP4 qQ0 qQ1 qQ2 qQ3 qQ4 qK0 qK1 qK2 qK3 qK4 qM0 qM1 qM2 qM3 qM4
  replace X := X.far2 (c := bK) (by have := nXK.out; omega) (.int .i64 p) (.int .i64 q)
  replace Y := Y.far2 (c := bK) (by have := nYK.out; omega) (.int .i64 p) (.int .i64 q)
  replace P := P.far2 (c := bK) (by have := nPK.out; omega) (.int .i64 p) (.int .i64 q)
  replace Q := Q.far2 (c := bK) (by have := nQK.out; omega) (.int .i64 p) (.int .i64 q)
  replace M := M.far2 (c := bK) (by have := nKM.out; omega) (.int .i64 p) (.int .i64 q)
  replace K := K.put (.int .i64 p) (.int .i64 q)
  replace HB : Below w.heap.size w ((V13.setCell ⟨bK, 0, none⟩ (.int .i64 p)).setCell ⟨bK, 1, none⟩ (.int .i64 q)) := (HB.setCell (by simp; have := nXK.out; omega) _).setCell (by simp; have := nXK.out; omega) _
  generalize ((V13.setCell ⟨bK, 0, none⟩ (.int .i64 p)).setCell ⟨bK, 1, none⟩ (.int .i64 q)) = V14 at *
  obtain ⟨qX0, qX1, qX2, qX3, qX4⟩ := id X; obtain ⟨qY0, qY1, qY2, qY3, qY4⟩ := id Y; obtain ⟨qP0, qP1, qP2, qP3, qP4⟩ := id P; obtain ⟨qQ0, qQ1, qQ2, qQ3, qQ4⟩ := id Q; obtain ⟨qK0, qK1, qK2, qK3, qK4⟩ := id K; obtain ⟨qM0, qM1, qM2, qM3, qM4⟩ := id M
  go_upto_region 11 with (go_at_call 21; (with_reducible refine (c8 _).mono ?_); rintro _ V15 ⟨rfl, hb1⟩; replace X := X.keep hb1; replace Y := Y.keep hb1; replace P := P.keep hb1; replace Q := Q.keep hb1; replace K := K.keep hb1; replace M := M.keep hb1; replace HB := later HB hb1; clear hb1; clear qX0 qX1 qX2 qX3 qX4 qY0 qY1 qY2 qY3 qY4 qP0 qP1 qP2 qP3 qP4 qQ0 qQ1 qQ2 qQ3 qQ4 qK0 qK1 qK2 qK3 qK4 qM0 qM1 qM2 qM3 qM4; obtain ⟨qX0, qX1, qX2, qX3, qX4⟩ := id X; obtain ⟨qY0, qY1, qY2, qY3, qY4⟩ := id Y; obtain ⟨qP0, qP1, qP2, qP3, qP4⟩ := id P; obtain ⟨qQ0, qQ1, qQ2, qQ3, qQ4⟩ := id Q; obtain ⟨qK0, qK1, qK2, qK3, qK4⟩ := id K; obtain ⟨qM0, qM1, qM2, qM3, qM4⟩ := id M)
  clear qX0 qX1 qX2 qX3 qX4 qY0 qY1 qY2 qY3 qY4 qP0 qP1 qP2 qP3 qP4 qQ0 qQ1 qQ2 qQ3 qQ4 qK0 qK1 qK2 qK3 qK4 qM0 qM1 qM2 qM3 qM4
  replace X := X.far2 (c := bM) (by have := nXM.out; omega) (.int .i64 p) (.int .i64 q)
  replace Y := Y.far2 (c := bM) (by have := nYM.out; omega) (.int .i64 p) (.int .i64 q)
  replace P := P.far2 (c := bM) (by have := nPM.out; omega) (.int .i64 p) (.int .i64 q)
  replace Q := Q.far2 (c := bM) (by have := nQM.out; omega) (.int .i64 p) (.int .i64 q)
  replace K := K.far2 (c := bM) (by have := nKM.out; omega) (.int .i64 p) (.int .i64 q)
  replace M := M.put (.int .i64 p) (.int .i64 q)
  replace HB : Below w.heap.size w ((V15.setCell ⟨bM, 0, none⟩ (.int .i64 p)).setCell ⟨bM, 1, none⟩ (.int .i64 q)) := (HB.setCell (by simp; have := nXM.out; omega) _).setCell (by simp; have := nXM.out; omega) _
  generalize ((V15.setCell ⟨bM, 0, none⟩ (.int .i64 p)).setCell ⟨bM, 1, none⟩ (.int .i64 q)) = V16 at *
  obtain ⟨qX0, qX1, qX2, qX3, qX4⟩ := id X; obtain ⟨qY0, qY1, qY2, qY3, qY4⟩ := id Y; obtain ⟨qP0, qP1, qP2, qP3, qP4⟩ := id P; obtain ⟨qQ0, qQ1, qQ2, qQ3, qQ4⟩ := id Q; obtain ⟨qK0, qK1, qK2, qK3, qK4⟩ := id K; obtain ⟨qM0, qM1, qM2, qM3, qM4⟩ := id M
  go_wp2_with fail
  go_ret
  exact ⟨by simp, HB⟩

end Go.Proofs.Ytdnpoacjamkhkaa

namespace Go.Proofs.Ytdnpoacjamkhkaa
open Go.ChangeShapes Go.WideShapes Go.ChangeAt Go.RowKit

theorem cellsRat : Try.prog.cellsOf 23 = 2 := by kernel_rfl
theorem cellsI64r : Try.prog.cellsOf 2 = 1 := by kernel_rfl
theorem i64_wfI {n : Int} (h : (Lit.int .i64 n).wf = true) : I64 n := by
  have h : IntKind.i64.min ≤ n ∧ n ≤ IntKind.i64.max := by simpa [Lit.wf] using h
  have e1 : IntKind.i64.min = -9223372036854775808 := by decide
  have e2 : IntKind.i64.max = 9223372036854775807 := by decide
  exact ⟨by omega, by omega⟩
theorem trod_i64 {H : Type} {enc : TypeId × Value → H} {W : World} {base : Nat} {sp : Nat → Bool} {held : Bool} {m : Nat} {c : Value} {y : DataW H × List MemPlace} (h : DataW.trod enc Try.prog W base sp held m 2 [c] = some y) :
    ∃ n, c = .int .i64 n ∧ y = (.lit (.int .i64 n), []) ∧ (Lit.int .i64 n).wf = true := by
  have ht := Try.underlying2
  cases m with
  | zero => simp [DataW.trod] at h
  | succ n =>
    cases c <;> simp [DataW.trod, ht] at h
    rename_i k b
    obtain ⟨⟨rfl, h1⟩, h2⟩ := h
    exact ⟨b, rfl, h2.symm, h1⟩

set_option maxRecDepth 100000 in
theorem open_rat {H : Type} {enc : TypeId × Value → H} {W : World} {base : Nat} {sp : Nat → Bool} {held : Bool} {r : Reach} {b0 : Nat} {v : Value} {d : DataW H} {ps : List MemPlace} (hval : Value.okWide Try.prog W r b0 23 v)
    (hd : DataW.Trod enc Try.prog W base sp held 23 v d ps) : ∃ n m, v = .agg #[.int .i64 n, .int .i64 m] ∧ d = .agg [.lit (.int .i64 n), .lit (.int .i64 m)] ∧ ps = [] ∧ (Lit.int .i64 n).wf = true ∧ (Lit.int .i64 m).wf = true := by
  obtain ⟨cs, rfl, hsz⟩ := okWide_struct Try.underlying23 hval
  rw [cellsRat] at hsz
  obtain ⟨l⟩ := cs
  match l, hsz with
  | [c0, c1], _ =>
  obtain ⟨fuel, hf⟩ := hd
  obtain ⟨y0, y1, m, hx, _, hy0, hy1⟩ := trod_struct2 Try.underlying23 hf
  simp only [Value.cells, cellsI64r] at hy0 hy1
  obtain ⟨lo, rfl, rfl, w0⟩ := trod_i64 hy0
  obtain ⟨hi, rfl, rfl, w1⟩ := trod_i64 hy1
  simp only [Prod.mk.injEq] at hx
  obtain ⟨rfl, rfl⟩ := hx
  exact ⟨lo, hi, rfl, rfl, rfl, w0, w1⟩

set_option maxRecDepth 100000 in
theorem shut_rat {H : Type} {enc : TypeId × Value → H} {W : World} {sp : Nat → Bool} {held : Bool} {base : Nat} {n m : Int} (hl : (Lit.int .i64 n).wf = true) (hh : (Lit.int .i64 m).wf = true) :
    DataW.Trod enc Try.prog W base sp held 23 (.agg #[.int .i64 n, .int .i64 m]) (.agg [.lit (.int .i64 n), .lit (.int .i64 m)]) [] := ⟨2, by
  have f0 : DataW.trod enc Try.prog W base sp held 1 2 [.int .i64 n] = some (.lit (.int .i64 n), []) := by simp [DataW.trod, Try.underlying2, hl]
  have f1 : DataW.trod enc Try.prog W base sp held 1 2 [.int .i64 m] = some (.lit (.int .i64 m), []) := by simp [DataW.trod, Try.underlying2, hh]
  have := trod_struct2_mk (enc := enc) (w := W) (base := base) (spare := sp) (held := held) (n := 1) (cs := [.int .i64 n, .int .i64 m]) Try.underlying23 (by simp [cellsRat]) (by simpa [cellsI64r] using f0) (by simpa [cellsI64r] using f1)
  simpa [Value.cells] using this⟩

theorem ratMakes_w (aN aD n d : Int) (w0 : (Lit.int .i64 aN).wf = true) (w1 : (Lit.int .i64 aD).wf = true) (w2 : (Lit.int .i64 n).wf = true) (w3 : (Lit.int .i64 d).wf = true) (w : World) :
    Calls Try.prog 3 #[.agg #[.int .i64 aN, .int .i64 aD], .int .i64 n, .int .i64 d] w fun r w' => r = .returned (.bool true) ∧ Below w.heap.size w w' :=
  makes_core aN aD n d _ _ _ _ (fun W => mkRat_w n d (i64_wfI w2) (i64_wfI w3) W) (fun W => make11_w n d (i64_wfI w2) (i64_wfI w3) W) (fun W => rright_w11 aN aD (i64_wfI w0) (i64_wfI w1) W) (fun W => right11_w aN aD (i64_wfI w0) (i64_wfI w1) W) w

theorem ratCounts_w (aN aD bN bD : Int) (w0 : (Lit.int .i64 aN).wf = true) (w1 : (Lit.int .i64 aD).wf = true) (w2 : (Lit.int .i64 bN).wf = true) (w3 : (Lit.int .i64 bD).wf = true) (w : World) :
    Calls Try.prog 4 #[.agg #[.int .i64 aN, .int .i64 aD], .agg #[.int .i64 bN, .int .i64 bD]] w fun r w' => r = .returned (.bool true) ∧ Below w.heap.size w w' := by
  have ha : I64 aN ∧ I64 aD := ⟨i64_wfI w0, i64_wfI w1⟩
  have hb : I64 bN ∧ I64 bD := ⟨i64_wfI w2, i64_wfI w3⟩
  exact counts_core aN aD bN bD _ _ _ _ _ _ _ _ _ _ _ _ (fun W => addRat_w aN aD bN bD ha hb W) (fun W => add11_w aN aD bN bD ha hb W) (fun W => subRat_w aN aD bN bD ha hb W) (fun W => sub11_w aN aD bN bD ha hb W)
    (fun W => mulRat_w aN aD bN bD ha hb W) (fun W => mul11_w aN aD bN bD ha hb W) (fun W => divRat_w aN aD bN bD ha hb W) (fun W => div11_w aN aD bN bD ha hb W) w

theorem ratPowers_w (aN aD bN bD n : Int) (w0 : (Lit.int .i64 aN).wf = true) (w1 : (Lit.int .i64 aD).wf = true) (w2 : (Lit.int .i64 bN).wf = true) (w3 : (Lit.int .i64 bD).wf = true) (_ : (Lit.int .i64 n).wf = true) (w : World) :
    Calls Try.prog 5 #[.agg #[.int .i64 aN, .int .i64 aD], .agg #[.int .i64 bN, .int .i64 bD], .int .i64 n] w fun r w' => r = .returned (.bool true) ∧ Below w.heap.size w w' := by
  have ha : I64 aN ∧ I64 aD := ⟨i64_wfI w0, i64_wfI w1⟩
  have hb : I64 bN ∧ I64 bD := ⟨i64_wfI w2, i64_wfI w3⟩
  exact powers_core aN aD bN bD n _ _ _ _ _ (fun W => powRat_w aN aD n ha W) (fun W => pow11_w aN aD n ha W) (fun W => cmpRat_w aN aD bN bD ha hb W) (fun W => cmp11_w aN aD bN bD ha hb W) (fun W => cmpRat_w bN bD aN aD hb ha W) (fun W => cmp11_w bN bD aN aD hb ha W) w

end Go.Proofs.Ytdnpoacjamkhkaa
