/- The walk of the statement RatOrder. -/
import Derived.Test.YtdnpoacjamkhkaaDp
namespace Go.Proofs.Ytdnpoacjamkhkaa
open Go.ChangeShapes Go.WideShapes Go.ChangeAt Go.RowKit

set_option maxHeartbeats 4000000 in
set_option maxRecDepth 4000 in
theorem order_bad (aN aD bN bD cN cD : Int) (b1 b2 b3 : Bool) (h : (b1 && b2 && b3) = false)
    (r1 : ∀ W, Calls Try.prog 13 #[.agg #[.int .i64 aN, .int .i64 aD]] W fun r w' => r = .returned (.bool b1) ∧ Below W.heap.size W w')
    (r2 : ∀ W, Calls Try.prog 13 #[.agg #[.int .i64 bN, .int .i64 bD]] W fun r w' => r = .returned (.bool b2) ∧ Below W.heap.size W w')
    (r3 : ∀ W, Calls Try.prog 13 #[.agg #[.int .i64 cN, .int .i64 cD]] W fun r w' => r = .returned (.bool b3) ∧ Below W.heap.size W w') (w : World) :
    Calls Try.prog 7 #[.agg #[.int .i64 aN, .int .i64 aD], .agg #[.int .i64 bN, .int .i64 bD], .agg #[.int .i64 cN, .int .i64 cD]] w fun r w' => r = .returned (.bool true) ∧ Below w.heap.size w w' := by
  have HB : Below w.heap.size w (((w.alloc (.cells #[.int .i64 aN, .int .i64 aD] 23)).alloc (.cells #[.int .i64 bN, .int .i64 bD] 23)).alloc (.cells #[.int .i64 cN, .int .i64 cD] 23)) := by go_grown
  have X : Has2 (((w.alloc (.cells #[.int .i64 aN, .int .i64 aD] 23)).alloc (.cells #[.int .i64 bN, .int .i64 bD] 23)).alloc (.cells #[.int .i64 cN, .int .i64 cD] 23)) (w.heap.size) (.int .i64 aN) (.int .i64 aD) := ⟨by go_simp, by go_simp, by go_simp, by go_simp, by go_size⟩
  have Y : Has2 (((w.alloc (.cells #[.int .i64 aN, .int .i64 aD] 23)).alloc (.cells #[.int .i64 bN, .int .i64 bD] 23)).alloc (.cells #[.int .i64 cN, .int .i64 cD] 23)) (w.heap.size + 1) (.int .i64 bN) (.int .i64 bD) := ⟨by go_simp, by go_simp, by go_simp, by go_simp, by go_size⟩
  have Z : Has2 (((w.alloc (.cells #[.int .i64 aN, .int .i64 aD] 23)).alloc (.cells #[.int .i64 bN, .int .i64 bD] 23)).alloc (.cells #[.int .i64 cN, .int .i64 cD] 23)) (w.heap.size + 1 + 1) (.int .i64 cN) (.int .i64 cD) := ⟨by go_simp, by go_simp, by go_simp, by go_simp, by go_size⟩
  go_enter Try.func7, Try.ntmps7
  go_upto_region 1 with fail
  generalize (((w.alloc (.cells #[.int .i64 aN, .int .i64 aD] 23)).alloc (.cells #[.int .i64 bN, .int .i64 bD] 23)).alloc (.cells #[.int .i64 cN, .int .i64 cD] 23)) = V0 at *
  obtain ⟨pX0, pX1, pX2, pX3, pX4⟩ := id X; obtain ⟨pY0, pY1, pY2, pY3, pY4⟩ := id Y; obtain ⟨pZ0, pZ1, pZ2, pZ3, pZ4⟩ := id Z
  cases b1
  · go_wp2_with (go_at_call_of 13 (Value.agg #[.int .i64 aN, .int .i64 aD]); (with_reducible refine (r1 _).mono ?_); rintro _ W1 ⟨rfl, hb1⟩; replace X := X.keep hb1; replace Y := Y.keep hb1; replace Z := Z.keep hb1; replace HB := later HB hb1; clear hb1; obtain ⟨p1X0, p1X1, p1X2, p1X3, p1X4⟩ := id X; obtain ⟨p1Y0, p1Y1, p1Y2, p1Y3, p1Y4⟩ := id Y; obtain ⟨p1Z0, p1Z1, p1Z2, p1Z3, p1Z4⟩ := id Z)
    go_ret
    exact ⟨rfl, HB⟩
  · cases b2
    · go_wp2_with (first | (go_at_call_of 13 (Value.agg #[.int .i64 aN, .int .i64 aD]); (with_reducible refine (r1 _).mono ?_); rintro _ W1 ⟨rfl, hb1⟩; replace X := X.keep hb1; replace Y := Y.keep hb1; replace Z := Z.keep hb1; replace HB := later HB hb1; clear hb1; obtain ⟨p1X0, p1X1, p1X2, p1X3, p1X4⟩ := id X; obtain ⟨p1Y0, p1Y1, p1Y2, p1Y3, p1Y4⟩ := id Y; obtain ⟨p1Z0, p1Z1, p1Z2, p1Z3, p1Z4⟩ := id Z) | (go_at_call_of 13 (Value.agg #[.int .i64 bN, .int .i64 bD]); (with_reducible refine (r2 _).mono ?_); rintro _ W2 ⟨rfl, hb1⟩; replace X := X.keep hb1; replace Y := Y.keep hb1; replace Z := Z.keep hb1; replace HB := later HB hb1; clear hb1; obtain ⟨p2X0, p2X1, p2X2, p2X3, p2X4⟩ := id X; obtain ⟨p2Y0, p2Y1, p2Y2, p2Y3, p2Y4⟩ := id Y; obtain ⟨p2Z0, p2Z1, p2Z2, p2Z3, p2Z4⟩ := id Z))
      go_ret
      exact ⟨rfl, HB⟩
    · cases b3
      · go_wp2_with (first | (go_at_call_of 13 (Value.agg #[.int .i64 aN, .int .i64 aD]); (with_reducible refine (r1 _).mono ?_); rintro _ W1 ⟨rfl, hb1⟩; replace X := X.keep hb1; replace Y := Y.keep hb1; replace Z := Z.keep hb1; replace HB := later HB hb1; clear hb1; obtain ⟨p1X0, p1X1, p1X2, p1X3, p1X4⟩ := id X; obtain ⟨p1Y0, p1Y1, p1Y2, p1Y3, p1Y4⟩ := id Y; obtain ⟨p1Z0, p1Z1, p1Z2, p1Z3, p1Z4⟩ := id Z) | (go_at_call_of 13 (Value.agg #[.int .i64 bN, .int .i64 bD]); (with_reducible refine (r2 _).mono ?_); rintro _ W2 ⟨rfl, hb1⟩; replace X := X.keep hb1; replace Y := Y.keep hb1; replace Z := Z.keep hb1; replace HB := later HB hb1; clear hb1; obtain ⟨p2X0, p2X1, p2X2, p2X3, p2X4⟩ := id X; obtain ⟨p2Y0, p2Y1, p2Y2, p2Y3, p2Y4⟩ := id Y; obtain ⟨p2Z0, p2Z1, p2Z2, p2Z3, p2Z4⟩ := id Z) | (go_at_call_of 13 (Value.agg #[.int .i64 cN, .int .i64 cD]); (with_reducible refine (r3 _).mono ?_); rintro _ W3 ⟨rfl, hb1⟩; replace X := X.keep hb1; replace Y := Y.keep hb1; replace Z := Z.keep hb1; replace HB := later HB hb1; clear hb1; obtain ⟨p3X0, p3X1, p3X2, p3X3, p3X4⟩ := id X; obtain ⟨p3Y0, p3Y1, p3Y2, p3Y3, p3Y4⟩ := id Y; obtain ⟨p3Z0, p3Z1, p3Z2, p3Z3, p3Z4⟩ := id Z))
        go_ret
        exact ⟨rfl, HB⟩
      · cases h

set_option maxHeartbeats 8000000 in
set_option maxRecDepth 4000 in
theorem order_good (aN aD bN bD cN cD x y z m sN sD se tN tD te : Int)
    (r1 : ∀ W, Calls Try.prog 13 #[.agg #[.int .i64 aN, .int .i64 aD]] W fun r w' => r = .returned (.bool true) ∧ Below W.heap.size W w')
    (r2 : ∀ W, Calls Try.prog 13 #[.agg #[.int .i64 bN, .int .i64 bD]] W fun r w' => r = .returned (.bool true) ∧ Below W.heap.size W w')
    (r3 : ∀ W, Calls Try.prog 13 #[.agg #[.int .i64 cN, .int .i64 cD]] W fun r w' => r = .returned (.bool true) ∧ Below W.heap.size W w')
    (c1 : ∀ W, Calls Try.prog 24 #[.agg #[.int .i64 aN, .int .i64 aD], .agg #[.int .i64 bN, .int .i64 bD]] W fun r w' => r = .returned (.int .i64 x) ∧ Below W.heap.size W w')
    (c2 : ∀ W, Calls Try.prog 24 #[.agg #[.int .i64 bN, .int .i64 bD], .agg #[.int .i64 cN, .int .i64 cD]] W fun r w' => r = .returned (.int .i64 y) ∧ Below W.heap.size W w')
    (c3 : ∀ W, Calls Try.prog 24 #[.agg #[.int .i64 aN, .int .i64 aD], .agg #[.int .i64 cN, .int .i64 cD]] W fun r w' => r = .returned (.int .i64 z) ∧ Below W.heap.size W w')
    (c4 : ∀ W, Calls Try.prog 24 #[.agg #[.int .i64 bN, .int .i64 bD], .agg #[.int .i64 aN, .int .i64 aD]] W fun r w' => r = .returned (.int .i64 m) ∧ Below W.heap.size W w')
    (c5 : ∀ W, Calls Try.prog 14 #[.agg #[.int .i64 aN, .int .i64 aD], .agg #[.int .i64 cN, .int .i64 cD]] W fun r w' => r = .returned (.tuple #[.agg #[.int .i64 sN, .int .i64 sD], .int .i64 se]) ∧ Below W.heap.size W w')
    (c6 : ∀ W, Calls Try.prog 14 #[.agg #[.int .i64 bN, .int .i64 bD], .agg #[.int .i64 cN, .int .i64 cD]] W fun r w' => r = .returned (.tuple #[.agg #[.int .i64 tN, .int .i64 tD], .int .i64 te]) ∧ Below W.heap.size W w')
    (c7 : se = 0 → te = 0 → ∀ W, Calls Try.prog 24 #[.agg #[.int .i64 sN, .int .i64 sD], .agg #[.int .i64 tN, .int .i64 tD]] W fun r w' => r = .returned (.int .i64 x) ∧ Below W.heap.size W w')
    (hm : m = -x) (hc : ((x = -1 ∧ y ≤ 0 ∧ z < 0) ∨ (x = -1 ∧ ¬ y ≤ 0) ∨ x = 1) ∧ (¬ aN = bN ∨ (aN = bN ∧ ¬ aD = bD)) ∨ ((x = 0 ∧ y ≤ 0 ∧ ¬ 0 < z) ∨ (x = 0 ∧ ¬ y ≤ 0)) ∧ aN = bN ∧ aD = bD) (w : World) :
    Calls Try.prog 7 #[.agg #[.int .i64 aN, .int .i64 aD], .agg #[.int .i64 bN, .int .i64 bD], .agg #[.int .i64 cN, .int .i64 cD]] w fun r w' => r = .returned (.bool true) ∧ Below w.heap.size w w' := by
  have HB : Below w.heap.size w (((w.alloc (.cells #[.int .i64 aN, .int .i64 aD] 23)).alloc (.cells #[.int .i64 bN, .int .i64 bD] 23)).alloc (.cells #[.int .i64 cN, .int .i64 cD] 23)) := by go_grown
  have X : Has2 (((w.alloc (.cells #[.int .i64 aN, .int .i64 aD] 23)).alloc (.cells #[.int .i64 bN, .int .i64 bD] 23)).alloc (.cells #[.int .i64 cN, .int .i64 cD] 23)) (w.heap.size) (.int .i64 aN) (.int .i64 aD) := ⟨by go_simp, by go_simp, by go_simp, by go_simp, by go_size⟩
  have Y : Has2 (((w.alloc (.cells #[.int .i64 aN, .int .i64 aD] 23)).alloc (.cells #[.int .i64 bN, .int .i64 bD] 23)).alloc (.cells #[.int .i64 cN, .int .i64 cD] 23)) (w.heap.size + 1) (.int .i64 bN) (.int .i64 bD) := ⟨by go_simp, by go_simp, by go_simp, by go_simp, by go_size⟩
  have Z : Has2 (((w.alloc (.cells #[.int .i64 aN, .int .i64 aD] 23)).alloc (.cells #[.int .i64 bN, .int .i64 bD] 23)).alloc (.cells #[.int .i64 cN, .int .i64 cD] 23)) (w.heap.size + 1 + 1) (.int .i64 cN) (.int .i64 cD) := ⟨by go_simp, by go_simp, by go_simp, by go_simp, by go_size⟩
  go_enter Try.func7, Try.ntmps7
  go_upto_region 1 with fail
  generalize (((w.alloc (.cells #[.int .i64 aN, .int .i64 aD] 23)).alloc (.cells #[.int .i64 bN, .int .i64 bD] 23)).alloc (.cells #[.int .i64 cN, .int .i64 cD] 23)) = V0 at *
  obtain ⟨pX0, pX1, pX2, pX3, pX4⟩ := id X; obtain ⟨pY0, pY1, pY2, pY3, pY4⟩ := id Y; obtain ⟨pZ0, pZ1, pZ2, pZ3, pZ4⟩ := id Z
  go_upto_region 3 with (first | (go_at_call_of 13 (Value.agg #[.int .i64 aN, .int .i64 aD]); (with_reducible refine (r1 _).mono ?_); rintro _ W1 ⟨rfl, hb1⟩; replace X := X.keep hb1; replace Y := Y.keep hb1; replace Z := Z.keep hb1; replace HB := later HB hb1; clear hb1; obtain ⟨p1X0, p1X1, p1X2, p1X3, p1X4⟩ := id X; obtain ⟨p1Y0, p1Y1, p1Y2, p1Y3, p1Y4⟩ := id Y; obtain ⟨p1Z0, p1Z1, p1Z2, p1Z3, p1Z4⟩ := id Z) | (go_at_call_of 13 (Value.agg #[.int .i64 bN, .int .i64 bD]); (with_reducible refine (r2 _).mono ?_); rintro _ W2 ⟨rfl, hb1⟩; replace X := X.keep hb1; replace Y := Y.keep hb1; replace Z := Z.keep hb1; replace HB := later HB hb1; clear hb1; obtain ⟨p2X0, p2X1, p2X2, p2X3, p2X4⟩ := id X; obtain ⟨p2Y0, p2Y1, p2Y2, p2Y3, p2Y4⟩ := id Y; obtain ⟨p2Z0, p2Z1, p2Z2, p2Z3, p2Z4⟩ := id Z) | (go_at_call_of 13 (Value.agg #[.int .i64 cN, .int .i64 cD]); (with_reducible refine (r3 _).mono ?_); rintro _ W3 ⟨rfl, hb1⟩; replace X := X.keep hb1; replace Y := Y.keep hb1; replace Z := Z.keep hb1; replace HB := later HB hb1; clear hb1; obtain ⟨p3X0, p3X1, p3X2, p3X3, p3X4⟩ := id X; obtain ⟨p3Y0, p3Y1, p3Y2, p3Y3, p3Y4⟩ := id Y; obtain ⟨p3Z0, p3Z1, p3Z2, p3Z3, p3Z4⟩ := id Z))
  clear pX0 pX1 pX2 pX3 pX4 pY0 pY1 pY2 pY3 pY4 pZ0 pZ1 pZ2 pZ3 pZ4
  clear p1X0 p1X1 p1X2 p1X3 p1X4 p1Y0 p1Y1 p1Y2 p1Y3 p1Y4 p1Z0 p1Z1 p1Z2 p1Z3 p1Z4
  clear p2X0 p2X1 p2X2 p2X3 p2X4 p2Y0 p2Y1 p2Y2 p2Y3 p2Y4 p2Z0 p2Z1 p2Z2 p2Z3 p2Z4
  clear p3X0 p3X1 p3X2 p3X3 p3X4 p3Y0 p3Y1 p3Y2 p3Y3 p3Y4 p3Z0 p3Z1 p3Z2 p3Z3 p3Z4
  have kX0 := fun n : Behind W3 => n.cell X.1 X.2.2.2.2
  have kX1 := fun n : Behind W3 => n.cell X.2.1 X.2.2.2.2
  have kY0 := fun n : Behind W3 => n.cell Y.1 Y.2.2.2.2
  have kY1 := fun n : Behind W3 => n.cell Y.2.1 Y.2.2.2.2
  have kZ0 := fun n : Behind W3 => n.cell Z.1 Z.2.2.2.2
  have kZ1 := fun n : Behind W3 => n.cell Z.2.1 Z.2.2.2.2
  refine region_behind (by kernel_rfl) (by kernel_rfl) ?_
  repeat (go_big_quiet_step (first | (go_at_call 24; with_reducible refine Behind.call (c1 _)) | (go_at_call 24; with_reducible refine Behind.call (c2 _)) | (go_at_call 24; with_reducible refine Behind.call (c3 _))))
  refine wpQuiet_nil ?_
  rintro _ ⟨m', rfl⟩
  obtain ⟨V1, hb1⟩ := m'
  dsimp only
  clear kX0 kX1 kY0 kY1 kZ0 kZ1
  replace X := X.keep hb1
  replace Y := Y.keep hb1
  replace Z := Z.keep hb1
  replace HB := later HB hb1
  clear hb1
  obtain ⟨qX0, qX1, qX2, qX3, qX4⟩ := id X; obtain ⟨qY0, qY1, qY2, qY3, qY4⟩ := id Y; obtain ⟨qZ0, qZ1, qZ2, qZ3, qZ4⟩ := id Z
  subst hm
  rcases hc with ⟨hx, hn⟩ | ⟨hx, rfl, rfl⟩
  · rcases hx with ⟨rfl, hy, hz⟩ | ⟨rfl, hy⟩ | rfl
    · rcases hn with hn | ⟨rfl, hn⟩
      · skip
        go_upto_region 6 with (go_at_call 24; (with_reducible refine (c4 _).mono ?_); rintro _ V2 ⟨rfl, hb1⟩; replace X := X.keep hb1; replace Y := Y.keep hb1; replace Z := Z.keep hb1; replace HB := later HB hb1; clear hb1; clear qX0 qX1 qX2 qX3 qX4 qY0 qY1 qY2 qY3 qY4 qZ0 qZ1 qZ2 qZ3 qZ4; obtain ⟨qX0, qX1, qX2, qX3, qX4⟩ := id X; obtain ⟨qY0, qY1, qY2, qY3, qY4⟩ := id Y; obtain ⟨qZ0, qZ1, qZ2, qZ3, qZ4⟩ := id Z)
        go_upto_region 7 with (go_at_call 14; (with_reducible refine (c5 _).mono ?_); rintro _ V3 ⟨rfl, hb1⟩; replace X := X.keep hb1; replace Y := Y.keep hb1; replace Z := Z.keep hb1; replace HB := later HB hb1; clear hb1; clear qX0 qX1 qX2 qX3 qX4 qY0 qY1 qY2 qY3 qY4 qZ0 qZ1 qZ2 qZ3 qZ4; obtain ⟨qX0, qX1, qX2, qX3, qX4⟩ := id X; obtain ⟨qY0, qY1, qY2, qY3, qY4⟩ := id Y; obtain ⟨qZ0, qZ1, qZ2, qZ3, qZ4⟩ := id Z)
        clear qX0 qX1 qX2 qX3 qX4 qY0 qY1 qY2 qY3 qY4 qZ0 qZ1 qZ2 qZ3 qZ4
        have nXP : Hid ((w.heap.size) < V3.heap.size) := X.lt
        have nYP : Hid ((w.heap.size + 1) < V3.heap.size) := Y.lt
        have nZP : Hid ((w.heap.size + 1 + 1) < V3.heap.size) := Z.lt
        replace X := X.keep (grewW V3 (.cells #[.int .i64 sN, .int .i64 sD] 23))
        replace Y := Y.keep (grewW V3 (.cells #[.int .i64 sN, .int .i64 sD] 23))
        replace Z := Z.keep (grewW V3 (.cells #[.int .i64 sN, .int .i64 sD] 23))
        replace HB := later HB (grewW V3 (.cells #[.int .i64 sN, .int .i64 sD] 23))
        have P := has2_new V3 (.int .i64 sN) (.int .i64 sD) 23
        generalize V3.alloc (.cells #[.int .i64 sN, .int .i64 sD] 23) = V4 at *
        generalize V3.heap.size = bP at *
        obtain ⟨qX0, qX1, qX2, qX3, qX4⟩ := id X; obtain ⟨qY0, qY1, qY2, qY3, qY4⟩ := id Y; obtain ⟨qZ0, qZ1, qZ2, qZ3, qZ4⟩ := id Z; obtain ⟨qP0, qP1, qP2, qP3, qP4⟩ := id P
        go_upto_region 8 with (go_at_call 14; (with_reducible refine (c6 _).mono ?_); rintro _ V5 ⟨rfl, hb1⟩; replace X := X.keep hb1; replace Y := Y.keep hb1; replace Z := Z.keep hb1; replace P := P.keep hb1; replace HB := later HB hb1; clear hb1; clear qX0 qX1 qX2 qX3 qX4 qY0 qY1 qY2 qY3 qY4 qZ0 qZ1 qZ2 qZ3 qZ4 qP0 qP1 qP2 qP3 qP4; obtain ⟨qX0, qX1, qX2, qX3, qX4⟩ := id X; obtain ⟨qY0, qY1, qY2, qY3, qY4⟩ := id Y; obtain ⟨qZ0, qZ1, qZ2, qZ3, qZ4⟩ := id Z; obtain ⟨qP0, qP1, qP2, qP3, qP4⟩ := id P)
        clear qX0 qX1 qX2 qX3 qX4 qY0 qY1 qY2 qY3 qY4 qZ0 qZ1 qZ2 qZ3 qZ4 qP0 qP1 qP2 qP3 qP4
        have nXQ : Hid ((w.heap.size) < V5.heap.size) := X.lt
        have nYQ : Hid ((w.heap.size + 1) < V5.heap.size) := Y.lt
        have nZQ : Hid ((w.heap.size + 1 + 1) < V5.heap.size) := Z.lt
        have nPQ : Hid (bP < V5.heap.size) := P.lt
        replace X := X.keep (grewW V5 (.cells #[.int .i64 tN, .int .i64 tD] 23))
        replace Y := Y.keep (grewW V5 (.cells #[.int .i64 tN, .int .i64 tD] 23))
        replace Z := Z.keep (grewW V5 (.cells #[.int .i64 tN, .int .i64 tD] 23))
        replace P := P.keep (grewW V5 (.cells #[.int .i64 tN, .int .i64 tD] 23))
        replace HB := later HB (grewW V5 (.cells #[.int .i64 tN, .int .i64 tD] 23))
        have Q := has2_new V5 (.int .i64 tN) (.int .i64 tD) 23
        generalize V5.alloc (.cells #[.int .i64 tN, .int .i64 tD] 23) = V6 at *
        generalize V5.heap.size = bQ at *
        obtain ⟨qX0, qX1, qX2, qX3, qX4⟩ := id X; obtain ⟨qY0, qY1, qY2, qY3, qY4⟩ := id Y; obtain ⟨qZ0, qZ1, qZ2, qZ3, qZ4⟩ := id Z; obtain ⟨qP0, qP1, qP2, qP3, qP4⟩ := id P; obtain ⟨qQ0, qQ1, qQ2, qQ3, qQ4⟩ := id Q
        by_cases k1 : se = 0
        · subst k1
          by_cases k2 : te = 0
          · subst k2
            have c8 := c7 rfl rfl
            clear c7
            go_wp2_with (go_at_call 24; (with_reducible refine (c8 _).mono ?_); rintro _ W9 ⟨rfl, hb1⟩; replace X := X.keep hb1; replace Y := Y.keep hb1; replace Z := Z.keep hb1; replace P := P.keep hb1; replace Q := Q.keep hb1; replace HB := later HB hb1; clear hb1)
            go_ret
            exact ⟨by simp, HB⟩
          · go_wp2_with fail
            go_ret
            exact ⟨by simp, HB⟩
        · go_wp2_with fail
          go_ret
          exact ⟨by simp, HB⟩
      · skip
        go_upto_region 6 with (go_at_call 24; (with_reducible refine (c4 _).mono ?_); rintro _ V2 ⟨rfl, hb1⟩; replace X := X.keep hb1; replace Y := Y.keep hb1; replace Z := Z.keep hb1; replace HB := later HB hb1; clear hb1; clear qX0 qX1 qX2 qX3 qX4 qY0 qY1 qY2 qY3 qY4 qZ0 qZ1 qZ2 qZ3 qZ4; obtain ⟨qX0, qX1, qX2, qX3, qX4⟩ := id X; obtain ⟨qY0, qY1, qY2, qY3, qY4⟩ := id Y; obtain ⟨qZ0, qZ1, qZ2, qZ3, qZ4⟩ := id Z)
        go_upto_region 7 with (go_at_call 14; (with_reducible refine (c5 _).mono ?_); rintro _ V3 ⟨rfl, hb1⟩; replace X := X.keep hb1; replace Y := Y.keep hb1; replace Z := Z.keep hb1; replace HB := later HB hb1; clear hb1; clear qX0 qX1 qX2 qX3 qX4 qY0 qY1 qY2 qY3 qY4 qZ0 qZ1 qZ2 qZ3 qZ4; obtain ⟨qX0, qX1, qX2, qX3, qX4⟩ := id X; obtain ⟨qY0, qY1, qY2, qY3, qY4⟩ := id Y; obtain ⟨qZ0, qZ1, qZ2, qZ3, qZ4⟩ := id Z)
        clear qX0 qX1 qX2 qX3 qX4 qY0 qY1 qY2 qY3 qY4 qZ0 qZ1 qZ2 qZ3 qZ4
        have nXP : Hid ((w.heap.size) < V3.heap.size) := X.lt
        have nYP : Hid ((w.heap.size + 1) < V3.heap.size) := Y.lt
        have nZP : Hid ((w.heap.size + 1 + 1) < V3.heap.size) := Z.lt
        replace X := X.keep (grewW V3 (.cells #[.int .i64 sN, .int .i64 sD] 23))
        replace Y := Y.keep (grewW V3 (.cells #[.int .i64 sN, .int .i64 sD] 23))
        replace Z := Z.keep (grewW V3 (.cells #[.int .i64 sN, .int .i64 sD] 23))
        replace HB := later HB (grewW V3 (.cells #[.int .i64 sN, .int .i64 sD] 23))
        have P := has2_new V3 (.int .i64 sN) (.int .i64 sD) 23
        generalize V3.alloc (.cells #[.int .i64 sN, .int .i64 sD] 23) = V4 at *
        generalize V3.heap.size = bP at *
        obtain ⟨qX0, qX1, qX2, qX3, qX4⟩ := id X; obtain ⟨qY0, qY1, qY2, qY3, qY4⟩ := id Y; obtain ⟨qZ0, qZ1, qZ2, qZ3, qZ4⟩ := id Z; obtain ⟨qP0, qP1, qP2, qP3, qP4⟩ := id P
        go_upto_region 8 with (go_at_call 14; (with_reducible refine (c6 _).mono ?_); rintro _ V5 ⟨rfl, hb1⟩; replace X := X.keep hb1; replace Y := Y.keep hb1; replace Z := Z.keep hb1; replace P := P.keep hb1; replace HB := later HB hb1; clear hb1; clear qX0 qX1 qX2 qX3 qX4 qY0 qY1 qY2 qY3 qY4 qZ0 qZ1 qZ2 qZ3 qZ4 qP0 qP1 qP2 qP3 qP4; obtain ⟨qX0, qX1, qX2, qX3, qX4⟩ := id X; obtain ⟨qY0, qY1, qY2, qY3, qY4⟩ := id Y; obtain ⟨qZ0, qZ1, qZ2, qZ3, qZ4⟩ := id Z; obtain ⟨qP0, qP1, qP2, qP3, qP4⟩ := id P)
        clear qX0 qX1 qX2 qX3 qX4 qY0 qY1 qY2 qY3 qY4 qZ0 qZ1 qZ2 qZ3 qZ4 qP0 qP1 qP2 qP3 qP4
        have nXQ : Hid ((w.heap.size) < V5.heap.size) := X.lt
        have nYQ : Hid ((w.heap.size + 1) < V5.heap.size) := Y.lt
        have nZQ : Hid ((w.heap.size + 1 + 1) < V5.heap.size) := Z.lt
        have nPQ : Hid (bP < V5.heap.size) := P.lt
        replace X := X.keep (grewW V5 (.cells #[.int .i64 tN, .int .i64 tD] 23))
        replace Y := Y.keep (grewW V5 (.cells #[.int .i64 tN, .int .i64 tD] 23))
        replace Z := Z.keep (grewW V5 (.cells #[.int .i64 tN, .int .i64 tD] 23))
        replace P := P.keep (grewW V5 (.cells #[.int .i64 tN, .int .i64 tD] 23))
        replace HB := later HB (grewW V5 (.cells #[.int .i64 tN, .int .i64 tD] 23))
        have Q := has2_new V5 (.int .i64 tN) (.int .i64 tD) 23
        generalize V5.alloc (.cells #[.int .i64 tN, .int .i64 tD] 23) = V6 at *
        generalize V5.heap.size = bQ at *
        obtain ⟨qX0, qX1, qX2, qX3, qX4⟩ := id X; obtain ⟨qY0, qY1, qY2, qY3, qY4⟩ := id Y; obtain ⟨qZ0, qZ1, qZ2, qZ3, qZ4⟩ := id Z; obtain ⟨qP0, qP1, qP2, qP3, qP4⟩ := id P; obtain ⟨qQ0, qQ1, qQ2, qQ3, qQ4⟩ := id Q
        by_cases k1 : se = 0
        · subst k1
          by_cases k2 : te = 0
          · subst k2
            have c8 := c7 rfl rfl
            clear c7
            go_wp2_with (go_at_call 24; (with_reducible refine (c8 _).mono ?_); rintro _ W9 ⟨rfl, hb1⟩; replace X := X.keep hb1; replace Y := Y.keep hb1; replace Z := Z.keep hb1; replace P := P.keep hb1; replace Q := Q.keep hb1; replace HB := later HB hb1; clear hb1)
            go_ret
            exact ⟨by simp, HB⟩
          · go_wp2_with fail
            go_ret
            exact ⟨by simp, HB⟩
        · go_wp2_with fail
          go_ret
          exact ⟨by simp, HB⟩
    · rcases hn with hn | ⟨rfl, hn⟩
      · skip
        go_upto_region 6 with (go_at_call 24; (with_reducible refine (c4 _).mono ?_); rintro _ V2 ⟨rfl, hb1⟩; replace X := X.keep hb1; replace Y := Y.keep hb1; replace Z := Z.keep hb1; replace HB := later HB hb1; clear hb1; clear qX0 qX1 qX2 qX3 qX4 qY0 qY1 qY2 qY3 qY4 qZ0 qZ1 qZ2 qZ3 qZ4; obtain ⟨qX0, qX1, qX2, qX3, qX4⟩ := id X; obtain ⟨qY0, qY1, qY2, qY3, qY4⟩ := id Y; obtain ⟨qZ0, qZ1, qZ2, qZ3, qZ4⟩ := id Z)
        go_upto_region 7 with (go_at_call 14; (with_reducible refine (c5 _).mono ?_); rintro _ V3 ⟨rfl, hb1⟩; replace X := X.keep hb1; replace Y := Y.keep hb1; replace Z := Z.keep hb1; replace HB := later HB hb1; clear hb1; clear qX0 qX1 qX2 qX3 qX4 qY0 qY1 qY2 qY3 qY4 qZ0 qZ1 qZ2 qZ3 qZ4; obtain ⟨qX0, qX1, qX2, qX3, qX4⟩ := id X; obtain ⟨qY0, qY1, qY2, qY3, qY4⟩ := id Y; obtain ⟨qZ0, qZ1, qZ2, qZ3, qZ4⟩ := id Z)
        clear qX0 qX1 qX2 qX3 qX4 qY0 qY1 qY2 qY3 qY4 qZ0 qZ1 qZ2 qZ3 qZ4
        have nXP : Hid ((w.heap.size) < V3.heap.size) := X.lt
        have nYP : Hid ((w.heap.size + 1) < V3.heap.size) := Y.lt
        have nZP : Hid ((w.heap.size + 1 + 1) < V3.heap.size) := Z.lt
        replace X := X.keep (grewW V3 (.cells #[.int .i64 sN, .int .i64 sD] 23))
        replace Y := Y.keep (grewW V3 (.cells #[.int .i64 sN, .int .i64 sD] 23))
        replace Z := Z.keep (grewW V3 (.cells #[.int .i64 sN, .int .i64 sD] 23))
        replace HB := later HB (grewW V3 (.cells #[.int .i64 sN, .int .i64 sD] 23))
        have P := has2_new V3 (.int .i64 sN) (.int .i64 sD) 23
        generalize V3.alloc (.cells #[.int .i64 sN, .int .i64 sD] 23) = V4 at *
        generalize V3.heap.size = bP at *
        obtain ⟨qX0, qX1, qX2, qX3, qX4⟩ := id X; obtain ⟨qY0, qY1, qY2, qY3, qY4⟩ := id Y; obtain ⟨qZ0, qZ1, qZ2, qZ3, qZ4⟩ := id Z; obtain ⟨qP0, qP1, qP2, qP3, qP4⟩ := id P
        go_upto_region 8 with (go_at_call 14; (with_reducible refine (c6 _).mono ?_); rintro _ V5 ⟨rfl, hb1⟩; replace X := X.keep hb1; replace Y := Y.keep hb1; replace Z := Z.keep hb1; replace P := P.keep hb1; replace HB := later HB hb1; clear hb1; clear qX0 qX1 qX2 qX3 qX4 qY0 qY1 qY2 qY3 qY4 qZ0 qZ1 qZ2 qZ3 qZ4 qP0 qP1 qP2 qP3 qP4; obtain ⟨qX0, qX1, qX2, qX3, qX4⟩ := id X; obtain ⟨qY0, qY1, qY2, qY3, qY4⟩ := id Y; obtain ⟨qZ0, qZ1, qZ2, qZ3, qZ4⟩ := id Z; obtain ⟨qP0, qP1, qP2, qP3, qP4⟩ := id P)
        clear qX0 qX1 qX2 qX3 qX4 qY0 qY1 qY2 qY3 qY4 qZ0 qZ1 qZ2 qZ3 qZ4 qP0 qP1 qP2 qP3 qP4
        have nXQ : Hid ((w.heap.size) < V5.heap.size) := X.lt
        have nYQ : Hid ((w.heap.size + 1) < V5.heap.size) := Y.lt
        have nZQ : Hid ((w.heap.size + 1 + 1) < V5.heap.size) := Z.lt
        have nPQ : Hid (bP < V5.heap.size) := P.lt
        replace X := X.keep (grewW V5 (.cells #[.int .i64 tN, .int .i64 tD] 23))
        replace Y := Y.keep (grewW V5 (.cells #[.int .i64 tN, .int .i64 tD] 23))
        replace Z := Z.keep (grewW V5 (.cells #[.int .i64 tN, .int .i64 tD] 23))
        replace P := P.keep (grewW V5 (.cells #[.int .i64 tN, .int .i64 tD] 23))
        replace HB := later HB (grewW V5 (.cells #[.int .i64 tN, .int .i64 tD] 23))
        have Q := has2_new V5 (.int .i64 tN) (.int .i64 tD) 23
        generalize V5.alloc (.cells #[.int .i64 tN, .int .i64 tD] 23) = V6 at *
        generalize V5.heap.size = bQ at *
        obtain ⟨qX0, qX1, qX2, qX3, qX4⟩ := id X; obtain ⟨qY0, qY1, qY2, qY3, qY4⟩ := id Y; obtain ⟨qZ0, qZ1, qZ2, qZ3, qZ4⟩ := id Z; obtain ⟨qP0, qP1, qP2, qP3, qP4⟩ := id P; obtain ⟨qQ0, qQ1, qQ2, qQ3, qQ4⟩ := id Q
        by_cases k1 : se = 0
        · subst k1
          by_cases k2 : te = 0
          · subst k2
            have c8 := c7 rfl rfl
            clear c7
            go_wp2_with (go_at_call 24; (with_reducible refine (c8 _).mono ?_); rintro _ W9 ⟨rfl, hb1⟩; replace X := X.keep hb1; replace Y := Y.keep hb1; replace Z := Z.keep hb1; replace P := P.keep hb1; replace Q := Q.keep hb1; replace HB := later HB hb1; clear hb1)
            go_ret
            exact ⟨by simp, HB⟩
          · go_wp2_with fail
            go_ret
            exact ⟨by simp, HB⟩
        · go_wp2_with fail
          go_ret
          exact ⟨by simp, HB⟩
      · skip
        go_upto_region 6 with (go_at_call 24; (with_reducible refine (c4 _).mono ?_); rintro _ V2 ⟨rfl, hb1⟩; replace X := X.keep hb1; replace Y := Y.keep hb1; replace Z := Z.keep hb1; replace HB := later HB hb1; clear hb1; clear qX0 qX1 qX2 qX3 qX4 qY0 qY1 qY2 qY3 qY4 qZ0 qZ1 qZ2 qZ3 qZ4; obtain ⟨qX0, qX1, qX2, qX3, qX4⟩ := id X; obtain ⟨qY0, qY1, qY2, qY3, qY4⟩ := id Y; obtain ⟨qZ0, qZ1, qZ2, qZ3, qZ4⟩ := id Z)
        go_upto_region 7 with (go_at_call 14; (with_reducible refine (c5 _).mono ?_); rintro _ V3 ⟨rfl, hb1⟩; replace X := X.keep hb1; replace Y := Y.keep hb1; replace Z := Z.keep hb1; replace HB := later HB hb1; clear hb1; clear qX0 qX1 qX2 qX3 qX4 qY0 qY1 qY2 qY3 qY4 qZ0 qZ1 qZ2 qZ3 qZ4; obtain ⟨qX0, qX1, qX2, qX3, qX4⟩ := id X; obtain ⟨qY0, qY1, qY2, qY3, qY4⟩ := id Y; obtain ⟨qZ0, qZ1, qZ2, qZ3, qZ4⟩ := id Z)
        clear qX0 qX1 qX2 qX3 qX4 qY0 qY1 qY2 qY3 qY4 qZ0 qZ1 qZ2 qZ3 qZ4
        have nXP : Hid ((w.heap.size) < V3.heap.size) := X.lt
        have nYP : Hid ((w.heap.size + 1) < V3.heap.size) := Y.lt
        have nZP : Hid ((w.heap.size + 1 + 1) < V3.heap.size) := Z.lt
        replace X := X.keep (grewW V3 (.cells #[.int .i64 sN, .int .i64 sD] 23))
        replace Y := Y.keep (grewW V3 (.cells #[.int .i64 sN, .int .i64 sD] 23))
        replace Z := Z.keep (grewW V3 (.cells #[.int .i64 sN, .int .i64 sD] 23))
        replace HB := later HB (grewW V3 (.cells #[.int .i64 sN, .int .i64 sD] 23))
        have P := has2_new V3 (.int .i64 sN) (.int .i64 sD) 23
        generalize V3.alloc (.cells #[.int .i64 sN, .int .i64 sD] 23) = V4 at *
        generalize V3.heap.size = bP at *
        obtain ⟨qX0, qX1, qX2, qX3, qX4⟩ := id X; obtain ⟨qY0, qY1, qY2, qY3, qY4⟩ := id Y; obtain ⟨qZ0, qZ1, qZ2, qZ3, qZ4⟩ := id Z; obtain ⟨qP0, qP1, qP2, qP3, qP4⟩ := id P
        go_upto_region 8 with (go_at_call 14; (with_reducible refine (c6 _).mono ?_); rintro _ V5 ⟨rfl, hb1⟩; replace X := X.keep hb1; replace Y := Y.keep hb1; replace Z := Z.keep hb1; replace P := P.keep hb1; replace HB := later HB hb1; clear hb1; clear qX0 qX1 qX2 qX3 qX4 qY0 qY1 qY2 qY3 qY4 qZ0 qZ1 qZ2 qZ3 qZ4 qP0 qP1 qP2 qP3 qP4; obtain ⟨qX0, qX1, qX2, qX3, qX4⟩ := id X; obtain ⟨qY0, qY1, qY2, qY3, qY4⟩ := id Y; obtain ⟨qZ0, qZ1, qZ2, qZ3, qZ4⟩ := id Z; obtain ⟨qP0, qP1, qP2, qP3, qP4⟩ := id P)
        clear qX0 qX1 qX2 qX3 qX4 qY0 qY1 qY2 qY3 qY4 qZ0 qZ1 qZ2 qZ3 qZ4 qP0 qP1 qP2 qP3 qP4
        have nXQ : Hid ((w.heap.size) < V5.heap.size) := X.lt
        have nYQ : Hid ((w.heap.size + 1) < V5.heap.size) := Y.lt
        have nZQ : Hid ((w.heap.size + 1 + 1) < V5.heap.size) := Z.lt
        have nPQ : Hid (bP < V5.heap.size) := P.lt
        replace X := X.keep (grewW V5 (.cells #[.int .i64 tN, .int .i64 tD] 23))
        replace Y := Y.keep (grewW V5 (.cells #[.int .i64 tN, .int .i64 tD] 23))
        replace Z := Z.keep (grewW V5 (.cells #[.int .i64 tN, .int .i64 tD] 23))
        replace P := P.keep (grewW V5 (.cells #[.int .i64 tN, .int .i64 tD] 23))
        replace HB := later HB (grewW V5 (.cells #[.int .i64 tN, .int .i64 tD] 23))
        have Q := has2_new V5 (.int .i64 tN) (.int .i64 tD) 23
        generalize V5.alloc (.cells #[.int .i64 tN, .int .i64 tD] 23) = V6 at *
        generalize V5.heap.size = bQ at *
        obtain ⟨qX0, qX1, qX2, qX3, qX4⟩ := id X; obtain ⟨qY0, qY1, qY2, qY3, qY4⟩ := id Y; obtain ⟨qZ0, qZ1, qZ2, qZ3, qZ4⟩ := id Z; obtain ⟨qP0, qP1, qP2, qP3, qP4⟩ := id P; obtain ⟨qQ0, qQ1, qQ2, qQ3, qQ4⟩ := id Q
        by_cases k1 : se = 0
        · subst k1
          by_cases k2 : te = 0
          · subst k2
            have c8 := c7 rfl rfl
            clear c7
            go_wp2_with (go_at_call 24; (with_reducible refine (c8 _).mono ?_); rintro _ W9 ⟨rfl, hb1⟩; replace X := X.keep hb1; replace Y := Y.keep hb1; replace Z := Z.keep hb1; replace P := P.keep hb1; replace Q := Q.keep hb1; replace HB := later HB hb1; clear hb1)
            go_ret
            exact ⟨by simp, HB⟩
          · go_wp2_with fail
            go_ret
            exact ⟨by simp, HB⟩
        · go_wp2_with fail
          go_ret
          exact ⟨by simp, HB⟩
    · rcases hn with hn | ⟨rfl, hn⟩
      · skip
        go_upto_region 6 with (go_at_call 24; (with_reducible refine (c4 _).mono ?_); rintro _ V2 ⟨rfl, hb1⟩; replace X := X.keep hb1; replace Y := Y.keep hb1; replace Z := Z.keep hb1; replace HB := later HB hb1; clear hb1; clear qX0 qX1 qX2 qX3 qX4 qY0 qY1 qY2 qY3 qY4 qZ0 qZ1 qZ2 qZ3 qZ4; obtain ⟨qX0, qX1, qX2, qX3, qX4⟩ := id X; obtain ⟨qY0, qY1, qY2, qY3, qY4⟩ := id Y; obtain ⟨qZ0, qZ1, qZ2, qZ3, qZ4⟩ := id Z)
        go_upto_region 7 with (go_at_call 14; (with_reducible refine (c5 _).mono ?_); rintro _ V3 ⟨rfl, hb1⟩; replace X := X.keep hb1; replace Y := Y.keep hb1; replace Z := Z.keep hb1; replace HB := later HB hb1; clear hb1; clear qX0 qX1 qX2 qX3 qX4 qY0 qY1 qY2 qY3 qY4 qZ0 qZ1 qZ2 qZ3 qZ4; obtain ⟨qX0, qX1, qX2, qX3, qX4⟩ := id X; obtain ⟨qY0, qY1, qY2, qY3, qY4⟩ := id Y; obtain ⟨qZ0, qZ1, qZ2, qZ3, qZ4⟩ := id Z)
        clear qX0 qX1 qX2 qX3 qX4 qY0 qY1 qY2 qY3 qY4 qZ0 qZ1 qZ2 qZ3 qZ4
        have nXP : Hid ((w.heap.size) < V3.heap.size) := X.lt
        have nYP : Hid ((w.heap.size + 1) < V3.heap.size) := Y.lt
        have nZP : Hid ((w.heap.size + 1 + 1) < V3.heap.size) := Z.lt
        replace X := X.keep (grewW V3 (.cells #[.int .i64 sN, .int .i64 sD] 23))
        replace Y := Y.keep (grewW V3 (.cells #[.int .i64 sN, .int .i64 sD] 23))
        replace Z := Z.keep (grewW V3 (.cells #[.int .i64 sN, .int .i64 sD] 23))
        replace HB := later HB (grewW V3 (.cells #[.int .i64 sN, .int .i64 sD] 23))
        have P := has2_new V3 (.int .i64 sN) (.int .i64 sD) 23
        generalize V3.alloc (.cells #[.int .i64 sN, .int .i64 sD] 23) = V4 at *
        generalize V3.heap.size = bP at *
        obtain ⟨qX0, qX1, qX2, qX3, qX4⟩ := id X; obtain ⟨qY0, qY1, qY2, qY3, qY4⟩ := id Y; obtain ⟨qZ0, qZ1, qZ2, qZ3, qZ4⟩ := id Z; obtain ⟨qP0, qP1, qP2, qP3, qP4⟩ := id P
        go_upto_region 8 with (go_at_call 14; (with_reducible refine (c6 _).mono ?_); rintro _ V5 ⟨rfl, hb1⟩; replace X := X.keep hb1; replace Y := Y.keep hb1; replace Z := Z.keep hb1; replace P := P.keep hb1; replace HB := later HB hb1; clear hb1; clear qX0 qX1 qX2 qX3 qX4 qY0 qY1 qY2 qY3 qY4 qZ0 qZ1 qZ2 qZ3 qZ4 qP0 qP1 qP2 qP3 qP4; obtain ⟨qX0, qX1, qX2, qX3, qX4⟩ := id X; obtain ⟨qY0, qY1, qY2, qY3, qY4⟩ := id Y; obtain ⟨qZ0, qZ1, qZ2, qZ3, qZ4⟩ := id Z; obtain ⟨qP0, qP1, qP2, qP3, qP4⟩ := id P)
        clear qX0 qX1 qX2 qX3 qX4 qY0 qY1 qY2 qY3 qY4 qZ0 qZ1 qZ2 qZ3 qZ4 qP0 qP1 qP2 qP3 qP4
        have nXQ : Hid ((w.heap.size) < V5.heap.size) := X.lt
        have nYQ : Hid ((w.heap.size + 1) < V5.heap.size) := Y.lt
        have nZQ : Hid ((w.heap.size + 1 + 1) < V5.heap.size) := Z.lt
        have nPQ : Hid (bP < V5.heap.size) := P.lt
        replace X := X.keep (grewW V5 (.cells #[.int .i64 tN, .int .i64 tD] 23))
        replace Y := Y.keep (grewW V5 (.cells #[.int .i64 tN, .int .i64 tD] 23))
        replace Z := Z.keep (grewW V5 (.cells #[.int .i64 tN, .int .i64 tD] 23))
        replace P := P.keep (grewW V5 (.cells #[.int .i64 tN, .int .i64 tD] 23))
        replace HB := later HB (grewW V5 (.cells #[.int .i64 tN, .int .i64 tD] 23))
        have Q := has2_new V5 (.int .i64 tN) (.int .i64 tD) 23
        generalize V5.alloc (.cells #[.int .i64 tN, .int .i64 tD] 23) = V6 at *
        generalize V5.heap.size = bQ at *
        obtain ⟨qX0, qX1, qX2, qX3, qX4⟩ := id X; obtain ⟨qY0, qY1, qY2, qY3, qY4⟩ := id Y; obtain ⟨qZ0, qZ1, qZ2, qZ3, qZ4⟩ := id Z; obtain ⟨qP0, qP1, qP2, qP3, qP4⟩ := id P; obtain ⟨qQ0, qQ1, qQ2, qQ3, qQ4⟩ := id Q
        by_cases k1 : se = 0
        · subst k1
          by_cases k2 : te = 0
          · subst k2
            have c8 := c7 rfl rfl
            clear c7
            go_wp2_with (go_at_call 24; (with_reducible refine (c8 _).mono ?_); rintro _ W9 ⟨rfl, hb1⟩; replace X := X.keep hb1; replace Y := Y.keep hb1; replace Z := Z.keep hb1; replace P := P.keep hb1; replace Q := Q.keep hb1; replace HB := later HB hb1; clear hb1)
            go_ret
            exact ⟨by simp, HB⟩
          · go_wp2_with fail
            go_ret
            exact ⟨by simp, HB⟩
        · go_wp2_with fail
          go_ret
          exact ⟨by simp, HB⟩
      · skip
        go_upto_region 6 with (go_at_call 24; (with_reducible refine (c4 _).mono ?_); rintro _ V2 ⟨rfl, hb1⟩; replace X := X.keep hb1; replace Y := Y.keep hb1; replace Z := Z.keep hb1; replace HB := later HB hb1; clear hb1; clear qX0 qX1 qX2 qX3 qX4 qY0 qY1 qY2 qY3 qY4 qZ0 qZ1 qZ2 qZ3 qZ4; obtain ⟨qX0, qX1, qX2, qX3, qX4⟩ := id X; obtain ⟨qY0, qY1, qY2, qY3, qY4⟩ := id Y; obtain ⟨qZ0, qZ1, qZ2, qZ3, qZ4⟩ := id Z)
        go_upto_region 7 with (go_at_call 14; (with_reducible refine (c5 _).mono ?_); rintro _ V3 ⟨rfl, hb1⟩; replace X := X.keep hb1; replace Y := Y.keep hb1; replace Z := Z.keep hb1; replace HB := later HB hb1; clear hb1; clear qX0 qX1 qX2 qX3 qX4 qY0 qY1 qY2 qY3 qY4 qZ0 qZ1 qZ2 qZ3 qZ4; obtain ⟨qX0, qX1, qX2, qX3, qX4⟩ := id X; obtain ⟨qY0, qY1, qY2, qY3, qY4⟩ := id Y; obtain ⟨qZ0, qZ1, qZ2, qZ3, qZ4⟩ := id Z)
        clear qX0 qX1 qX2 qX3 qX4 qY0 qY1 qY2 qY3 qY4 qZ0 qZ1 qZ2 qZ3 qZ4
        have nXP : Hid ((w.heap.size) < V3.heap.size) := X.lt
        have nYP : Hid ((w.heap.size + 1) < V3.heap.size) := Y.lt
        have nZP : Hid ((w.heap.size + 1 + 1) < V3.heap.size) := Z.lt
        replace X := X.keep (grewW V3 (.cells #[.int .i64 sN, .int .i64 sD] 23))
        replace Y := Y.keep (grewW V3 (.cells #[.int .i64 sN, .int .i64 sD] 23))
        replace Z := Z.keep (grewW V3 (.cells #[.int .i64 sN, .int .i64 sD] 23))
        replace HB := later HB (grewW V3 (.cells #[.int .i64 sN, .int .i64 sD] 23))
        have P := has2_new V3 (.int .i64 sN) (.int .i64 sD) 23
        generalize V3.alloc (.cells #[.int .i64 sN, .int .i64 sD] 23) = V4 at *
        generalize V3.heap.size = bP at *
        obtain ⟨qX0, qX1, qX2, qX3, qX4⟩ := id X; obtain ⟨qY0, qY1, qY2, qY3, qY4⟩ := id Y; obtain ⟨qZ0, qZ1, qZ2, qZ3, qZ4⟩ := id Z; obtain ⟨qP0, qP1, qP2, qP3, qP4⟩ := id P
        go_upto_region 8 with (go_at_call 14; (with_reducible refine (c6 _).mono ?_); rintro _ V5 ⟨rfl, hb1⟩; replace X := X.keep hb1; replace Y := Y.keep hb1; replace Z := Z.keep hb1; replace P := P.keep hb1; replace HB := later HB hb1; clear hb1; clear qX0 qX1 qX2 qX3 qX4 qY0 qY1 qY2 qY3 qY4 qZ0 qZ1 qZ2 qZ3 qZ4 qP0 qP1 qP2 qP3 qP4; obtain ⟨qX0, qX1, qX2, qX3, qX4⟩ := id X; obtain ⟨qY0, qY1, qY2, qY3, qY4⟩ := id Y; obtain ⟨qZ0, qZ1, qZ2, qZ3, qZ4⟩ := id Z; obtain ⟨qP0, qP1, qP2, qP3, qP4⟩ := id P)
        clear qX0 qX1 qX2 qX3 qX4 qY0 qY1 qY2 qY3 qY4 qZ0 qZ1 qZ2 qZ3 qZ4 qP0 qP1 qP2 qP3 qP4
        have nXQ : Hid ((w.heap.size) < V5.heap.size) := X.lt
        have nYQ : Hid ((w.heap.size + 1) < V5.heap.size) := Y.lt
        have nZQ : Hid ((w.heap.size + 1 + 1) < V5.heap.size) := Z.lt
        have nPQ : Hid (bP < V5.heap.size) := P.lt
        replace X := X.keep (grewW V5 (.cells #[.int .i64 tN, .int .i64 tD] 23))
        replace Y := Y.keep (grewW V5 (.cells #[.int .i64 tN, .int .i64 tD] 23))
        replace Z := Z.keep (grewW V5 (.cells #[.int .i64 tN, .int .i64 tD] 23))
        replace P := P.keep (grewW V5 (.cells #[.int .i64 tN, .int .i64 tD] 23))
        replace HB := later HB (grewW V5 (.cells #[.int .i64 tN, .int .i64 tD] 23))
        have Q := has2_new V5 (.int .i64 tN) (.int .i64 tD) 23
        generalize V5.alloc (.cells #[.int .i64 tN, .int .i64 tD] 23) = V6 at *
        generalize V5.heap.size = bQ at *
        obtain ⟨qX0, qX1, qX2, qX3, qX4⟩ := id X; obtain ⟨qY0, qY1, qY2, qY3, qY4⟩ := id Y; obtain ⟨qZ0, qZ1, qZ2, qZ3, qZ4⟩ := id Z; obtain ⟨qP0, qP1, qP2, qP3, qP4⟩ := id P; obtain ⟨qQ0, qQ1, qQ2, qQ3, qQ4⟩ := id Q
        by_cases k1 : se = 0
        · subst k1
          by_cases k2 : te = 0
          · subst k2
            have c8 := c7 rfl rfl
            clear c7
            go_wp2_with (go_at_call 24; (with_reducible refine (c8 _).mono ?_); rintro _ W9 ⟨rfl, hb1⟩; replace X := X.keep hb1; replace Y := Y.keep hb1; replace Z := Z.keep hb1; replace P := P.keep hb1; replace Q := Q.keep hb1; replace HB := later HB hb1; clear hb1)
            go_ret
            exact ⟨by simp, HB⟩
          · go_wp2_with fail
            go_ret
            exact ⟨by simp, HB⟩
        · go_wp2_with fail
          go_ret
          exact ⟨by simp, HB⟩
  · rcases hx with ⟨rfl, hy, hz⟩ | ⟨rfl, hy⟩
    · skip
      go_upto_region 6 with (go_at_call 24; (with_reducible refine (c4 _).mono ?_); rintro _ V2 ⟨rfl, hb1⟩; replace X := X.keep hb1; replace Y := Y.keep hb1; replace Z := Z.keep hb1; replace HB := later HB hb1; clear hb1; clear qX0 qX1 qX2 qX3 qX4 qY0 qY1 qY2 qY3 qY4 qZ0 qZ1 qZ2 qZ3 qZ4; obtain ⟨qX0, qX1, qX2, qX3, qX4⟩ := id X; obtain ⟨qY0, qY1, qY2, qY3, qY4⟩ := id Y; obtain ⟨qZ0, qZ1, qZ2, qZ3, qZ4⟩ := id Z)
      go_upto_region 7 with (go_at_call 14; (with_reducible refine (c5 _).mono ?_); rintro _ V3 ⟨rfl, hb1⟩; replace X := X.keep hb1; replace Y := Y.keep hb1; replace Z := Z.keep hb1; replace HB := later HB hb1; clear hb1; clear qX0 qX1 qX2 qX3 qX4 qY0 qY1 qY2 qY3 qY4 qZ0 qZ1 qZ2 qZ3 qZ4; obtain ⟨qX0, qX1, qX2, qX3, qX4⟩ := id X; obtain ⟨qY0, qY1, qY2, qY3, qY4⟩ := id Y; obtain ⟨qZ0, qZ1, qZ2, qZ3, qZ4⟩ := id Z)
      clear qX0 qX1 qX2 qX3 qX4 qY0 qY1 qY2 qY3 qY4 qZ0 qZ1 qZ2 qZ3 qZ4
      have nXP : Hid ((w.heap.size) < V3.heap.size) := X.lt
      have nYP : Hid ((w.heap.size + 1) < V3.heap.size) := Y.lt
      have nZP : Hid ((w.heap.size + 1 + 1) < V3.heap.size) := Z.lt
      replace X := X.keep (grewW V3 (.cells #[.int .i64 sN, .int .i64 sD] 23))
      replace Y := Y.keep (grewW V3 (.cells #[.int .i64 sN, .int .i64 sD] 23))
      replace Z := Z.keep (grewW V3 (.cells #[.int .i64 sN, .int .i64 sD] 23))
      replace HB := later HB (grewW V3 (.cells #[.int .i64 sN, .int .i64 sD] 23))
      have P := has2_new V3 (.int .i64 sN) (.int .i64 sD) 23
      generalize V3.alloc (.cells #[.int .i64 sN, .int .i64 sD] 23) = V4 at *
      generalize V3.heap.size = bP at *
      obtain ⟨qX0, qX1, qX2, qX3, qX4⟩ := id X; obtain ⟨qY0, qY1, qY2, qY3, qY4⟩ := id Y; obtain ⟨qZ0, qZ1, qZ2, qZ3, qZ4⟩ := id Z; obtain ⟨qP0, qP1, qP2, qP3, qP4⟩ := id P
      go_upto_region 8 with (go_at_call 14; (with_reducible refine (c6 _).mono ?_); rintro _ V5 ⟨rfl, hb1⟩; replace X := X.keep hb1; replace Y := Y.keep hb1; replace Z := Z.keep hb1; replace P := P.keep hb1; replace HB := later HB hb1; clear hb1; clear qX0 qX1 qX2 qX3 qX4 qY0 qY1 qY2 qY3 qY4 qZ0 qZ1 qZ2 qZ3 qZ4 qP0 qP1 qP2 qP3 qP4; obtain ⟨qX0, qX1, qX2, qX3, qX4⟩ := id X; obtain ⟨qY0, qY1, qY2, qY3, qY4⟩ := id Y; obtain ⟨qZ0, qZ1, qZ2, qZ3, qZ4⟩ := id Z; obtain ⟨qP0, qP1, qP2, qP3, qP4⟩ := id P)
      clear qX0 qX1 qX2 qX3 qX4 qY0 qY1 qY2 qY3 qY4 qZ0 qZ1 qZ2 qZ3 qZ4 qP0 qP1 qP2 qP3 qP4
      have nXQ : Hid ((w.heap.size) < V5.heap.size) := X.lt
      have nYQ : Hid ((w.heap.size + 1) < V5.heap.size) := Y.lt
      have nZQ : Hid ((w.heap.size + 1 + 1) < V5.heap.size) := Z.lt
      have nPQ : Hid (bP < V5.heap.size) := P.lt
      replace X := X.keep (grewW V5 (.cells #[.int .i64 tN, .int .i64 tD] 23))
      replace Y := Y.keep (grewW V5 (.cells #[.int .i64 tN, .int .i64 tD] 23))
      replace Z := Z.keep (grewW V5 (.cells #[.int .i64 tN, .int .i64 tD] 23))
      replace P := P.keep (grewW V5 (.cells #[.int .i64 tN, .int .i64 tD] 23))
      replace HB := later HB (grewW V5 (.cells #[.int .i64 tN, .int .i64 tD] 23))
      have Q := has2_new V5 (.int .i64 tN) (.int .i64 tD) 23
      generalize V5.alloc (.cells #[.int .i64 tN, .int .i64 tD] 23) = V6 at *
      generalize V5.heap.size = bQ at *
      obtain ⟨qX0, qX1, qX2, qX3, qX4⟩ := id X; obtain ⟨qY0, qY1, qY2, qY3, qY4⟩ := id Y; obtain ⟨qZ0, qZ1, qZ2, qZ3, qZ4⟩ := id Z; obtain ⟨qP0, qP1, qP2, qP3, qP4⟩ := id P; obtain ⟨qQ0, qQ1, qQ2, qQ3, qQ4⟩ := id Q
      by_cases k1 : se = 0
      · subst k1
        by_cases k2 : te = 0
        · subst k2
          have c8 := c7 rfl rfl
          clear c7
          go_wp2_with (go_at_call 24; (with_reducible refine (c8 _).mono ?_); rintro _ W9 ⟨rfl, hb1⟩; replace X := X.keep hb1; replace Y := Y.keep hb1; replace Z := Z.keep hb1; replace P := P.keep hb1; replace Q := Q.keep hb1; replace HB := later HB hb1; clear hb1)
          go_ret
          exact ⟨by simp, HB⟩
        · go_wp2_with fail
          go_ret
          exact ⟨by simp, HB⟩
      · go_wp2_with fail
        go_ret
        exact ⟨by simp, HB⟩
    · skip
      go_upto_region 6 with (go_at_call 24; (with_reducible refine (c4 _).mono ?_); rintro _ V2 ⟨rfl, hb1⟩; replace X := X.keep hb1; replace Y := Y.keep hb1; replace Z := Z.keep hb1; replace HB := later HB hb1; clear hb1; clear qX0 qX1 qX2 qX3 qX4 qY0 qY1 qY2 qY3 qY4 qZ0 qZ1 qZ2 qZ3 qZ4; obtain ⟨qX0, qX1, qX2, qX3, qX4⟩ := id X; obtain ⟨qY0, qY1, qY2, qY3, qY4⟩ := id Y; obtain ⟨qZ0, qZ1, qZ2, qZ3, qZ4⟩ := id Z)
      go_upto_region 7 with (go_at_call 14; (with_reducible refine (c5 _).mono ?_); rintro _ V3 ⟨rfl, hb1⟩; replace X := X.keep hb1; replace Y := Y.keep hb1; replace Z := Z.keep hb1; replace HB := later HB hb1; clear hb1; clear qX0 qX1 qX2 qX3 qX4 qY0 qY1 qY2 qY3 qY4 qZ0 qZ1 qZ2 qZ3 qZ4; obtain ⟨qX0, qX1, qX2, qX3, qX4⟩ := id X; obtain ⟨qY0, qY1, qY2, qY3, qY4⟩ := id Y; obtain ⟨qZ0, qZ1, qZ2, qZ3, qZ4⟩ := id Z)
      clear qX0 qX1 qX2 qX3 qX4 qY0 qY1 qY2 qY3 qY4 qZ0 qZ1 qZ2 qZ3 qZ4
      have nXP : Hid ((w.heap.size) < V3.heap.size) := X.lt
      have nYP : Hid ((w.heap.size + 1) < V3.heap.size) := Y.lt
      have nZP : Hid ((w.heap.size + 1 + 1) < V3.heap.size) := Z.lt
      replace X := X.keep (grewW V3 (.cells #[.int .i64 sN, .int .i64 sD] 23))
      replace Y := Y.keep (grewW V3 (.cells #[.int .i64 sN, .int .i64 sD] 23))
      replace Z := Z.keep (grewW V3 (.cells #[.int .i64 sN, .int .i64 sD] 23))
      replace HB := later HB (grewW V3 (.cells #[.int .i64 sN, .int .i64 sD] 23))
      have P := has2_new V3 (.int .i64 sN) (.int .i64 sD) 23
      generalize V3.alloc (.cells #[.int .i64 sN, .int .i64 sD] 23) = V4 at *
      generalize V3.heap.size = bP at *
      obtain ⟨qX0, qX1, qX2, qX3, qX4⟩ := id X; obtain ⟨qY0, qY1, qY2, qY3, qY4⟩ := id Y; obtain ⟨qZ0, qZ1, qZ2, qZ3, qZ4⟩ := id Z; obtain ⟨qP0, qP1, qP2, qP3, qP4⟩ := id P
      go_upto_region 8 with (go_at_call 14; (with_reducible refine (c6 _).mono ?_); rintro _ V5 ⟨rfl, hb1⟩; replace X := X.keep hb1; replace Y := Y.keep hb1; replace Z := Z.keep hb1; replace P := P.keep hb1; replace HB := later HB hb1; clear hb1; clear qX0 qX1 qX2 qX3 qX4 qY0 qY1 qY2 qY3 qY4 qZ0 qZ1 qZ2 qZ3 qZ4 qP0 qP1 qP2 qP3 qP4; obtain ⟨qX0, qX1, qX2, qX3, qX4⟩ := id X; obtain ⟨qY0, qY1, qY2, qY3, qY4⟩ := id Y; obtain ⟨qZ0, qZ1, qZ2, qZ3, qZ4⟩ := id Z; obtain ⟨qP0, qP1, qP2, qP3, qP4⟩ := id P)
      clear qX0 qX1 qX2 qX3 qX4 qY0 qY1 qY2 qY3 qY4 qZ0 qZ1 qZ2 qZ3 qZ4 qP0 qP1 qP2 qP3 qP4
      have nXQ : Hid ((w.heap.size) < V5.heap.size) := X.lt
      have nYQ : Hid ((w.heap.size + 1) < V5.heap.size) := Y.lt
      have nZQ : Hid ((w.heap.size + 1 + 1) < V5.heap.size) := Z.lt
      have nPQ : Hid (bP < V5.heap.size) := P.lt
      replace X := X.keep (grewW V5 (.cells #[.int .i64 tN, .int .i64 tD] 23))
      replace Y := Y.keep (grewW V5 (.cells #[.int .i64 tN, .int .i64 tD] 23))
      replace Z := Z.keep (grewW V5 (.cells #[.int .i64 tN, .int .i64 tD] 23))
      replace P := P.keep (grewW V5 (.cells #[.int .i64 tN, .int .i64 tD] 23))
      replace HB := later HB (grewW V5 (.cells #[.int .i64 tN, .int .i64 tD] 23))
      have Q := has2_new V5 (.int .i64 tN) (.int .i64 tD) 23
      generalize V5.alloc (.cells #[.int .i64 tN, .int .i64 tD] 23) = V6 at *
      generalize V5.heap.size = bQ at *
      obtain ⟨qX0, qX1, qX2, qX3, qX4⟩ := id X; obtain ⟨qY0, qY1, qY2, qY3, qY4⟩ := id Y; obtain ⟨qZ0, qZ1, qZ2, qZ3, qZ4⟩ := id Z; obtain ⟨qP0, qP1, qP2, qP3, qP4⟩ := id P; obtain ⟨qQ0, qQ1, qQ2, qQ3, qQ4⟩ := id Q
      by_cases k1 : se = 0
      · subst k1
        by_cases k2 : te = 0
        · subst k2
          have c8 := c7 rfl rfl
          clear c7
          go_wp2_with (go_at_call 24; (with_reducible refine (c8 _).mono ?_); rintro _ W9 ⟨rfl, hb1⟩; replace X := X.keep hb1; replace Y := Y.keep hb1; replace Z := Z.keep hb1; replace P := P.keep hb1; replace Q := Q.keep hb1; replace HB := later HB hb1; clear hb1)
          go_ret
          exact ⟨by simp, HB⟩
        · go_wp2_with fail
          go_ret
          exact ⟨by simp, HB⟩
      · go_wp2_with fail
        go_ret
        exact ⟨by simp, HB⟩

end Go.Proofs.Ytdnpoacjamkhkaa
