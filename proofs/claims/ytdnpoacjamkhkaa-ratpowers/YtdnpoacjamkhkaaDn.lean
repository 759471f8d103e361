/- The program: Make, Add, Sub, Mul, Div of quotients (rat). The program: powers of quotients (rat.Pow), walked over letters. The program's Add, Sub, Mul, Div, Pow of quotients answer the exact ones in their form (rat). The program: the order of quotients (rat.Cmp). -/
import Derived.Test.YtdnpoacjamkhkaaDj
import Derived.Test.YtdnpoacjamkhkaaAj
import Derived.Test.YtdnpoacjamkhkaaAi
import Derived.Test.YtdnpoacjamkhkaaAk
namespace Go.Proofs.Ytdnpoacjamkhkaa
open Go.ChangeShapes Go.WideShapes Go.ChangeAt Go.RowKit

theorem sg_small {q : Nat} (h : q < 18446744073709551616) : Sg 0 q (q : Int) := ⟨by decide, h, by omega⟩
set_option maxHeartbeats 2000000 in
theorem rmake_core (n d : Int) (pn pd cm q1 q2 : Nat) (g : Bool) (x y e : Int) (hd : ¬ d = 0)
    (c1 : ∀ W, Calls Try.prog 37 #[.int .i64 n] W fun r w' => r = .returned (.int .u64 (pn : Int)) ∧ W = w')
    (c2 : ∀ W, Calls Try.prog 37 #[.int .i64 d] W fun r w' => r = .returned (.int .u64 (pd : Int)) ∧ W = w')
    (c3 : ∀ W, Calls Try.prog 36 #[.int .u64 (pn : Int), .int .u64 (pd : Int)] W fun r w' => r = .returned (.int .u64 (cm : Int)) ∧ Below W.heap.size W w')
    (c4 : ∀ W, Calls Try.prog 38 #[.bool g, .agg #[.int .u64 0, .int .u64 (q1 : Int)], .agg #[.int .u64 0, .int .u64 (q2 : Int)]] W fun r w' => r = .returned (.tuple #[.agg #[.int .i64 x, .int .i64 y], .int .i64 e]) ∧ Below W.heap.size W w')
    (d1 : ¬ (cm : Int) = 0) (e1 : IntKind.u64.wrap ((pn : Int) / (cm : Int)) = (q1 : Int)) (e2 : IntKind.u64.wrap ((pd : Int) / (cm : Int)) = (q2 : Int)) (hg : (!(decide (n < 0) == decide (d < 0))) = g) (w : World) :
    Calls Try.prog 10 #[.int .i64 n, .int .i64 d] w fun r w' => r = .returned (.tuple #[.agg #[.int .i64 x, .int .i64 y], .int .i64 e]) ∧ Below w.heap.size w w' := by
  have HB : Below w.heap.size w (w.alloc (.cells #[.int .i64 0, .int .i64 0] 23)) := by go_grown
  have Z := has2_new w (.int .i64 0) (.int .i64 0) 23
  go_enter Try.func10, Try.ntmps10
  go_upto_region 1 with fail
  generalize (w.alloc (.cells #[.int .i64 0, .int .i64 0] 23)) = V1 at *
  go_upto_region 4 with (first
    | (go_at_call_of 37 (Value.int .i64 n); (with_reducible refine (c1 _).mono ?_); rintro _ _ ⟨rfl, rfl⟩)
    | (go_at_call_of 37 (Value.int .i64 d); (with_reducible refine (c2 _).mono ?_); rintro _ _ ⟨rfl, rfl⟩)
    | (go_at_call 36; (with_reducible refine (c3 _).mono ?_); rintro _ V2 ⟨rfl, hb1⟩; replace Z := Z.keep hb1; replace HB := later HB hb1; clear hb1))

  refine tail_behind 18 (by kernel_rfl) (by kernel_rfl) ?_
  simp only [List.take_succ_cons, List.take_zero, List.drop_succ_cons, List.drop_zero]
  repeat (go_big_quiet_step (first | (go_at_call_of 37 (Value.int .i64 n); with_reducible refine Behind.same (c1 _)) | (go_at_call_of 37 (Value.int .i64 d); with_reducible refine Behind.same (c2 _)) | (go_at_call 38; with_reducible refine Behind.call (c4 _))))
  refine wpQuiet_nil ?_
  rintro _ ⟨m', rfl⟩
  obtain ⟨V3, hb1⟩ := m'
  dsimp only
  replace Z := Z.keep hb1
  replace HB := later HB hb1
  clear hb1
  obtain ⟨z0, z1, z2, z3, z4⟩ := id Z
  go_wp2_with fail
  refine bodyPost_ret (v := .tuple #[.agg #[.int .i64 x, .int .i64 y], .int .i64 e]) (by simp [results, Try.results10, go_sem, *]) rfl ⟨rfl, ?_⟩
  repeat' (first | (with_reducible exact HB) | (with_reducible refine Below.setCell ?_ ?_ _) | go_size)

theorem mkRat_w (n d : Int) (hn : I64 n) (hd : I64 d) (w : World) :
    Calls Try.prog 10 #[.int .i64 n, .int .i64 d] w fun r w' => r = .returned (.tuple #[.agg #[.int .i64 (mkV n d).1, .int .i64 (mkV n d).2.1], .int .i64 (mkV n d).2.2]) ∧ Below w.heap.size w w' := by
  by_cases c : d = 0
  · subst c
    have e : mkV n 0 = (0, 0, 6) := by unfold mkV; rw [if_pos rfl]
    rw [e]
    clear e
    go_enter Try.func10, Try.ntmps10
    go_wp2_with fail
    refine bodyPost_ret (v := .tuple #[.agg #[.int .i64 0, .int .i64 0], .int .i64 6]) (by simp [results, Try.results10, go_sem, *]) rfl ⟨rfl, ?_⟩
    go_grown
  · have e : mkV n d = ofV (!(decide (n < 0) == decide (d < 0))) n.natAbs d.natAbs := by unfold mkV; rw [if_neg c]
    rw [e]
    obtain ⟨a1, a2⟩ := hn
    obtain ⟨b1, b2⟩ := hd
    have p : 0 < Nat.gcd n.natAbs d.natAbs := Nat.gcd_pos_of_pos_right _ (by omega)
    have l1 : n.natAbs / Nat.gcd n.natAbs d.natAbs < 18446744073709551616 := Nat.lt_of_le_of_lt (Nat.div_le_self _ _) (by omega)
    have l2 : d.natAbs / Nat.gcd n.natAbs d.natAbs < 18446744073709551616 := Nat.lt_of_le_of_lt (Nat.div_le_self _ _) (by omega)
    have l3 : 0 < d.natAbs / Nat.gcd n.natAbs d.natAbs := Nat.div_pos (Nat.gcd_le_right _ (by omega)) p
    have cop : Nat.gcd (n.natAbs / Nat.gcd n.natAbs d.natAbs) (d.natAbs / Nat.gcd n.natAbs d.natAbs) = 1 := Nat.coprime_div_gcd_div_gcd p
    have e1 := Nat.div_mul_cancel (Nat.gcd_dvd_left n.natAbs d.natAbs)
    have e2 := Nat.div_mul_cancel (Nat.gcd_dvd_right n.natAbs d.natAbs)
    have o := ofV_low (g := !(decide (n < 0) == decide (d < 0))) p l3 cop
    rw [e1, e2, ← mdV_is (nh := 0) (nl := n.natAbs / Nat.gcd n.natAbs d.natAbs) (dh := 0) (dl := d.natAbs / Nat.gcd n.natAbs d.natAbs) (sg_small l1) (sg_small l2) (by omega) (by omega)] at o
    rw [o]
    exact rmake_core n d _ _ _ _ _ _ _ _ _ c (fun W => ramount_w n a1 a2 W) (fun W => ramount_w d b1 b2 W) (fun W => rdivisor_w _ _ W) (fun W => made_w _ 0 _ 0 _ W) (by omega) (quo_wrap _ _ (by omega)) (quo_wrap _ _ (by omega)) rfl w

set_option maxHeartbeats 2000000 in
theorem rAdd_bad (aN aD bN bD : Int) (b1 b2 : Bool) (h : (b1 && b2) = false)
    (r1 : ∀ W, Calls Try.prog 12 #[.agg #[.int .i64 aN, .int .i64 aD]] W fun r w' => r = .returned (.bool b1) ∧ Below W.heap.size W w')
    (r2 : ∀ W, Calls Try.prog 12 #[.agg #[.int .i64 bN, .int .i64 bD]] W fun r w' => r = .returned (.bool b2) ∧ Below W.heap.size W w') (w : World) :
    Calls Try.prog 14 #[.agg #[.int .i64 aN, .int .i64 aD], .agg #[.int .i64 bN, .int .i64 bD]] w fun r w' => r = .returned (.tuple #[.agg #[.int .i64 0, .int .i64 0], .int .i64 1]) ∧ Below w.heap.size w w' := by
  have HB : Below w.heap.size w (((w.alloc (.cells #[.int .i64 aN, .int .i64 aD] 23)).alloc (.cells #[.int .i64 bN, .int .i64 bD] 23)).alloc (.cells #[.int .i64 0, .int .i64 0] 23)) := by go_grown
  have X : Has2 (((w.alloc (.cells #[.int .i64 aN, .int .i64 aD] 23)).alloc (.cells #[.int .i64 bN, .int .i64 bD] 23)).alloc (.cells #[.int .i64 0, .int .i64 0] 23)) w.heap.size (.int .i64 aN) (.int .i64 aD) := ⟨by go_simp, by go_simp, by go_simp, by go_simp, by go_size⟩
  have Y : Has2 (((w.alloc (.cells #[.int .i64 aN, .int .i64 aD] 23)).alloc (.cells #[.int .i64 bN, .int .i64 bD] 23)).alloc (.cells #[.int .i64 0, .int .i64 0] 23)) (w.heap.size + 1) (.int .i64 bN) (.int .i64 bD) := ⟨by go_simp, by go_simp, by go_simp, by go_simp, by go_size⟩
  have Z : Has2 (((w.alloc (.cells #[.int .i64 aN, .int .i64 aD] 23)).alloc (.cells #[.int .i64 bN, .int .i64 bD] 23)).alloc (.cells #[.int .i64 0, .int .i64 0] 23)) (w.heap.size + 1 + 1) (.int .i64 0) (.int .i64 0) := ⟨by go_simp, by go_simp, by go_simp, by go_simp, by go_size⟩
  go_enter Try.func14, Try.ntmps14
  go_upto_region 1 with fail
  generalize (((w.alloc (.cells #[.int .i64 aN, .int .i64 aD] 23)).alloc (.cells #[.int .i64 bN, .int .i64 bD] 23)).alloc (.cells #[.int .i64 0, .int .i64 0] 23)) = V1 at *
  obtain ⟨px0, px1, px2, px3, px4⟩ := id X; obtain ⟨py0, py1, py2, py3, py4⟩ := id Y; obtain ⟨pz0, pz1, pz2, pz3, pz4⟩ := id Z
  cases b1
  · go_wp2_with (go_at_call_of 12 (Value.agg #[.int .i64 aN, .int .i64 aD]); (with_reducible refine (r1 _).mono ?_); rintro _ W1 ⟨rfl, hb1⟩; replace X := X.keep hb1; replace Y := Y.keep hb1; replace Z := Z.keep hb1; replace HB := later HB hb1; clear hb1; obtain ⟨p1x0, p1x1, p1x2, p1x3, p1x4⟩ := id X; obtain ⟨p1y0, p1y1, p1y2, p1y3, p1y4⟩ := id Y; obtain ⟨p1z0, p1z1, p1z2, p1z3, p1z4⟩ := id Z)
    refine bodyPost_ret (v := .tuple #[.agg #[.int .i64 0, .int .i64 0], .int .i64 1]) (by simp [results, Try.results14, go_sem, *]) rfl ⟨rfl, ?_⟩; repeat' (first | (with_reducible exact HB) | (with_reducible refine Below.setCell ?_ ?_ _) | go_size)
  · cases b2
    · go_wp2_with (first | (go_at_call_of 12 (Value.agg #[.int .i64 aN, .int .i64 aD]); (with_reducible refine (r1 _).mono ?_); rintro _ W1 ⟨rfl, hb1⟩; replace X := X.keep hb1; replace Y := Y.keep hb1; replace Z := Z.keep hb1; replace HB := later HB hb1; clear hb1; obtain ⟨p1x0, p1x1, p1x2, p1x3, p1x4⟩ := id X; obtain ⟨p1y0, p1y1, p1y2, p1y3, p1y4⟩ := id Y; obtain ⟨p1z0, p1z1, p1z2, p1z3, p1z4⟩ := id Z) | (go_at_call_of 12 (Value.agg #[.int .i64 bN, .int .i64 bD]); (with_reducible refine (r2 _).mono ?_); rintro _ W2 ⟨rfl, hb1⟩; replace X := X.keep hb1; replace Y := Y.keep hb1; replace Z := Z.keep hb1; replace HB := later HB hb1; clear hb1; obtain ⟨p2x0, p2x1, p2x2, p2x3, p2x4⟩ := id X; obtain ⟨p2y0, p2y1, p2y2, p2y3, p2y4⟩ := id Y; obtain ⟨p2z0, p2z1, p2z2, p2z3, p2z4⟩ := id Z))
      refine bodyPost_ret (v := .tuple #[.agg #[.int .i64 0, .int .i64 0], .int .i64 1]) (by simp [results, Try.results14, go_sem, *]) rfl ⟨rfl, ?_⟩; repeat' (first | (with_reducible exact HB) | (with_reducible refine Below.setCell ?_ ?_ _) | go_size)
    · cases h

set_option maxHeartbeats 2000000 in
theorem rAdd_good (aN aD bN bD x y e : Int) 
    (r1 : ∀ W, Calls Try.prog 12 #[.agg #[.int .i64 aN, .int .i64 aD]] W fun r w' => r = .returned (.bool true) ∧ Below W.heap.size W w')
    (r2 : ∀ W, Calls Try.prog 12 #[.agg #[.int .i64 bN, .int .i64 bD]] W fun r w' => r = .returned (.bool true) ∧ Below W.heap.size W w')
    (c : ∀ W, Calls Try.prog 44 #[.agg #[.int .i64 aN, .int .i64 aD], .agg #[.int .i64 bN, .int .i64 bD]] W fun r w' => r = .returned (.tuple #[.agg #[.int .i64 x, .int .i64 y], .int .i64 e]) ∧ Below W.heap.size W w') (w : World) :
    Calls Try.prog 14 #[.agg #[.int .i64 aN, .int .i64 aD], .agg #[.int .i64 bN, .int .i64 bD]] w fun r w' => r = .returned (.tuple #[.agg #[.int .i64 x, .int .i64 y], .int .i64 e]) ∧ Below w.heap.size w w' := by
  have HB : Below w.heap.size w (((w.alloc (.cells #[.int .i64 aN, .int .i64 aD] 23)).alloc (.cells #[.int .i64 bN, .int .i64 bD] 23)).alloc (.cells #[.int .i64 0, .int .i64 0] 23)) := by go_grown
  have X : Has2 (((w.alloc (.cells #[.int .i64 aN, .int .i64 aD] 23)).alloc (.cells #[.int .i64 bN, .int .i64 bD] 23)).alloc (.cells #[.int .i64 0, .int .i64 0] 23)) w.heap.size (.int .i64 aN) (.int .i64 aD) := ⟨by go_simp, by go_simp, by go_simp, by go_simp, by go_size⟩
  have Y : Has2 (((w.alloc (.cells #[.int .i64 aN, .int .i64 aD] 23)).alloc (.cells #[.int .i64 bN, .int .i64 bD] 23)).alloc (.cells #[.int .i64 0, .int .i64 0] 23)) (w.heap.size + 1) (.int .i64 bN) (.int .i64 bD) := ⟨by go_simp, by go_simp, by go_simp, by go_simp, by go_size⟩
  have Z : Has2 (((w.alloc (.cells #[.int .i64 aN, .int .i64 aD] 23)).alloc (.cells #[.int .i64 bN, .int .i64 bD] 23)).alloc (.cells #[.int .i64 0, .int .i64 0] 23)) (w.heap.size + 1 + 1) (.int .i64 0) (.int .i64 0) := ⟨by go_simp, by go_simp, by go_simp, by go_simp, by go_size⟩
  go_enter Try.func14, Try.ntmps14
  go_upto_region 1 with fail
  generalize (((w.alloc (.cells #[.int .i64 aN, .int .i64 aD] 23)).alloc (.cells #[.int .i64 bN, .int .i64 bD] 23)).alloc (.cells #[.int .i64 0, .int .i64 0] 23)) = V1 at *
  obtain ⟨px0, px1, px2, px3, px4⟩ := id X; obtain ⟨py0, py1, py2, py3, py4⟩ := id Y; obtain ⟨pz0, pz1, pz2, pz3, pz4⟩ := id Z
  go_wp2_with (first | (go_at_call_of 12 (Value.agg #[.int .i64 aN, .int .i64 aD]); (with_reducible refine (r1 _).mono ?_); rintro _ W1 ⟨rfl, hb1⟩; replace X := X.keep hb1; replace Y := Y.keep hb1; replace Z := Z.keep hb1; replace HB := later HB hb1; clear hb1; obtain ⟨p1x0, p1x1, p1x2, p1x3, p1x4⟩ := id X; obtain ⟨p1y0, p1y1, p1y2, p1y3, p1y4⟩ := id Y; obtain ⟨p1z0, p1z1, p1z2, p1z3, p1z4⟩ := id Z) | (go_at_call_of 12 (Value.agg #[.int .i64 bN, .int .i64 bD]); (with_reducible refine (r2 _).mono ?_); rintro _ W2 ⟨rfl, hb1⟩; replace X := X.keep hb1; replace Y := Y.keep hb1; replace Z := Z.keep hb1; replace HB := later HB hb1; clear hb1; obtain ⟨p2x0, p2x1, p2x2, p2x3, p2x4⟩ := id X; obtain ⟨p2y0, p2y1, p2y2, p2y3, p2y4⟩ := id Y; obtain ⟨p2z0, p2z1, p2z2, p2z3, p2z4⟩ := id Z) | (go_at_call 44; (with_reducible refine (c _).mono ?_); rintro _ W3 ⟨rfl, hb1⟩; replace X := X.keep hb1; replace Y := Y.keep hb1; replace Z := Z.keep hb1; replace HB := later HB hb1; clear hb1; obtain ⟨p3x0, p3x1, p3x2, p3x3, p3x4⟩ := id X; obtain ⟨p3y0, p3y1, p3y2, p3y3, p3y4⟩ := id Y; obtain ⟨p3z0, p3z1, p3z2, p3z3, p3z4⟩ := id Z))
  refine bodyPost_ret (v := .tuple #[.agg #[.int .i64 x, .int .i64 y], .int .i64 e]) (by simp [results, Try.results14, go_sem, *]) rfl ⟨rfl, ?_⟩; repeat' (first | (with_reducible exact HB) | (with_reducible refine Below.setCell ?_ ?_ _) | go_size)

set_option maxHeartbeats 2000000 in
theorem rSub_bad (aN aD bN bD : Int) (b1 b2 : Bool) (h : (b1 && b2) = false)
    (r1 : ∀ W, Calls Try.prog 12 #[.agg #[.int .i64 aN, .int .i64 aD]] W fun r w' => r = .returned (.bool b1) ∧ Below W.heap.size W w')
    (r2 : ∀ W, Calls Try.prog 12 #[.agg #[.int .i64 bN, .int .i64 bD]] W fun r w' => r = .returned (.bool b2) ∧ Below W.heap.size W w') (w : World) :
    Calls Try.prog 16 #[.agg #[.int .i64 aN, .int .i64 aD], .agg #[.int .i64 bN, .int .i64 bD]] w fun r w' => r = .returned (.tuple #[.agg #[.int .i64 0, .int .i64 0], .int .i64 1]) ∧ Below w.heap.size w w' := by
  have HB : Below w.heap.size w (((w.alloc (.cells #[.int .i64 aN, .int .i64 aD] 23)).alloc (.cells #[.int .i64 bN, .int .i64 bD] 23)).alloc (.cells #[.int .i64 0, .int .i64 0] 23)) := by go_grown
  have X : Has2 (((w.alloc (.cells #[.int .i64 aN, .int .i64 aD] 23)).alloc (.cells #[.int .i64 bN, .int .i64 bD] 23)).alloc (.cells #[.int .i64 0, .int .i64 0] 23)) w.heap.size (.int .i64 aN) (.int .i64 aD) := ⟨by go_simp, by go_simp, by go_simp, by go_simp, by go_size⟩
  have Y : Has2 (((w.alloc (.cells #[.int .i64 aN, .int .i64 aD] 23)).alloc (.cells #[.int .i64 bN, .int .i64 bD] 23)).alloc (.cells #[.int .i64 0, .int .i64 0] 23)) (w.heap.size + 1) (.int .i64 bN) (.int .i64 bD) := ⟨by go_simp, by go_simp, by go_simp, by go_simp, by go_size⟩
  have Z : Has2 (((w.alloc (.cells #[.int .i64 aN, .int .i64 aD] 23)).alloc (.cells #[.int .i64 bN, .int .i64 bD] 23)).alloc (.cells #[.int .i64 0, .int .i64 0] 23)) (w.heap.size + 1 + 1) (.int .i64 0) (.int .i64 0) := ⟨by go_simp, by go_simp, by go_simp, by go_simp, by go_size⟩
  go_enter Try.func16, Try.ntmps16
  go_upto_region 1 with fail
  generalize (((w.alloc (.cells #[.int .i64 aN, .int .i64 aD] 23)).alloc (.cells #[.int .i64 bN, .int .i64 bD] 23)).alloc (.cells #[.int .i64 0, .int .i64 0] 23)) = V1 at *
  obtain ⟨px0, px1, px2, px3, px4⟩ := id X; obtain ⟨py0, py1, py2, py3, py4⟩ := id Y; obtain ⟨pz0, pz1, pz2, pz3, pz4⟩ := id Z
  cases b1
  · go_wp2_with (go_at_call_of 12 (Value.agg #[.int .i64 aN, .int .i64 aD]); (with_reducible refine (r1 _).mono ?_); rintro _ W1 ⟨rfl, hb1⟩; replace X := X.keep hb1; replace Y := Y.keep hb1; replace Z := Z.keep hb1; replace HB := later HB hb1; clear hb1; obtain ⟨p1x0, p1x1, p1x2, p1x3, p1x4⟩ := id X; obtain ⟨p1y0, p1y1, p1y2, p1y3, p1y4⟩ := id Y; obtain ⟨p1z0, p1z1, p1z2, p1z3, p1z4⟩ := id Z)
    refine bodyPost_ret (v := .tuple #[.agg #[.int .i64 0, .int .i64 0], .int .i64 1]) (by simp [results, Try.results16, go_sem, *]) rfl ⟨rfl, ?_⟩; repeat' (first | (with_reducible exact HB) | (with_reducible refine Below.setCell ?_ ?_ _) | go_size)
  · cases b2
    · go_wp2_with (first | (go_at_call_of 12 (Value.agg #[.int .i64 aN, .int .i64 aD]); (with_reducible refine (r1 _).mono ?_); rintro _ W1 ⟨rfl, hb1⟩; replace X := X.keep hb1; replace Y := Y.keep hb1; replace Z := Z.keep hb1; replace HB := later HB hb1; clear hb1; obtain ⟨p1x0, p1x1, p1x2, p1x3, p1x4⟩ := id X; obtain ⟨p1y0, p1y1, p1y2, p1y3, p1y4⟩ := id Y; obtain ⟨p1z0, p1z1, p1z2, p1z3, p1z4⟩ := id Z) | (go_at_call_of 12 (Value.agg #[.int .i64 bN, .int .i64 bD]); (with_reducible refine (r2 _).mono ?_); rintro _ W2 ⟨rfl, hb1⟩; replace X := X.keep hb1; replace Y := Y.keep hb1; replace Z := Z.keep hb1; replace HB := later HB hb1; clear hb1; obtain ⟨p2x0, p2x1, p2x2, p2x3, p2x4⟩ := id X; obtain ⟨p2y0, p2y1, p2y2, p2y3, p2y4⟩ := id Y; obtain ⟨p2z0, p2z1, p2z2, p2z3, p2z4⟩ := id Z))
      refine bodyPost_ret (v := .tuple #[.agg #[.int .i64 0, .int .i64 0], .int .i64 1]) (by simp [results, Try.results16, go_sem, *]) rfl ⟨rfl, ?_⟩; repeat' (first | (with_reducible exact HB) | (with_reducible refine Below.setCell ?_ ?_ _) | go_size)
    · cases h

set_option maxHeartbeats 2000000 in
theorem rSub_good (aN aD bN bD x y e : Int) (nb : Int) (hnb : IntKind.i64.wrap (-bN) = nb) 
    (r1 : ∀ W, Calls Try.prog 12 #[.agg #[.int .i64 aN, .int .i64 aD]] W fun r w' => r = .returned (.bool true) ∧ Below W.heap.size W w')
    (r2 : ∀ W, Calls Try.prog 12 #[.agg #[.int .i64 bN, .int .i64 bD]] W fun r w' => r = .returned (.bool true) ∧ Below W.heap.size W w')
    (c : ∀ W, Calls Try.prog 44 #[.agg #[.int .i64 aN, .int .i64 aD], .agg #[.int .i64 nb, .int .i64 bD]] W fun r w' => r = .returned (.tuple #[.agg #[.int .i64 x, .int .i64 y], .int .i64 e]) ∧ Below W.heap.size W w') (w : World) :
    Calls Try.prog 16 #[.agg #[.int .i64 aN, .int .i64 aD], .agg #[.int .i64 bN, .int .i64 bD]] w fun r w' => r = .returned (.tuple #[.agg #[.int .i64 x, .int .i64 y], .int .i64 e]) ∧ Below w.heap.size w w' := by
  have HB : Below w.heap.size w (((w.alloc (.cells #[.int .i64 aN, .int .i64 aD] 23)).alloc (.cells #[.int .i64 bN, .int .i64 bD] 23)).alloc (.cells #[.int .i64 0, .int .i64 0] 23)) := by go_grown
  have X : Has2 (((w.alloc (.cells #[.int .i64 aN, .int .i64 aD] 23)).alloc (.cells #[.int .i64 bN, .int .i64 bD] 23)).alloc (.cells #[.int .i64 0, .int .i64 0] 23)) w.heap.size (.int .i64 aN) (.int .i64 aD) := ⟨by go_simp, by go_simp, by go_simp, by go_simp, by go_size⟩
  have Y : Has2 (((w.alloc (.cells #[.int .i64 aN, .int .i64 aD] 23)).alloc (.cells #[.int .i64 bN, .int .i64 bD] 23)).alloc (.cells #[.int .i64 0, .int .i64 0] 23)) (w.heap.size + 1) (.int .i64 bN) (.int .i64 bD) := ⟨by go_simp, by go_simp, by go_simp, by go_simp, by go_size⟩
  have Z : Has2 (((w.alloc (.cells #[.int .i64 aN, .int .i64 aD] 23)).alloc (.cells #[.int .i64 bN, .int .i64 bD] 23)).alloc (.cells #[.int .i64 0, .int .i64 0] 23)) (w.heap.size + 1 + 1) (.int .i64 0) (.int .i64 0) := ⟨by go_simp, by go_simp, by go_simp, by go_simp, by go_size⟩
  go_enter Try.func16, Try.ntmps16
  go_upto_region 1 with fail
  generalize (((w.alloc (.cells #[.int .i64 aN, .int .i64 aD] 23)).alloc (.cells #[.int .i64 bN, .int .i64 bD] 23)).alloc (.cells #[.int .i64 0, .int .i64 0] 23)) = V1 at *
  obtain ⟨px0, px1, px2, px3, px4⟩ := id X; obtain ⟨py0, py1, py2, py3, py4⟩ := id Y; obtain ⟨pz0, pz1, pz2, pz3, pz4⟩ := id Z
  go_wp2_with (first | (go_at_call_of 12 (Value.agg #[.int .i64 aN, .int .i64 aD]); (with_reducible refine (r1 _).mono ?_); rintro _ W1 ⟨rfl, hb1⟩; replace X := X.keep hb1; replace Y := Y.keep hb1; replace Z := Z.keep hb1; replace HB := later HB hb1; clear hb1; obtain ⟨p1x0, p1x1, p1x2, p1x3, p1x4⟩ := id X; obtain ⟨p1y0, p1y1, p1y2, p1y3, p1y4⟩ := id Y; obtain ⟨p1z0, p1z1, p1z2, p1z3, p1z4⟩ := id Z) | (go_at_call_of 12 (Value.agg #[.int .i64 bN, .int .i64 bD]); (with_reducible refine (r2 _).mono ?_); rintro _ W2 ⟨rfl, hb1⟩; replace X := X.keep hb1; replace Y := Y.keep hb1; replace Z := Z.keep hb1; replace HB := later HB hb1; clear hb1; obtain ⟨p2x0, p2x1, p2x2, p2x3, p2x4⟩ := id X; obtain ⟨p2y0, p2y1, p2y2, p2y3, p2y4⟩ := id Y; obtain ⟨p2z0, p2z1, p2z2, p2z3, p2z4⟩ := id Z) | (go_at_call 44; (with_reducible refine (c _).mono ?_); rintro _ W3 ⟨rfl, hb1⟩; replace X := X.keep hb1; replace Y := Y.keep hb1; replace Z := Z.keep hb1; replace HB := later HB hb1; clear hb1; obtain ⟨p3x0, p3x1, p3x2, p3x3, p3x4⟩ := id X; obtain ⟨p3y0, p3y1, p3y2, p3y3, p3y4⟩ := id Y; obtain ⟨p3z0, p3z1, p3z2, p3z3, p3z4⟩ := id Z))
  refine bodyPost_ret (v := .tuple #[.agg #[.int .i64 x, .int .i64 y], .int .i64 e]) (by simp [results, Try.results16, go_sem, *]) rfl ⟨rfl, ?_⟩; repeat' (first | (with_reducible exact HB) | (with_reducible refine Below.setCell ?_ ?_ _) | go_size)

set_option maxHeartbeats 2000000 in
theorem rMul_bad (aN aD bN bD : Int) (b1 b2 : Bool) (h : (b1 && b2) = false)
    (r1 : ∀ W, Calls Try.prog 12 #[.agg #[.int .i64 aN, .int .i64 aD]] W fun r w' => r = .returned (.bool b1) ∧ Below W.heap.size W w')
    (r2 : ∀ W, Calls Try.prog 12 #[.agg #[.int .i64 bN, .int .i64 bD]] W fun r w' => r = .returned (.bool b2) ∧ Below W.heap.size W w') (w : World) :
    Calls Try.prog 18 #[.agg #[.int .i64 aN, .int .i64 aD], .agg #[.int .i64 bN, .int .i64 bD]] w fun r w' => r = .returned (.tuple #[.agg #[.int .i64 0, .int .i64 0], .int .i64 1]) ∧ Below w.heap.size w w' := by
  have HB : Below w.heap.size w (((w.alloc (.cells #[.int .i64 aN, .int .i64 aD] 23)).alloc (.cells #[.int .i64 bN, .int .i64 bD] 23)).alloc (.cells #[.int .i64 0, .int .i64 0] 23)) := by go_grown
  have X : Has2 (((w.alloc (.cells #[.int .i64 aN, .int .i64 aD] 23)).alloc (.cells #[.int .i64 bN, .int .i64 bD] 23)).alloc (.cells #[.int .i64 0, .int .i64 0] 23)) w.heap.size (.int .i64 aN) (.int .i64 aD) := ⟨by go_simp, by go_simp, by go_simp, by go_simp, by go_size⟩
  have Y : Has2 (((w.alloc (.cells #[.int .i64 aN, .int .i64 aD] 23)).alloc (.cells #[.int .i64 bN, .int .i64 bD] 23)).alloc (.cells #[.int .i64 0, .int .i64 0] 23)) (w.heap.size + 1) (.int .i64 bN) (.int .i64 bD) := ⟨by go_simp, by go_simp, by go_simp, by go_simp, by go_size⟩
  have Z : Has2 (((w.alloc (.cells #[.int .i64 aN, .int .i64 aD] 23)).alloc (.cells #[.int .i64 bN, .int .i64 bD] 23)).alloc (.cells #[.int .i64 0, .int .i64 0] 23)) (w.heap.size + 1 + 1) (.int .i64 0) (.int .i64 0) := ⟨by go_simp, by go_simp, by go_simp, by go_simp, by go_size⟩
  go_enter Try.func18, Try.ntmps18
  go_upto_region 1 with fail
  generalize (((w.alloc (.cells #[.int .i64 aN, .int .i64 aD] 23)).alloc (.cells #[.int .i64 bN, .int .i64 bD] 23)).alloc (.cells #[.int .i64 0, .int .i64 0] 23)) = V1 at *
  obtain ⟨px0, px1, px2, px3, px4⟩ := id X; obtain ⟨py0, py1, py2, py3, py4⟩ := id Y; obtain ⟨pz0, pz1, pz2, pz3, pz4⟩ := id Z
  cases b1
  · go_wp2_with (go_at_call_of 12 (Value.agg #[.int .i64 aN, .int .i64 aD]); (with_reducible refine (r1 _).mono ?_); rintro _ W1 ⟨rfl, hb1⟩; replace X := X.keep hb1; replace Y := Y.keep hb1; replace Z := Z.keep hb1; replace HB := later HB hb1; clear hb1; obtain ⟨p1x0, p1x1, p1x2, p1x3, p1x4⟩ := id X; obtain ⟨p1y0, p1y1, p1y2, p1y3, p1y4⟩ := id Y; obtain ⟨p1z0, p1z1, p1z2, p1z3, p1z4⟩ := id Z)
    refine bodyPost_ret (v := .tuple #[.agg #[.int .i64 0, .int .i64 0], .int .i64 1]) (by simp [results, Try.results18, go_sem, *]) rfl ⟨rfl, ?_⟩; repeat' (first | (with_reducible exact HB) | (with_reducible refine Below.setCell ?_ ?_ _) | go_size)
  · cases b2
    · go_wp2_with (first | (go_at_call_of 12 (Value.agg #[.int .i64 aN, .int .i64 aD]); (with_reducible refine (r1 _).mono ?_); rintro _ W1 ⟨rfl, hb1⟩; replace X := X.keep hb1; replace Y := Y.keep hb1; replace Z := Z.keep hb1; replace HB := later HB hb1; clear hb1; obtain ⟨p1x0, p1x1, p1x2, p1x3, p1x4⟩ := id X; obtain ⟨p1y0, p1y1, p1y2, p1y3, p1y4⟩ := id Y; obtain ⟨p1z0, p1z1, p1z2, p1z3, p1z4⟩ := id Z) | (go_at_call_of 12 (Value.agg #[.int .i64 bN, .int .i64 bD]); (with_reducible refine (r2 _).mono ?_); rintro _ W2 ⟨rfl, hb1⟩; replace X := X.keep hb1; replace Y := Y.keep hb1; replace Z := Z.keep hb1; replace HB := later HB hb1; clear hb1; obtain ⟨p2x0, p2x1, p2x2, p2x3, p2x4⟩ := id X; obtain ⟨p2y0, p2y1, p2y2, p2y3, p2y4⟩ := id Y; obtain ⟨p2z0, p2z1, p2z2, p2z3, p2z4⟩ := id Z))
      refine bodyPost_ret (v := .tuple #[.agg #[.int .i64 0, .int .i64 0], .int .i64 1]) (by simp [results, Try.results18, go_sem, *]) rfl ⟨rfl, ?_⟩; repeat' (first | (with_reducible exact HB) | (with_reducible refine Below.setCell ?_ ?_ _) | go_size)
    · cases h

set_option maxHeartbeats 2000000 in
theorem rMul_good (aN aD bN bD x y e : Int) 
    (r1 : ∀ W, Calls Try.prog 12 #[.agg #[.int .i64 aN, .int .i64 aD]] W fun r w' => r = .returned (.bool true) ∧ Below W.heap.size W w')
    (r2 : ∀ W, Calls Try.prog 12 #[.agg #[.int .i64 bN, .int .i64 bD]] W fun r w' => r = .returned (.bool true) ∧ Below W.heap.size W w')
    (c : ∀ W, Calls Try.prog 49 #[.agg #[.int .i64 aN, .int .i64 aD], .agg #[.int .i64 bN, .int .i64 bD]] W fun r w' => r = .returned (.tuple #[.agg #[.int .i64 x, .int .i64 y], .int .i64 e]) ∧ Below W.heap.size W w') (w : World) :
    Calls Try.prog 18 #[.agg #[.int .i64 aN, .int .i64 aD], .agg #[.int .i64 bN, .int .i64 bD]] w fun r w' => r = .returned (.tuple #[.agg #[.int .i64 x, .int .i64 y], .int .i64 e]) ∧ Below w.heap.size w w' := by
  have HB : Below w.heap.size w (((w.alloc (.cells #[.int .i64 aN, .int .i64 aD] 23)).alloc (.cells #[.int .i64 bN, .int .i64 bD] 23)).alloc (.cells #[.int .i64 0, .int .i64 0] 23)) := by go_grown
  have X : Has2 (((w.alloc (.cells #[.int .i64 aN, .int .i64 aD] 23)).alloc (.cells #[.int .i64 bN, .int .i64 bD] 23)).alloc (.cells #[.int .i64 0, .int .i64 0] 23)) w.heap.size (.int .i64 aN) (.int .i64 aD) := ⟨by go_simp, by go_simp, by go_simp, by go_simp, by go_size⟩
  have Y : Has2 (((w.alloc (.cells #[.int .i64 aN, .int .i64 aD] 23)).alloc (.cells #[.int .i64 bN, .int .i64 bD] 23)).alloc (.cells #[.int .i64 0, .int .i64 0] 23)) (w.heap.size + 1) (.int .i64 bN) (.int .i64 bD) := ⟨by go_simp, by go_simp, by go_simp, by go_simp, by go_size⟩
  have Z : Has2 (((w.alloc (.cells #[.int .i64 aN, .int .i64 aD] 23)).alloc (.cells #[.int .i64 bN, .int .i64 bD] 23)).alloc (.cells #[.int .i64 0, .int .i64 0] 23)) (w.heap.size + 1 + 1) (.int .i64 0) (.int .i64 0) := ⟨by go_simp, by go_simp, by go_simp, by go_simp, by go_size⟩
  go_enter Try.func18, Try.ntmps18
  go_upto_region 1 with fail
  generalize (((w.alloc (.cells #[.int .i64 aN, .int .i64 aD] 23)).alloc (.cells #[.int .i64 bN, .int .i64 bD] 23)).alloc (.cells #[.int .i64 0, .int .i64 0] 23)) = V1 at *
  obtain ⟨px0, px1, px2, px3, px4⟩ := id X; obtain ⟨py0, py1, py2, py3, py4⟩ := id Y; obtain ⟨pz0, pz1, pz2, pz3, pz4⟩ := id Z
  go_wp2_with (first | (go_at_call_of 12 (Value.agg #[.int .i64 aN, .int .i64 aD]); (with_reducible refine (r1 _).mono ?_); rintro _ W1 ⟨rfl, hb1⟩; replace X := X.keep hb1; replace Y := Y.keep hb1; replace Z := Z.keep hb1; replace HB := later HB hb1; clear hb1; obtain ⟨p1x0, p1x1, p1x2, p1x3, p1x4⟩ := id X; obtain ⟨p1y0, p1y1, p1y2, p1y3, p1y4⟩ := id Y; obtain ⟨p1z0, p1z1, p1z2, p1z3, p1z4⟩ := id Z) | (go_at_call_of 12 (Value.agg #[.int .i64 bN, .int .i64 bD]); (with_reducible refine (r2 _).mono ?_); rintro _ W2 ⟨rfl, hb1⟩; replace X := X.keep hb1; replace Y := Y.keep hb1; replace Z := Z.keep hb1; replace HB := later HB hb1; clear hb1; obtain ⟨p2x0, p2x1, p2x2, p2x3, p2x4⟩ := id X; obtain ⟨p2y0, p2y1, p2y2, p2y3, p2y4⟩ := id Y; obtain ⟨p2z0, p2z1, p2z2, p2z3, p2z4⟩ := id Z) | (go_at_call 49; (with_reducible refine (c _).mono ?_); rintro _ W3 ⟨rfl, hb1⟩; replace X := X.keep hb1; replace Y := Y.keep hb1; replace Z := Z.keep hb1; replace HB := later HB hb1; clear hb1; obtain ⟨p3x0, p3x1, p3x2, p3x3, p3x4⟩ := id X; obtain ⟨p3y0, p3y1, p3y2, p3y3, p3y4⟩ := id Y; obtain ⟨p3z0, p3z1, p3z2, p3z3, p3z4⟩ := id Z))
  refine bodyPost_ret (v := .tuple #[.agg #[.int .i64 x, .int .i64 y], .int .i64 e]) (by simp [results, Try.results18, go_sem, *]) rfl ⟨rfl, ?_⟩; repeat' (first | (with_reducible exact HB) | (with_reducible refine Below.setCell ?_ ?_ _) | go_size)

set_option maxHeartbeats 2000000 in
theorem rDiv_bad (aN aD bN bD : Int) (b1 b2 : Bool) (h : (b1 && b2) = false)
    (r1 : ∀ W, Calls Try.prog 12 #[.agg #[.int .i64 aN, .int .i64 aD]] W fun r w' => r = .returned (.bool b1) ∧ Below W.heap.size W w')
    (r2 : ∀ W, Calls Try.prog 12 #[.agg #[.int .i64 bN, .int .i64 bD]] W fun r w' => r = .returned (.bool b2) ∧ Below W.heap.size W w') (w : World) :
    Calls Try.prog 20 #[.agg #[.int .i64 aN, .int .i64 aD], .agg #[.int .i64 bN, .int .i64 bD]] w fun r w' => r = .returned (.tuple #[.agg #[.int .i64 0, .int .i64 0], .int .i64 1]) ∧ Below w.heap.size w w' := by
  have HB : Below w.heap.size w (((w.alloc (.cells #[.int .i64 aN, .int .i64 aD] 23)).alloc (.cells #[.int .i64 bN, .int .i64 bD] 23)).alloc (.cells #[.int .i64 0, .int .i64 0] 23)) := by go_grown
  have X : Has2 (((w.alloc (.cells #[.int .i64 aN, .int .i64 aD] 23)).alloc (.cells #[.int .i64 bN, .int .i64 bD] 23)).alloc (.cells #[.int .i64 0, .int .i64 0] 23)) w.heap.size (.int .i64 aN) (.int .i64 aD) := ⟨by go_simp, by go_simp, by go_simp, by go_simp, by go_size⟩
  have Y : Has2 (((w.alloc (.cells #[.int .i64 aN, .int .i64 aD] 23)).alloc (.cells #[.int .i64 bN, .int .i64 bD] 23)).alloc (.cells #[.int .i64 0, .int .i64 0] 23)) (w.heap.size + 1) (.int .i64 bN) (.int .i64 bD) := ⟨by go_simp, by go_simp, by go_simp, by go_simp, by go_size⟩
  have Z : Has2 (((w.alloc (.cells #[.int .i64 aN, .int .i64 aD] 23)).alloc (.cells #[.int .i64 bN, .int .i64 bD] 23)).alloc (.cells #[.int .i64 0, .int .i64 0] 23)) (w.heap.size + 1 + 1) (.int .i64 0) (.int .i64 0) := ⟨by go_simp, by go_simp, by go_simp, by go_simp, by go_size⟩
  go_enter Try.func20, Try.ntmps20
  go_upto_region 1 with fail
  generalize (((w.alloc (.cells #[.int .i64 aN, .int .i64 aD] 23)).alloc (.cells #[.int .i64 bN, .int .i64 bD] 23)).alloc (.cells #[.int .i64 0, .int .i64 0] 23)) = V1 at *
  obtain ⟨px0, px1, px2, px3, px4⟩ := id X; obtain ⟨py0, py1, py2, py3, py4⟩ := id Y; obtain ⟨pz0, pz1, pz2, pz3, pz4⟩ := id Z
  cases b1
  · go_wp2_with (go_at_call_of 12 (Value.agg #[.int .i64 aN, .int .i64 aD]); (with_reducible refine (r1 _).mono ?_); rintro _ W1 ⟨rfl, hb1⟩; replace X := X.keep hb1; replace Y := Y.keep hb1; replace Z := Z.keep hb1; replace HB := later HB hb1; clear hb1; obtain ⟨p1x0, p1x1, p1x2, p1x3, p1x4⟩ := id X; obtain ⟨p1y0, p1y1, p1y2, p1y3, p1y4⟩ := id Y; obtain ⟨p1z0, p1z1, p1z2, p1z3, p1z4⟩ := id Z)
    refine bodyPost_ret (v := .tuple #[.agg #[.int .i64 0, .int .i64 0], .int .i64 1]) (by simp [results, Try.results20, go_sem, *]) rfl ⟨rfl, ?_⟩; repeat' (first | (with_reducible exact HB) | (with_reducible refine Below.setCell ?_ ?_ _) | go_size)
  · cases b2
    · go_wp2_with (first | (go_at_call_of 12 (Value.agg #[.int .i64 aN, .int .i64 aD]); (with_reducible refine (r1 _).mono ?_); rintro _ W1 ⟨rfl, hb1⟩; replace X := X.keep hb1; replace Y := Y.keep hb1; replace Z := Z.keep hb1; replace HB := later HB hb1; clear hb1; obtain ⟨p1x0, p1x1, p1x2, p1x3, p1x4⟩ := id X; obtain ⟨p1y0, p1y1, p1y2, p1y3, p1y4⟩ := id Y; obtain ⟨p1z0, p1z1, p1z2, p1z3, p1z4⟩ := id Z) | (go_at_call_of 12 (Value.agg #[.int .i64 bN, .int .i64 bD]); (with_reducible refine (r2 _).mono ?_); rintro _ W2 ⟨rfl, hb1⟩; replace X := X.keep hb1; replace Y := Y.keep hb1; replace Z := Z.keep hb1; replace HB := later HB hb1; clear hb1; obtain ⟨p2x0, p2x1, p2x2, p2x3, p2x4⟩ := id X; obtain ⟨p2y0, p2y1, p2y2, p2y3, p2y4⟩ := id Y; obtain ⟨p2z0, p2z1, p2z2, p2z3, p2z4⟩ := id Z))
      refine bodyPost_ret (v := .tuple #[.agg #[.int .i64 0, .int .i64 0], .int .i64 1]) (by simp [results, Try.results20, go_sem, *]) rfl ⟨rfl, ?_⟩; repeat' (first | (with_reducible exact HB) | (with_reducible refine Below.setCell ?_ ?_ _) | go_size)
    · cases h

set_option maxHeartbeats 2000000 in
theorem rDiv_zero (aN aD bD : Int)
    (r1 : ∀ W, Calls Try.prog 12 #[.agg #[.int .i64 aN, .int .i64 aD]] W fun r w' => r = .returned (.bool true) ∧ Below W.heap.size W w')
    (r2 : ∀ W, Calls Try.prog 12 #[.agg #[.int .i64 0, .int .i64 bD]] W fun r w' => r = .returned (.bool true) ∧ Below W.heap.size W w') (w : World) :
    Calls Try.prog 20 #[.agg #[.int .i64 aN, .int .i64 aD], .agg #[.int .i64 0, .int .i64 bD]] w fun r w' => r = .returned (.tuple #[.agg #[.int .i64 0, .int .i64 0], .int .i64 6]) ∧ Below w.heap.size w w' := by
  have HB : Below w.heap.size w (((w.alloc (.cells #[.int .i64 aN, .int .i64 aD] 23)).alloc (.cells #[.int .i64 0, .int .i64 bD] 23)).alloc (.cells #[.int .i64 0, .int .i64 0] 23)) := by go_grown
  have X : Has2 (((w.alloc (.cells #[.int .i64 aN, .int .i64 aD] 23)).alloc (.cells #[.int .i64 0, .int .i64 bD] 23)).alloc (.cells #[.int .i64 0, .int .i64 0] 23)) w.heap.size (.int .i64 aN) (.int .i64 aD) := ⟨by go_simp, by go_simp, by go_simp, by go_simp, by go_size⟩
  have Y : Has2 (((w.alloc (.cells #[.int .i64 aN, .int .i64 aD] 23)).alloc (.cells #[.int .i64 0, .int .i64 bD] 23)).alloc (.cells #[.int .i64 0, .int .i64 0] 23)) (w.heap.size + 1) (.int .i64 0) (.int .i64 bD) := ⟨by go_simp, by go_simp, by go_simp, by go_simp, by go_size⟩
  have Z : Has2 (((w.alloc (.cells #[.int .i64 aN, .int .i64 aD] 23)).alloc (.cells #[.int .i64 0, .int .i64 bD] 23)).alloc (.cells #[.int .i64 0, .int .i64 0] 23)) (w.heap.size + 1 + 1) (.int .i64 0) (.int .i64 0) := ⟨by go_simp, by go_simp, by go_simp, by go_simp, by go_size⟩
  go_enter Try.func20, Try.ntmps20
  go_upto_region 1 with fail
  generalize (((w.alloc (.cells #[.int .i64 aN, .int .i64 aD] 23)).alloc (.cells #[.int .i64 0, .int .i64 bD] 23)).alloc (.cells #[.int .i64 0, .int .i64 0] 23)) = V1 at *
  obtain ⟨px0, px1, px2, px3, px4⟩ := id X; obtain ⟨py0, py1, py2, py3, py4⟩ := id Y; obtain ⟨pz0, pz1, pz2, pz3, pz4⟩ := id Z
  go_upto_region 3 with (first | (go_at_call_of 12 (Value.agg #[.int .i64 aN, .int .i64 aD]); (with_reducible refine (r1 _).mono ?_); rintro _ W1 ⟨rfl, hb1⟩; replace X := X.keep hb1; replace Y := Y.keep hb1; replace Z := Z.keep hb1; replace HB := later HB hb1; clear hb1; obtain ⟨p1x0, p1x1, p1x2, p1x3, p1x4⟩ := id X; obtain ⟨p1y0, p1y1, p1y2, p1y3, p1y4⟩ := id Y; obtain ⟨p1z0, p1z1, p1z2, p1z3, p1z4⟩ := id Z) | (go_at_call_of 12 (Value.agg #[.int .i64 0, .int .i64 bD]); (with_reducible refine (r2 _).mono ?_); rintro _ W2 ⟨rfl, hb1⟩; replace X := X.keep hb1; replace Y := Y.keep hb1; replace Z := Z.keep hb1; replace HB := later HB hb1; clear hb1; obtain ⟨p2x0, p2x1, p2x2, p2x3, p2x4⟩ := id X; obtain ⟨p2y0, p2y1, p2y2, p2y3, p2y4⟩ := id Y; obtain ⟨p2z0, p2z1, p2z2, p2z3, p2z4⟩ := id Z))
  go_wp2_with fail
  refine bodyPost_ret (v := .tuple #[.agg #[.int .i64 0, .int .i64 0], .int .i64 6]) (by simp [results, Try.results20, go_sem, *]) rfl ⟨rfl, ?_⟩; repeat' (first | (with_reducible exact HB) | (with_reducible refine Below.setCell ?_ ?_ _) | go_size)

set_option maxHeartbeats 2000000 in
theorem rDiv_good (aN aD bN bD x y e tN tD : Int) (hz : (bN == 0) = false)
    (r1 : ∀ W, Calls Try.prog 12 #[.agg #[.int .i64 aN, .int .i64 aD]] W fun r w' => r = .returned (.bool true) ∧ Below W.heap.size W w')
    (r2 : ∀ W, Calls Try.prog 12 #[.agg #[.int .i64 bN, .int .i64 bD]] W fun r w' => r = .returned (.bool true) ∧ Below W.heap.size W w')
    (ct : ∀ W, Calls Try.prog 50 #[.agg #[.int .i64 bN, .int .i64 bD]] W fun r w' => r = .returned (.agg #[.int .i64 tN, .int .i64 tD]) ∧ Below W.heap.size W w')
    (c : ∀ W, Calls Try.prog 49 #[.agg #[.int .i64 aN, .int .i64 aD], .agg #[.int .i64 tN, .int .i64 tD]] W fun r w' => r = .returned (.tuple #[.agg #[.int .i64 x, .int .i64 y], .int .i64 e]) ∧ Below W.heap.size W w') (w : World) :
    Calls Try.prog 20 #[.agg #[.int .i64 aN, .int .i64 aD], .agg #[.int .i64 bN, .int .i64 bD]] w fun r w' => r = .returned (.tuple #[.agg #[.int .i64 x, .int .i64 y], .int .i64 e]) ∧ Below w.heap.size w w' := by
  have HB : Below w.heap.size w (((w.alloc (.cells #[.int .i64 aN, .int .i64 aD] 23)).alloc (.cells #[.int .i64 bN, .int .i64 bD] 23)).alloc (.cells #[.int .i64 0, .int .i64 0] 23)) := by go_grown
  have X : Has2 (((w.alloc (.cells #[.int .i64 aN, .int .i64 aD] 23)).alloc (.cells #[.int .i64 bN, .int .i64 bD] 23)).alloc (.cells #[.int .i64 0, .int .i64 0] 23)) w.heap.size (.int .i64 aN) (.int .i64 aD) := ⟨by go_simp, by go_simp, by go_simp, by go_simp, by go_size⟩
  have Y : Has2 (((w.alloc (.cells #[.int .i64 aN, .int .i64 aD] 23)).alloc (.cells #[.int .i64 bN, .int .i64 bD] 23)).alloc (.cells #[.int .i64 0, .int .i64 0] 23)) (w.heap.size + 1) (.int .i64 bN) (.int .i64 bD) := ⟨by go_simp, by go_simp, by go_simp, by go_simp, by go_size⟩
  have Z : Has2 (((w.alloc (.cells #[.int .i64 aN, .int .i64 aD] 23)).alloc (.cells #[.int .i64 bN, .int .i64 bD] 23)).alloc (.cells #[.int .i64 0, .int .i64 0] 23)) (w.heap.size + 1 + 1) (.int .i64 0) (.int .i64 0) := ⟨by go_simp, by go_simp, by go_simp, by go_simp, by go_size⟩
  go_enter Try.func20, Try.ntmps20
  go_upto_region 1 with fail
  generalize (((w.alloc (.cells #[.int .i64 aN, .int .i64 aD] 23)).alloc (.cells #[.int .i64 bN, .int .i64 bD] 23)).alloc (.cells #[.int .i64 0, .int .i64 0] 23)) = V1 at *
  obtain ⟨px0, px1, px2, px3, px4⟩ := id X; obtain ⟨py0, py1, py2, py3, py4⟩ := id Y; obtain ⟨pz0, pz1, pz2, pz3, pz4⟩ := id Z
  go_upto_region 5 with (first | (go_at_call_of 12 (Value.agg #[.int .i64 aN, .int .i64 aD]); (with_reducible refine (r1 _).mono ?_); rintro _ W1 ⟨rfl, hb1⟩; replace X := X.keep hb1; replace Y := Y.keep hb1; replace Z := Z.keep hb1; replace HB := later HB hb1; clear hb1; obtain ⟨p1x0, p1x1, p1x2, p1x3, p1x4⟩ := id X; obtain ⟨p1y0, p1y1, p1y2, p1y3, p1y4⟩ := id Y; obtain ⟨p1z0, p1z1, p1z2, p1z3, p1z4⟩ := id Z) | (go_at_call_of 12 (Value.agg #[.int .i64 bN, .int .i64 bD]); (with_reducible refine (r2 _).mono ?_); rintro _ W2 ⟨rfl, hb1⟩; replace X := X.keep hb1; replace Y := Y.keep hb1; replace Z := Z.keep hb1; replace HB := later HB hb1; clear hb1; obtain ⟨p2x0, p2x1, p2x2, p2x3, p2x4⟩ := id X; obtain ⟨p2y0, p2y1, p2y2, p2y3, p2y4⟩ := id Y; obtain ⟨p2z0, p2z1, p2z2, p2z3, p2z4⟩ := id Z))
  clear px0 px1 px2 px3 px4 py0 py1 py2 py3 py4 pz0 pz1 pz2 pz3 pz4 p1x0 p1x1 p1x2 p1x3 p1x4 p1y0 p1y1 p1y2 p1y3 p1y4 p1z0 p1z1 p1z2 p1z3 p1z4 p2x0 p2x1 p2x2 p2x3 p2x4 p2y0 p2y1 p2y2 p2y3 p2y4 p2z0 p2z1 p2z2 p2z3 p2z4
  have kX0 := fun n : Behind W2 => n.cell X.1 X.2.2.2.2
  have kX1 := fun n : Behind W2 => n.cell X.2.1 X.2.2.2.2
  have kY0 := fun n : Behind W2 => n.cell Y.1 Y.2.2.2.2
  have kY1 := fun n : Behind W2 => n.cell Y.2.1 Y.2.2.2.2
  refine tail_behind 6 (by kernel_rfl) (by kernel_rfl) ?_
  simp only [List.take_succ_cons, List.take_zero, List.drop_succ_cons, List.drop_zero]
  repeat (go_big_quiet_step (first | (go_at_call 50; with_reducible refine Behind.call (ct _)) | (go_at_call 49; with_reducible refine Behind.call (c _))))
  refine wpQuiet_nil ?_
  rintro _ ⟨m', rfl⟩
  obtain ⟨V3, hb1⟩ := m'
  dsimp only
  clear kX0 kX1 kY0 kY1
  replace Z := Z.keep hb1
  replace HB := later HB hb1
  clear hb1
  obtain ⟨z0, z1, z2, z3, z4⟩ := id Z
  go_wp2_with fail
  refine bodyPost_ret (v := .tuple #[.agg #[.int .i64 x, .int .i64 y], .int .i64 e]) (by simp [results, Try.results20, go_sem, *]) rfl ⟨rfl, ?_⟩; repeat' (first | (with_reducible exact HB) | (with_reducible refine Below.setCell ?_ ?_ _) | go_size)

end Go.Proofs.Ytdnpoacjamkhkaa

namespace Go.Proofs.Ytdnpoacjamkhkaa
open Go.ChangeShapes Go.WideShapes Go.ChangeAt Go.RowKit

set_option maxHeartbeats 4000000 in
theorem rpow_bad (aN aD n : Int) (b : Bool) (h : b = false ∨ (b = true ∧ n < -64) ∨ (b = true ∧ ¬ n < -64 ∧ n > 64))
    (r1 : ∀ W, Calls Try.prog 12 #[.agg #[.int .i64 aN, .int .i64 aD]] W fun r w' => r = .returned (.bool b) ∧ Below W.heap.size W w') (w : World) :
    Calls Try.prog 22 #[.agg #[.int .i64 aN, .int .i64 aD], .int .i64 n] w fun r w' => r = .returned (.tuple #[.agg #[.int .i64 0, .int .i64 0], .int .i64 1]) ∧ Below w.heap.size w w' := by
  have HB : Below w.heap.size w ((w.alloc (.cells #[.int .i64 aN, .int .i64 aD] 23)).alloc (.cells #[.int .i64 0, .int .i64 0] 23)) := by go_grown
  have X : Has2 ((w.alloc (.cells #[.int .i64 aN, .int .i64 aD] 23)).alloc (.cells #[.int .i64 0, .int .i64 0] 23)) w.heap.size (.int .i64 aN) (.int .i64 aD) := ⟨by go_simp, by go_simp, by go_simp, by go_simp, by go_size⟩
  have Z : Has2 ((w.alloc (.cells #[.int .i64 aN, .int .i64 aD] 23)).alloc (.cells #[.int .i64 0, .int .i64 0] 23)) (w.heap.size + 1) (.int .i64 0) (.int .i64 0) := ⟨by go_simp, by go_simp, by go_simp, by go_simp, by go_size⟩
  go_enter Try.func22, Try.ntmps22
  go_upto_region 1 with fail
  generalize ((w.alloc (.cells #[.int .i64 aN, .int .i64 aD] 23)).alloc (.cells #[.int .i64 0, .int .i64 0] 23)) = V1 at *
  obtain ⟨px0, px1, px2, px3, px4⟩ := id X; obtain ⟨pz0, pz1, pz2, pz3, pz4⟩ := id Z
  rcases h with rfl | ⟨rfl, h⟩ | ⟨rfl, h1, h⟩
  · go_wp2_with (go_at_call 12; (with_reducible refine (r1 _).mono ?_); rintro _ W1 ⟨rfl, hb1⟩; replace X := X.keep hb1; replace Z := Z.keep hb1; replace HB := later HB hb1; clear hb1; obtain ⟨p1x0, p1x1, p1x2, p1x3, p1x4⟩ := id X; obtain ⟨p1z0, p1z1, p1z2, p1z3, p1z4⟩ := id Z)
    refine bodyPost_ret (v := .tuple #[.agg #[.int .i64 0, .int .i64 0], .int .i64 1]) (by simp [results, Try.results22, go_sem, *]) rfl ⟨rfl, ?_⟩; repeat' (first | (with_reducible exact HB) | (with_reducible refine Below.setCell ?_ ?_ _) | go_size)
  · go_wp2_with (go_at_call 12; (with_reducible refine (r1 _).mono ?_); rintro _ W1 ⟨rfl, hb1⟩; replace X := X.keep hb1; replace Z := Z.keep hb1; replace HB := later HB hb1; clear hb1; obtain ⟨p1x0, p1x1, p1x2, p1x3, p1x4⟩ := id X; obtain ⟨p1z0, p1z1, p1z2, p1z3, p1z4⟩ := id Z)
    refine bodyPost_ret (v := .tuple #[.agg #[.int .i64 0, .int .i64 0], .int .i64 1]) (by simp [results, Try.results22, go_sem, *]) rfl ⟨rfl, ?_⟩; repeat' (first | (with_reducible exact HB) | (with_reducible refine Below.setCell ?_ ?_ _) | go_size)
  · go_wp2_with (go_at_call 12; (with_reducible refine (r1 _).mono ?_); rintro _ W1 ⟨rfl, hb1⟩; replace X := X.keep hb1; replace Z := Z.keep hb1; replace HB := later HB hb1; clear hb1; obtain ⟨p1x0, p1x1, p1x2, p1x3, p1x4⟩ := id X; obtain ⟨p1z0, p1z1, p1z2, p1z3, p1z4⟩ := id Z)
    refine bodyPost_ret (v := .tuple #[.agg #[.int .i64 0, .int .i64 0], .int .i64 1]) (by simp [results, Try.results22, go_sem, *]) rfl ⟨rfl, ?_⟩; repeat' (first | (with_reducible exact HB) | (with_reducible refine Below.setCell ?_ ?_ _) | go_size)

set_option maxHeartbeats 4000000 in
theorem powRat_zero (aD n : Int) (h1 : ¬ n < -64) (h2 : n < 0)
    (r1 : ∀ W, Calls Try.prog 12 #[.agg #[.int .i64 0, .int .i64 aD]] W fun r w' => r = .returned (.bool true) ∧ Below W.heap.size W w') (w : World) :
    Calls Try.prog 22 #[.agg #[.int .i64 0, .int .i64 aD], .int .i64 n] w fun r w' => r = .returned (.tuple #[.agg #[.int .i64 0, .int .i64 0], .int .i64 6]) ∧ Below w.heap.size w w' := by
  have HB : Below w.heap.size w ((w.alloc (.cells #[.int .i64 0, .int .i64 aD] 23)).alloc (.cells #[.int .i64 0, .int .i64 0] 23)) := by go_grown
  have X : Has2 ((w.alloc (.cells #[.int .i64 0, .int .i64 aD] 23)).alloc (.cells #[.int .i64 0, .int .i64 0] 23)) w.heap.size (.int .i64 0) (.int .i64 aD) := ⟨by go_simp, by go_simp, by go_simp, by go_simp, by go_size⟩
  have Z : Has2 ((w.alloc (.cells #[.int .i64 0, .int .i64 aD] 23)).alloc (.cells #[.int .i64 0, .int .i64 0] 23)) (w.heap.size + 1) (.int .i64 0) (.int .i64 0) := ⟨by go_simp, by go_simp, by go_simp, by go_simp, by go_size⟩
  go_enter Try.func22, Try.ntmps22
  go_upto_region 1 with fail
  generalize ((w.alloc (.cells #[.int .i64 0, .int .i64 aD] 23)).alloc (.cells #[.int .i64 0, .int .i64 0] 23)) = V1 at *
  obtain ⟨px0, px1, px2, px3, px4⟩ := id X; obtain ⟨pz0, pz1, pz2, pz3, pz4⟩ := id Z
  go_wp2_with (go_at_call 12; (with_reducible refine (r1 _).mono ?_); rintro _ W1 ⟨rfl, hb1⟩; replace X := X.keep hb1; replace Z := Z.keep hb1; replace HB := later HB hb1; clear hb1; obtain ⟨p1x0, p1x1, p1x2, p1x3, p1x4⟩ := id X; obtain ⟨p1z0, p1z1, p1z2, p1z3, p1z4⟩ := id Z)
  refine bodyPost_ret (v := .tuple #[.agg #[.int .i64 0, .int .i64 0], .int .i64 6]) (by simp [results, Try.results22, go_sem, *]) rfl ⟨rfl, ?_⟩; repeat' (first | (with_reducible exact HB) | (with_reducible refine Below.setCell ?_ ?_ _) | go_size)

set_option maxHeartbeats 4000000 in
theorem rpow_pp (aN aD n : Int) (p1 p2 nh nl dh dl : Nat) (g : Bool) (x y e : Int) (h1 : ¬ n < -64) (h3 : ¬ n > 64) (h2 : ¬ n < 0) (hs : ¬ aN < 0) (hg : g = false)
    (r1 : ∀ W, Calls Try.prog 12 #[.agg #[.int .i64 aN, .int .i64 aD]] W fun r w' => r = .returned (.bool true) ∧ Below W.heap.size W w')
    (c1 : ∀ W, Calls Try.prog 37 #[.int .i64 aN] W fun r w' => r = .returned (.int .u64 (p1 : Int)) ∧ W = w')
    (c2 : ∀ W, Calls Try.prog 37 #[.int .i64 aD] W fun r w' => r = .returned (.int .u64 (p2 : Int)) ∧ W = w')
    (c3 : ∀ W, Calls Try.prog 51 #[.agg #[.int .u64 0, .int .u64 1], .int .u64 (p1 : Int), .int .i64 n] W fun r w' => r = .returned (.agg #[.int .u64 (nh : Int), .int .u64 (nl : Int)]) ∧ Below W.heap.size W w')
    (c4 : ∀ W, Calls Try.prog 51 #[.agg #[.int .u64 0, .int .u64 1], .int .u64 (p2 : Int), .int .i64 n] W fun r w' => r = .returned (.agg #[.int .u64 (dh : Int), .int .u64 (dl : Int)]) ∧ Below W.heap.size W w')
    (c5 : ∀ W, Calls Try.prog 38 #[.bool g, .agg #[.int .u64 (nh : Int), .int .u64 (nl : Int)], .agg #[.int .u64 (dh : Int), .int .u64 (dl : Int)]] W fun r w' => r = .returned (.tuple #[.agg #[.int .i64 x, .int .i64 y], .int .i64 e]) ∧ Below W.heap.size W w') (w : World) :
    Calls Try.prog 22 #[.agg #[.int .i64 aN, .int .i64 aD], .int .i64 n] w fun r w' => r = .returned (.tuple #[.agg #[.int .i64 x, .int .i64 y], .int .i64 e]) ∧ Below w.heap.size w w' := by
  have HB : Below w.heap.size w ((w.alloc (.cells #[.int .i64 aN, .int .i64 aD] 23)).alloc (.cells #[.int .i64 0, .int .i64 0] 23)) := by go_grown
  have X : Has2 ((w.alloc (.cells #[.int .i64 aN, .int .i64 aD] 23)).alloc (.cells #[.int .i64 0, .int .i64 0] 23)) w.heap.size (.int .i64 aN) (.int .i64 aD) := ⟨by go_simp, by go_simp, by go_simp, by go_simp, by go_size⟩
  have Z : Has2 ((w.alloc (.cells #[.int .i64 aN, .int .i64 aD] 23)).alloc (.cells #[.int .i64 0, .int .i64 0] 23)) (w.heap.size + 1) (.int .i64 0) (.int .i64 0) := ⟨by go_simp, by go_simp, by go_simp, by go_simp, by go_size⟩
  go_enter Try.func22, Try.ntmps22
  go_upto_region 1 with fail
  generalize ((w.alloc (.cells #[.int .i64 aN, .int .i64 aD] 23)).alloc (.cells #[.int .i64 0, .int .i64 0] 23)) = V1 at *
  obtain ⟨px0, px1, px2, px3, px4⟩ := id X; obtain ⟨pz0, pz1, pz2, pz3, pz4⟩ := id Z
  subst hg
  go_upto_region 7 with (go_at_call 12; (with_reducible refine (r1 _).mono ?_); rintro _ W1 ⟨rfl, hb1⟩; replace X := X.keep hb1; replace Z := Z.keep hb1; replace HB := later HB hb1; clear hb1; obtain ⟨p1x0, p1x1, p1x2, p1x3, p1x4⟩ := id X; obtain ⟨p1z0, p1z1, p1z2, p1z3, p1z4⟩ := id Z)
  clear px0 px1 px2 px3 px4 pz0 pz1 pz2 pz3 pz4
  clear p1x0 p1x1 p1x2 p1x3 p1x4 p1z0 p1z1 p1z2 p1z3 p1z4
  generalize W1 = V2 at *
  go_upto_region 8 with fail
  replace X := X.keep (grewW V2 (.cells #[.int .u64 0, .int .u64 1] 55))
  replace Z := Z.keep (grewW V2 (.cells #[.int .u64 0, .int .u64 1] 55))
  replace HB := later HB (grewW V2 (.cells #[.int .u64 0, .int .u64 1] 55))
  have O := has2_new V2 (.int .u64 0) (.int .u64 1) 55
  generalize (V2.alloc (.cells #[.int .u64 0, .int .u64 1] 55)) = V3 at *
  generalize V2.heap.size = bO at *
  have hd : decide (aN < 0) = false := decide_eq_false (by omega)
  have kX0 := fun n : Behind V3 => n.cell X.1 X.2.2.2.2
  have kX1 := fun n : Behind V3 => n.cell X.2.1 X.2.2.2.2
  have kO0 := fun n : Behind V3 => n.cell O.1 O.2.2.2.2
  have kO1 := fun n : Behind V3 => n.cell O.2.1 O.2.2.2.2
  refine tail_behind 23 (by kernel_rfl) (by kernel_rfl) ?_
  simp only [List.take_succ_cons, List.take_zero, List.drop_succ_cons, List.drop_zero]
  repeat (go_big_quiet_step (first | (go_at_call_of 37 (Value.int .i64 aN); with_reducible refine Behind.same (c1 _)) | (go_at_call_of 37 (Value.int .i64 aD); with_reducible refine Behind.same (c2 _)) | (go_at_call_of 51 (Value.int .u64 (p1 : Int)); with_reducible refine Behind.call (c3 _)) | (go_at_call_of 51 (Value.int .u64 (p2 : Int)); with_reducible refine Behind.call (c4 _)) | (go_at_call 38; with_reducible refine Behind.call (c5 _))))
  refine wpQuiet_nil ?_
  rintro _ ⟨m', rfl⟩
  obtain ⟨V4, hb1⟩ := m'
  dsimp only
  clear kX0 kX1 kO0 kO1
  replace Z := Z.keep hb1
  replace HB := later HB hb1
  clear hb1
  obtain ⟨z0, z1, z2, z3, z4⟩ := id Z
  go_wp2_with fail
  refine bodyPost_ret (v := .tuple #[.agg #[.int .i64 x, .int .i64 y], .int .i64 e]) (by simp [results, Try.results22, go_sem, *]) rfl ⟨rfl, ?_⟩; repeat' (first | (with_reducible exact HB) | (with_reducible refine Below.setCell ?_ ?_ _) | go_size)

set_option maxHeartbeats 4000000 in
theorem rpow_pn (aN aD n : Int) (p1 p2 nh nl dh dl : Nat) (g : Bool) (x y e : Int) (h1 : ¬ n < -64) (h3 : ¬ n > 64) (h2 : ¬ n < 0) (hs : aN < 0) (hg : (n % 2 != 0) = g)
    (r1 : ∀ W, Calls Try.prog 12 #[.agg #[.int .i64 aN, .int .i64 aD]] W fun r w' => r = .returned (.bool true) ∧ Below W.heap.size W w')
    (c1 : ∀ W, Calls Try.prog 37 #[.int .i64 aN] W fun r w' => r = .returned (.int .u64 (p1 : Int)) ∧ W = w')
    (c2 : ∀ W, Calls Try.prog 37 #[.int .i64 aD] W fun r w' => r = .returned (.int .u64 (p2 : Int)) ∧ W = w')
    (c3 : ∀ W, Calls Try.prog 51 #[.agg #[.int .u64 0, .int .u64 1], .int .u64 (p1 : Int), .int .i64 n] W fun r w' => r = .returned (.agg #[.int .u64 (nh : Int), .int .u64 (nl : Int)]) ∧ Below W.heap.size W w')
    (c4 : ∀ W, Calls Try.prog 51 #[.agg #[.int .u64 0, .int .u64 1], .int .u64 (p2 : Int), .int .i64 n] W fun r w' => r = .returned (.agg #[.int .u64 (dh : Int), .int .u64 (dl : Int)]) ∧ Below W.heap.size W w')
    (c5 : ∀ W, Calls Try.prog 38 #[.bool g, .agg #[.int .u64 (nh : Int), .int .u64 (nl : Int)], .agg #[.int .u64 (dh : Int), .int .u64 (dl : Int)]] W fun r w' => r = .returned (.tuple #[.agg #[.int .i64 x, .int .i64 y], .int .i64 e]) ∧ Below W.heap.size W w') (w : World) :
    Calls Try.prog 22 #[.agg #[.int .i64 aN, .int .i64 aD], .int .i64 n] w fun r w' => r = .returned (.tuple #[.agg #[.int .i64 x, .int .i64 y], .int .i64 e]) ∧ Below w.heap.size w w' := by
  have HB : Below w.heap.size w ((w.alloc (.cells #[.int .i64 aN, .int .i64 aD] 23)).alloc (.cells #[.int .i64 0, .int .i64 0] 23)) := by go_grown
  have X : Has2 ((w.alloc (.cells #[.int .i64 aN, .int .i64 aD] 23)).alloc (.cells #[.int .i64 0, .int .i64 0] 23)) w.heap.size (.int .i64 aN) (.int .i64 aD) := ⟨by go_simp, by go_simp, by go_simp, by go_simp, by go_size⟩
  have Z : Has2 ((w.alloc (.cells #[.int .i64 aN, .int .i64 aD] 23)).alloc (.cells #[.int .i64 0, .int .i64 0] 23)) (w.heap.size + 1) (.int .i64 0) (.int .i64 0) := ⟨by go_simp, by go_simp, by go_simp, by go_simp, by go_size⟩
  go_enter Try.func22, Try.ntmps22
  go_upto_region 1 with fail
  generalize ((w.alloc (.cells #[.int .i64 aN, .int .i64 aD] 23)).alloc (.cells #[.int .i64 0, .int .i64 0] 23)) = V1 at *
  obtain ⟨px0, px1, px2, px3, px4⟩ := id X; obtain ⟨pz0, pz1, pz2, pz3, pz4⟩ := id Z
  go_upto_region 7 with (go_at_call 12; (with_reducible refine (r1 _).mono ?_); rintro _ W1 ⟨rfl, hb1⟩; replace X := X.keep hb1; replace Z := Z.keep hb1; replace HB := later HB hb1; clear hb1; obtain ⟨p1x0, p1x1, p1x2, p1x3, p1x4⟩ := id X; obtain ⟨p1z0, p1z1, p1z2, p1z3, p1z4⟩ := id Z)
  clear px0 px1 px2 px3 px4 pz0 pz1 pz2 pz3 pz4
  clear p1x0 p1x1 p1x2 p1x3 p1x4 p1z0 p1z1 p1z2 p1z3 p1z4
  generalize W1 = V2 at *
  go_upto_region 8 with fail
  replace X := X.keep (grewW V2 (.cells #[.int .u64 0, .int .u64 1] 55))
  replace Z := Z.keep (grewW V2 (.cells #[.int .u64 0, .int .u64 1] 55))
  replace HB := later HB (grewW V2 (.cells #[.int .u64 0, .int .u64 1] 55))
  have O := has2_new V2 (.int .u64 0) (.int .u64 1) 55
  generalize (V2.alloc (.cells #[.int .u64 0, .int .u64 1] 55)) = V3 at *
  generalize V2.heap.size = bO at *
  have hd : decide (aN < 0) = true := decide_eq_true hs
  have kX0 := fun n : Behind V3 => n.cell X.1 X.2.2.2.2
  have kX1 := fun n : Behind V3 => n.cell X.2.1 X.2.2.2.2
  have kO0 := fun n : Behind V3 => n.cell O.1 O.2.2.2.2
  have kO1 := fun n : Behind V3 => n.cell O.2.1 O.2.2.2.2
  refine tail_behind 23 (by kernel_rfl) (by kernel_rfl) ?_
  simp only [List.take_succ_cons, List.take_zero, List.drop_succ_cons, List.drop_zero]
  repeat (go_big_quiet_step (first | (go_at_call_of 37 (Value.int .i64 aN); with_reducible refine Behind.same (c1 _)) | (go_at_call_of 37 (Value.int .i64 aD); with_reducible refine Behind.same (c2 _)) | (go_at_call_of 51 (Value.int .u64 (p1 : Int)); with_reducible refine Behind.call (c3 _)) | (go_at_call_of 51 (Value.int .u64 (p2 : Int)); with_reducible refine Behind.call (c4 _)) | (go_at_call 38; with_reducible refine Behind.call (c5 _))))
  refine wpQuiet_nil ?_
  rintro _ ⟨m', rfl⟩
  obtain ⟨V4, hb1⟩ := m'
  dsimp only
  clear kX0 kX1 kO0 kO1
  replace Z := Z.keep hb1
  replace HB := later HB hb1
  clear hb1
  obtain ⟨z0, z1, z2, z3, z4⟩ := id Z
  go_wp2_with fail
  refine bodyPost_ret (v := .tuple #[.agg #[.int .i64 x, .int .i64 y], .int .i64 e]) (by simp [results, Try.results22, go_sem, *]) rfl ⟨rfl, ?_⟩; repeat' (first | (with_reducible exact HB) | (with_reducible refine Below.setCell ?_ ?_ _) | go_size)

set_option maxHeartbeats 4000000 in
theorem rpow_tp (aN aD n tN tD m : Int) (p1 p2 nh nl dh dl : Nat) (g : Bool) (x y e : Int) (h1 : ¬ n < -64) (h2 : n < 0) (hz : (aN == 0) = false) (hm : IntKind.i64.wrap (-n) = m) (hs : ¬ tN < 0) (hg : g = false)
    (r1 : ∀ W, Calls Try.prog 12 #[.agg #[.int .i64 aN, .int .i64 aD]] W fun r w' => r = .returned (.bool true) ∧ Below W.heap.size W w')
    (ct : ∀ W, Calls Try.prog 50 #[.agg #[.int .i64 aN, .int .i64 aD]] W fun r w' => r = .returned (.agg #[.int .i64 tN, .int .i64 tD]) ∧ Below W.heap.size W w')
    (c1 : ∀ W, Calls Try.prog 37 #[.int .i64 tN] W fun r w' => r = .returned (.int .u64 (p1 : Int)) ∧ W = w')
    (c2 : ∀ W, Calls Try.prog 37 #[.int .i64 tD] W fun r w' => r = .returned (.int .u64 (p2 : Int)) ∧ W = w')
    (c3 : ∀ W, Calls Try.prog 51 #[.agg #[.int .u64 0, .int .u64 1], .int .u64 (p1 : Int), .int .i64 m] W fun r w' => r = .returned (.agg #[.int .u64 (nh : Int), .int .u64 (nl : Int)]) ∧ Below W.heap.size W w')
    (c4 : ∀ W, Calls Try.prog 51 #[.agg #[.int .u64 0, .int .u64 1], .int .u64 (p2 : Int), .int .i64 m] W fun r w' => r = .returned (.agg #[.int .u64 (dh : Int), .int .u64 (dl : Int)]) ∧ Below W.heap.size W w')
    (c5 : ∀ W, Calls Try.prog 38 #[.bool g, .agg #[.int .u64 (nh : Int), .int .u64 (nl : Int)], .agg #[.int .u64 (dh : Int), .int .u64 (dl : Int)]] W fun r w' => r = .returned (.tuple #[.agg #[.int .i64 x, .int .i64 y], .int .i64 e]) ∧ Below W.heap.size W w') (w : World) :
    Calls Try.prog 22 #[.agg #[.int .i64 aN, .int .i64 aD], .int .i64 n] w fun r w' => r = .returned (.tuple #[.agg #[.int .i64 x, .int .i64 y], .int .i64 e]) ∧ Below w.heap.size w w' := by
  have HB : Below w.heap.size w ((w.alloc (.cells #[.int .i64 aN, .int .i64 aD] 23)).alloc (.cells #[.int .i64 0, .int .i64 0] 23)) := by go_grown
  have X : Has2 ((w.alloc (.cells #[.int .i64 aN, .int .i64 aD] 23)).alloc (.cells #[.int .i64 0, .int .i64 0] 23)) w.heap.size (.int .i64 aN) (.int .i64 aD) := ⟨by go_simp, by go_simp, by go_simp, by go_simp, by go_size⟩
  have Z : Has2 ((w.alloc (.cells #[.int .i64 aN, .int .i64 aD] 23)).alloc (.cells #[.int .i64 0, .int .i64 0] 23)) (w.heap.size + 1) (.int .i64 0) (.int .i64 0) := ⟨by go_simp, by go_simp, by go_simp, by go_simp, by go_size⟩
  go_enter Try.func22, Try.ntmps22
  go_upto_region 1 with fail
  generalize ((w.alloc (.cells #[.int .i64 aN, .int .i64 aD] 23)).alloc (.cells #[.int .i64 0, .int .i64 0] 23)) = V1 at *
  obtain ⟨px0, px1, px2, px3, px4⟩ := id X; obtain ⟨pz0, pz1, pz2, pz3, pz4⟩ := id Z
  subst hg
  go_upto_region 6 with (go_at_call 12; (with_reducible refine (r1 _).mono ?_); rintro _ W1 ⟨rfl, hb1⟩; replace X := X.keep hb1; replace Z := Z.keep hb1; replace HB := later HB hb1; clear hb1; obtain ⟨p1x0, p1x1, p1x2, p1x3, p1x4⟩ := id X; obtain ⟨p1z0, p1z1, p1z2, p1z3, p1z4⟩ := id Z)
  clear px0 px1 px2 px3 px4 pz0 pz1 pz2 pz3 pz4
  clear p1x0 p1x1 p1x2 p1x3 p1x4 p1z0 p1z1 p1z2 p1z3 p1z4
  obtain ⟨qx0, qx1, qx2, qx3, qx4⟩ := id X; obtain ⟨qz0, qz1, qz2, qz3, qz4⟩ := id Z
  go_upto_region 7 with (go_at_call 50; (with_reducible refine (ct _).mono ?_); rintro _ W2 ⟨rfl, hb1⟩; replace X := X.keep hb1; replace Z := Z.keep hb1; replace HB := later HB hb1; clear hb1; clear qx0 qx1 qx2 qx3 qx4 qz0 qz1 qz2 qz3 qz4; obtain ⟨qx0, qx1, qx2, qx3, qx4⟩ := id X; obtain ⟨qz0, qz1, qz2, qz3, qz4⟩ := id Z)
  replace X := X.put (.int .i64 tN) (.int .i64 tD)
  replace Z := Z.far2 (c := w.heap.size) (by omega) (.int .i64 tN) (.int .i64 tD)
  replace HB : Below w.heap.size w ((W2.setCell ⟨w.heap.size, 0, none⟩ (.int .i64 tN)).setCell ⟨w.heap.size, 1, none⟩ (.int .i64 tD)) := (HB.setCell (by simp) _).setCell (by simp) _
  clear qx0 qx1 qx2 qx3 qx4 qz0 qz1 qz2 qz3 qz4
  generalize ((W2.setCell ⟨w.heap.size, 0, none⟩ (.int .i64 tN)).setCell ⟨w.heap.size, 1, none⟩ (.int .i64 tD)) = V2 at *
  go_upto_region 8 with fail
  replace X := X.keep (grewW V2 (.cells #[.int .u64 0, .int .u64 1] 55))
  replace Z := Z.keep (grewW V2 (.cells #[.int .u64 0, .int .u64 1] 55))
  replace HB := later HB (grewW V2 (.cells #[.int .u64 0, .int .u64 1] 55))
  have O := has2_new V2 (.int .u64 0) (.int .u64 1) 55
  generalize (V2.alloc (.cells #[.int .u64 0, .int .u64 1] 55)) = V3 at *
  generalize V2.heap.size = bO at *
  have hd : decide (tN < 0) = false := decide_eq_false (by omega)
  have kX0 := fun n : Behind V3 => n.cell X.1 X.2.2.2.2
  have kX1 := fun n : Behind V3 => n.cell X.2.1 X.2.2.2.2
  have kO0 := fun n : Behind V3 => n.cell O.1 O.2.2.2.2
  have kO1 := fun n : Behind V3 => n.cell O.2.1 O.2.2.2.2
  refine tail_behind 23 (by kernel_rfl) (by kernel_rfl) ?_
  simp only [List.take_succ_cons, List.take_zero, List.drop_succ_cons, List.drop_zero]
  repeat (go_big_quiet_step (first | (go_at_call_of 37 (Value.int .i64 tN); with_reducible refine Behind.same (c1 _)) | (go_at_call_of 37 (Value.int .i64 tD); with_reducible refine Behind.same (c2 _)) | (go_at_call_of 51 (Value.int .u64 (p1 : Int)); with_reducible refine Behind.call (c3 _)) | (go_at_call_of 51 (Value.int .u64 (p2 : Int)); with_reducible refine Behind.call (c4 _)) | (go_at_call 38; with_reducible refine Behind.call (c5 _))))
  refine wpQuiet_nil ?_
  rintro _ ⟨m', rfl⟩
  obtain ⟨V4, hb1⟩ := m'
  dsimp only
  clear kX0 kX1 kO0 kO1
  replace Z := Z.keep hb1
  replace HB := later HB hb1
  clear hb1
  obtain ⟨z0, z1, z2, z3, z4⟩ := id Z
  go_wp2_with fail
  refine bodyPost_ret (v := .tuple #[.agg #[.int .i64 x, .int .i64 y], .int .i64 e]) (by simp [results, Try.results22, go_sem, *]) rfl ⟨rfl, ?_⟩; repeat' (first | (with_reducible exact HB) | (with_reducible refine Below.setCell ?_ ?_ _) | go_size)

set_option maxHeartbeats 4000000 in
theorem rpow_tn (aN aD n tN tD m : Int) (p1 p2 nh nl dh dl : Nat) (g : Bool) (x y e : Int) (h1 : ¬ n < -64) (h2 : n < 0) (hz : (aN == 0) = false) (hm : IntKind.i64.wrap (-n) = m) (hs : tN < 0) (hg : (Int.tmod m 2 != 0) = g)
    (r1 : ∀ W, Calls Try.prog 12 #[.agg #[.int .i64 aN, .int .i64 aD]] W fun r w' => r = .returned (.bool true) ∧ Below W.heap.size W w')
    (ct : ∀ W, Calls Try.prog 50 #[.agg #[.int .i64 aN, .int .i64 aD]] W fun r w' => r = .returned (.agg #[.int .i64 tN, .int .i64 tD]) ∧ Below W.heap.size W w')
    (c1 : ∀ W, Calls Try.prog 37 #[.int .i64 tN] W fun r w' => r = .returned (.int .u64 (p1 : Int)) ∧ W = w')
    (c2 : ∀ W, Calls Try.prog 37 #[.int .i64 tD] W fun r w' => r = .returned (.int .u64 (p2 : Int)) ∧ W = w')
    (c3 : ∀ W, Calls Try.prog 51 #[.agg #[.int .u64 0, .int .u64 1], .int .u64 (p1 : Int), .int .i64 m] W fun r w' => r = .returned (.agg #[.int .u64 (nh : Int), .int .u64 (nl : Int)]) ∧ Below W.heap.size W w')
    (c4 : ∀ W, Calls Try.prog 51 #[.agg #[.int .u64 0, .int .u64 1], .int .u64 (p2 : Int), .int .i64 m] W fun r w' => r = .returned (.agg #[.int .u64 (dh : Int), .int .u64 (dl : Int)]) ∧ Below W.heap.size W w')
    (c5 : ∀ W, Calls Try.prog 38 #[.bool g, .agg #[.int .u64 (nh : Int), .int .u64 (nl : Int)], .agg #[.int .u64 (dh : Int), .int .u64 (dl : Int)]] W fun r w' => r = .returned (.tuple #[.agg #[.int .i64 x, .int .i64 y], .int .i64 e]) ∧ Below W.heap.size W w') (w : World) :
    Calls Try.prog 22 #[.agg #[.int .i64 aN, .int .i64 aD], .int .i64 n] w fun r w' => r = .returned (.tuple #[.agg #[.int .i64 x, .int .i64 y], .int .i64 e]) ∧ Below w.heap.size w w' := by
  have HB : Below w.heap.size w ((w.alloc (.cells #[.int .i64 aN, .int .i64 aD] 23)).alloc (.cells #[.int .i64 0, .int .i64 0] 23)) := by go_grown
  have X : Has2 ((w.alloc (.cells #[.int .i64 aN, .int .i64 aD] 23)).alloc (.cells #[.int .i64 0, .int .i64 0] 23)) w.heap.size (.int .i64 aN) (.int .i64 aD) := ⟨by go_simp, by go_simp, by go_simp, by go_simp, by go_size⟩
  have Z : Has2 ((w.alloc (.cells #[.int .i64 aN, .int .i64 aD] 23)).alloc (.cells #[.int .i64 0, .int .i64 0] 23)) (w.heap.size + 1) (.int .i64 0) (.int .i64 0) := ⟨by go_simp, by go_simp, by go_simp, by go_simp, by go_size⟩
  go_enter Try.func22, Try.ntmps22
  go_upto_region 1 with fail
  generalize ((w.alloc (.cells #[.int .i64 aN, .int .i64 aD] 23)).alloc (.cells #[.int .i64 0, .int .i64 0] 23)) = V1 at *
  obtain ⟨px0, px1, px2, px3, px4⟩ := id X; obtain ⟨pz0, pz1, pz2, pz3, pz4⟩ := id Z
  go_upto_region 6 with (go_at_call 12; (with_reducible refine (r1 _).mono ?_); rintro _ W1 ⟨rfl, hb1⟩; replace X := X.keep hb1; replace Z := Z.keep hb1; replace HB := later HB hb1; clear hb1; obtain ⟨p1x0, p1x1, p1x2, p1x3, p1x4⟩ := id X; obtain ⟨p1z0, p1z1, p1z2, p1z3, p1z4⟩ := id Z)
  clear px0 px1 px2 px3 px4 pz0 pz1 pz2 pz3 pz4
  clear p1x0 p1x1 p1x2 p1x3 p1x4 p1z0 p1z1 p1z2 p1z3 p1z4
  obtain ⟨qx0, qx1, qx2, qx3, qx4⟩ := id X; obtain ⟨qz0, qz1, qz2, qz3, qz4⟩ := id Z
  go_upto_region 7 with (go_at_call 50; (with_reducible refine (ct _).mono ?_); rintro _ W2 ⟨rfl, hb1⟩; replace X := X.keep hb1; replace Z := Z.keep hb1; replace HB := later HB hb1; clear hb1; clear qx0 qx1 qx2 qx3 qx4 qz0 qz1 qz2 qz3 qz4; obtain ⟨qx0, qx1, qx2, qx3, qx4⟩ := id X; obtain ⟨qz0, qz1, qz2, qz3, qz4⟩ := id Z)
  replace X := X.put (.int .i64 tN) (.int .i64 tD)
  replace Z := Z.far2 (c := w.heap.size) (by omega) (.int .i64 tN) (.int .i64 tD)
  replace HB : Below w.heap.size w ((W2.setCell ⟨w.heap.size, 0, none⟩ (.int .i64 tN)).setCell ⟨w.heap.size, 1, none⟩ (.int .i64 tD)) := (HB.setCell (by simp) _).setCell (by simp) _
  clear qx0 qx1 qx2 qx3 qx4 qz0 qz1 qz2 qz3 qz4
  generalize ((W2.setCell ⟨w.heap.size, 0, none⟩ (.int .i64 tN)).setCell ⟨w.heap.size, 1, none⟩ (.int .i64 tD)) = V2 at *
  go_upto_region 8 with fail
  replace X := X.keep (grewW V2 (.cells #[.int .u64 0, .int .u64 1] 55))
  replace Z := Z.keep (grewW V2 (.cells #[.int .u64 0, .int .u64 1] 55))
  replace HB := later HB (grewW V2 (.cells #[.int .u64 0, .int .u64 1] 55))
  have O := has2_new V2 (.int .u64 0) (.int .u64 1) 55
  generalize (V2.alloc (.cells #[.int .u64 0, .int .u64 1] 55)) = V3 at *
  generalize V2.heap.size = bO at *
  have hd : decide (tN < 0) = true := decide_eq_true hs
  have kX0 := fun n : Behind V3 => n.cell X.1 X.2.2.2.2
  have kX1 := fun n : Behind V3 => n.cell X.2.1 X.2.2.2.2
  have kO0 := fun n : Behind V3 => n.cell O.1 O.2.2.2.2
  have kO1 := fun n : Behind V3 => n.cell O.2.1 O.2.2.2.2
  refine tail_behind 23 (by kernel_rfl) (by kernel_rfl) ?_
  simp only [List.take_succ_cons, List.take_zero, List.drop_succ_cons, List.drop_zero]
  repeat (go_big_quiet_step (first | (go_at_call_of 37 (Value.int .i64 tN); with_reducible refine Behind.same (c1 _)) | (go_at_call_of 37 (Value.int .i64 tD); with_reducible refine Behind.same (c2 _)) | (go_at_call_of 51 (Value.int .u64 (p1 : Int)); with_reducible refine Behind.call (c3 _)) | (go_at_call_of 51 (Value.int .u64 (p2 : Int)); with_reducible refine Behind.call (c4 _)) | (go_at_call 38; with_reducible refine Behind.call (c5 _))))
  refine wpQuiet_nil ?_
  rintro _ ⟨m', rfl⟩
  obtain ⟨V4, hb1⟩ := m'
  dsimp only
  clear kX0 kX1 kO0 kO1
  replace Z := Z.keep hb1
  replace HB := later HB hb1
  clear hb1
  obtain ⟨z0, z1, z2, z3, z4⟩ := id Z
  go_wp2_with fail
  refine bodyPost_ret (v := .tuple #[.agg #[.int .i64 x, .int .i64 y], .int .i64 e]) (by simp [results, Try.results22, go_sem, *]) rfl ⟨rfl, ?_⟩; repeat' (first | (with_reducible exact HB) | (with_reducible refine Below.setCell ?_ ?_ _) | go_size)

end Go.Proofs.Ytdnpoacjamkhkaa

namespace Go.Proofs.Ytdnpoacjamkhkaa
open Go.ChangeShapes Go.WideShapes Go.ChangeAt Go.RowKit



theorem addRat_w (aN aD bN bD : Int) (ha : I64 aN ∧ I64 aD) (hb : I64 bN ∧ I64 bD) (w : World) :
    Calls Try.prog 14 #[.agg #[.int .i64 aN, .int .i64 aD], .agg #[.int .i64 bN, .int .i64 bD]] w fun r w' => r = .returned (.tuple #[.agg #[.int .i64 (addV11 aN aD bN bD).1, .int .i64 (addV11 aN aD bN bD).2.1], .int .i64 (addV11 aN aD bN bD).2.2]) ∧ Below w.heap.size w w' := by
  have r1 := fun W => rright_w11 aN aD ha.1 ha.2 W
  have r2 := fun W => rright_w11 bN bD hb.1 hb.2 W
  by_cases c : (rightR aN aD && rightR bN bD) = true
  · have e : addV11 aN aD bN bD = ofV (decide (aN * bD + bN * aD < 0)) (aN * bD + bN * aD).natAbs (aD.natAbs * bD.natAbs) := by unfold addV11; rw [if_pos c]
    rw [e]
    obtain ⟨q1, q2⟩ := Bool.and_eq_true_iff.1 c
    rw [q1] at r1
    rw [q2] at r2
    exact rAdd_good aN aD bN bD _ _ _ r1 r2 (fun W => rsum_w aN aD bN bD ha hb (rightR_G q1) (rightR_G q2) (rightR_D q1) (rightR_D q2) (rightR_N q1) (rightR_N q2) W) w
  · have e : addV11 aN aD bN bD = (0, 0, 1) := by unfold addV11; rw [if_neg c]
    rw [e]
    exact rAdd_bad aN aD bN bD _ _ (by simpa using c) r1 r2 w
theorem subRat_w (aN aD bN bD : Int) (ha : I64 aN ∧ I64 aD) (hb : I64 bN ∧ I64 bD) (w : World) :
    Calls Try.prog 16 #[.agg #[.int .i64 aN, .int .i64 aD], .agg #[.int .i64 bN, .int .i64 bD]] w fun r w' => r = .returned (.tuple #[.agg #[.int .i64 (subV11 aN aD bN bD).1, .int .i64 (subV11 aN aD bN bD).2.1], .int .i64 (subV11 aN aD bN bD).2.2]) ∧ Below w.heap.size w w' := by
  have r1 := fun W => rright_w11 aN aD ha.1 ha.2 W
  have r2 := fun W => rright_w11 bN bD hb.1 hb.2 W
  by_cases c : (rightR aN aD && rightR bN bD) = true
  · obtain ⟨q1, q2⟩ := Bool.and_eq_true_iff.1 c
    have n2 := rightR_neg q2 hb.1
    have nb := rightR_N q2
    have hb' : I64 (-bN) := ⟨by have := hb.1.2; omega, by have := hb.1.1; omega⟩
    have e : subV11 aN aD bN bD = ofV (decide (aN * bD + -bN * aD < 0)) (aN * bD + -bN * aD).natAbs (aD.natAbs * bD.natAbs) := by unfold subV11; rw [if_pos q2]; unfold addV11; rw [q1, n2]; rfl
    rw [e]
    rw [q1] at r1
    rw [q2] at r2
    exact rSub_good aN aD bN bD _ _ _ (-bN) (by rw [IntKind.wrap_i64]; have := hb'.1; have := hb'.2; omega) r1 r2 (fun W => rsum_w aN aD (-bN) bD ha ⟨hb', hb.2⟩ (rightR_G q1) (rightR_G n2) (rightR_D q1) (rightR_D q2) (rightR_N q1) (rightR_N n2) W) w
  · have e : subV11 aN aD bN bD = (0, 0, 1) := by
      unfold subV11
      by_cases q2 : rightR bN bD = true
      · have q1 : rightR aN aD = false := by
          cases h : rightR aN aD
          · rfl
          · rw [h, q2] at c; exact absurd rfl c
        rw [if_pos q2]
        unfold addV11
        rw [q1]
        rfl
      · rw [if_neg q2]
    rw [e]
    exact rSub_bad aN aD bN bD _ _ (by simpa using c) r1 r2 w
theorem mulRat_w (aN aD bN bD : Int) (ha : I64 aN ∧ I64 aD) (hb : I64 bN ∧ I64 bD) (w : World) :
    Calls Try.prog 18 #[.agg #[.int .i64 aN, .int .i64 aD], .agg #[.int .i64 bN, .int .i64 bD]] w fun r w' => r = .returned (.tuple #[.agg #[.int .i64 (mulV11 aN aD bN bD).1, .int .i64 (mulV11 aN aD bN bD).2.1], .int .i64 (mulV11 aN aD bN bD).2.2]) ∧ Below w.heap.size w w' := by
  have r1 := fun W => rright_w11 aN aD ha.1 ha.2 W
  have r2 := fun W => rright_w11 bN bD hb.1 hb.2 W
  by_cases c : (rightR aN aD && rightR bN bD) = true
  · have e : mulV11 aN aD bN bD = ofV (!(decide (aN < 0) == decide (bN < 0))) (aN.natAbs * bN.natAbs) (aD.natAbs * bD.natAbs) := by unfold mulV11; rw [if_pos c]
    rw [e]
    obtain ⟨q1, q2⟩ := Bool.and_eq_true_iff.1 c
    rw [q1] at r1
    rw [q2] at r2
    exact rMul_good aN aD bN bD _ _ _ r1 r2 (fun W => times_w aN aD bN bD ha hb (rightR_G q1) (rightR_G q2) (rightR_D q1) (rightR_D q2) (rightR_N q1) (rightR_N q2) W) w
  · have e : mulV11 aN aD bN bD = (0, 0, 1) := by unfold mulV11; rw [if_neg c]
    rw [e]
    exact rMul_bad aN aD bN bD _ _ (by simpa using c) r1 r2 w
theorem divRat_w (aN aD bN bD : Int) (ha : I64 aN ∧ I64 aD) (hb : I64 bN ∧ I64 bD) (w : World) :
    Calls Try.prog 20 #[.agg #[.int .i64 aN, .int .i64 aD], .agg #[.int .i64 bN, .int .i64 bD]] w fun r w' => r = .returned (.tuple #[.agg #[.int .i64 (divV11 aN aD bN bD).1, .int .i64 (divV11 aN aD bN bD).2.1], .int .i64 (divV11 aN aD bN bD).2.2]) ∧ Below w.heap.size w w' := by
  have r1 := fun W => rright_w11 aN aD ha.1 ha.2 W
  have r2 := fun W => rright_w11 bN bD hb.1 hb.2 W
  by_cases c : (rightR aN aD && rightR bN bD) = true
  · obtain ⟨q1, q2⟩ := Bool.and_eq_true_iff.1 c
    have d2 := rightR_D q2
    have n2 := rightR_N q2
    rw [q1] at r1
    rw [q2] at r2
    by_cases z : bN = 0
    · subst z
      have e : divV11 aN aD 0 bD = (0, 0, 6) := by unfold divV11; rw [if_pos c, if_pos rfl]
      rw [e]
      exact rDiv_zero aN aD bD r1 r2 w
    · have e : divV11 aN aD bN bD = ofV (!(decide (aN < 0) == decide (bN < 0))) (aN.natAbs * bD.natAbs) (aD.natAbs * bN.natAbs) := by unfold divV11; rw [if_pos c, if_neg z]
      rw [e]
      obtain ⟨⟨b1, b2⟩, b3, b4⟩ := hb
      have G2 := rightR_G q2
      have t1 : (tuR bN bD).1.natAbs = bD.natAbs := by unfold tuR; split <;> simp
      have t2 : (tuR bN bD).2.natAbs = bN.natAbs := by unfold tuR; split <;> simp
      have t3 : decide ((tuR bN bD).1 < 0) = decide (bN < 0) := by
        unfold tuR
        by_cases k : bN < 0
        · rw [if_pos k, decide_eq_true k, decide_eq_true]
          show -bD < 0
          omega
        · rw [if_neg k, decide_eq_false k, decide_eq_false]
          show ¬ bD < 0
          omega
      have t4 : 1 ≤ (tuR bN bD).2 := by unfold tuR; split <;> simp <;> omega
      have t5 : I64 (tuR bN bD).1 ∧ I64 (tuR bN bD).2 ∧ (tuR bN bD).1 ≠ -9223372036854775808 := by
        unfold tuR I64
        split <;> simp <;> omega
      have ct := fun W => turned_w bN bD ⟨by omega, by omega⟩ ⟨by omega, by omega⟩ W
      rw [← t1, ← t2, ← t3]
      generalize (tuR bN bD).1 = tN at *
      generalize (tuR bN bD).2 = tD at *
      exact rDiv_good aN aD bN bD _ _ _ tN tD (by simpa using z) r1 r2 ct (fun W => times_w aN aD tN tD ha ⟨t5.1, t5.2.1⟩ (rightR_G q1) (by rw [t1, t2, Nat.gcd_comm]; exact G2) (rightR_D q1) t4 (rightR_N q1) t5.2.2 W) w
  · have e : divV11 aN aD bN bD = (0, 0, 1) := by unfold divV11; rw [if_neg c]
    rw [e]
    exact rDiv_bad aN aD bN bD _ _ (by simpa using c) r1 r2 w

/-- Powers that grow as far as they have room. -/
theorem grP {g : Bool} {p1 p2 m nh nl dh dl : Nat} (hc : Nat.gcd p1 p2 = 1) (h1 : p1 < 18446744073709551616) (h2 : p2 < 18446744073709551616) (hp : 0 < p2) (S1 : Sg nh nl ((grN p1 m 1 : Nat) : Int)) (S2 : Sg dh dl ((grN p2 m 1 : Nat) : Int)) : mdV g nh nl dh dl = ofV g (p1 ^ m) (p2 ^ m) := by
  rw [mdV_is S1 S2 (grN_lt h1 m 1 (by decide)) (grN_lt h2 m 1 (by decide))]
  have o := ofV_low (g := g) (n := p1 ^ m) (d := p2 ^ m) (G := 1) (by omega) (Nat.pow_pos hp) (Nat.Coprime.pow m m hc)
  rw [Nat.mul_one, Nat.mul_one] at o
  rw [o]
  have i1 := grN_is (f := p1) m 1 (by decide)
  have i2 := grN_is (f := p2) m 1 (by decide)
  rw [Nat.one_mul] at i1 i2
  generalize p1 ^ m = x at *
  generalize p2 ^ m = y at *
  generalize grN p1 m 1 = u at *
  generalize grN p2 m 1 = v at *
  rcases i1 with ⟨a, b⟩ | ⟨a, b⟩ <;> rcases i2 with ⟨c, d⟩ | ⟨c, d⟩
  · rw [b, d]
  · rw [if_neg (by omega), if_neg (by omega)]
  · rw [if_neg (by omega), if_neg (by omega)]
  · rw [if_neg (by omega), if_neg (by omega)]
theorem powRat_w (aN aD n : Int) (ha : I64 aN ∧ I64 aD) (w : World) :
    Calls Try.prog 22 #[.agg #[.int .i64 aN, .int .i64 aD], .int .i64 n] w fun r w' => r = .returned (.tuple #[.agg #[.int .i64 (powV11 aN aD n).1, .int .i64 (powV11 aN aD n).2.1], .int .i64 (powV11 aN aD n).2.2]) ∧ Below w.heap.size w w' := by
  have r1 := fun W => rright_w11 aN aD ha.1 ha.2 W
  by_cases c : pwB aN aD n = true
  · have c' := c
    unfold pwB at c'
    rw [Bool.and_eq_true, Bool.and_eq_true, decide_eq_true_eq, decide_eq_true_eq] at c'
    obtain ⟨q1, n1, n2⟩ := c'
    have dD := rightR_D q1
    have nN := rightR_N q1
    have G1 := rightR_G q1
    rw [q1] at r1
    obtain ⟨⟨a1, a2⟩, a3, a4⟩ := ha
    by_cases k : n < 0
    · by_cases z : aN = 0
      · subst z
        have e : powV11 0 aD n = (0, 0, 6) := by unfold powV11; rw [if_pos c, if_pos k, if_pos rfl]
        rw [e]
        exact powRat_zero aD n (by omega) k r1 w
      · have e : powV11 aN aD n = ofV (pwS aN n) (aD.natAbs ^ n.natAbs) (aN.natAbs ^ n.natAbs) := by unfold powV11; rw [if_pos c, if_pos k, if_neg z]
        rw [e]
        have t1 : (tuR aN aD).1.natAbs = aD.natAbs := by unfold tuR; split <;> simp
        have t2 : (tuR aN aD).2.natAbs = aN.natAbs := by unfold tuR; split <;> simp
        have t3 : (tuR aN aD).1 < 0 ↔ aN < 0 := by
          unfold tuR
          by_cases k : aN < 0
          · rw [if_pos k]
            show -aD < 0 ↔ _
            omega
          · rw [if_neg k]
            show aD < 0 ↔ _
            omega
        have t5 : I64 (tuR aN aD).1 ∧ I64 (tuR aN aD).2 := by
          unfold tuR I64
          split <;> simp <;> omega
        have ct := fun W => turned_w aN aD ⟨by omega, by omega⟩ ⟨by omega, by omega⟩ W
        rw [← t1, ← t2]
        generalize (tuR aN aD).1 = tN at *
        generalize (tuR aN aD).2 = tD at *
        have hm : IntKind.i64.wrap (-n) = -n := by rw [IntKind.wrap_i64]; omega
        obtain ⟨nh, nl, S1⟩ := sg_ex ((grN tN.natAbs (-n).toNat 1 : Nat) : Int)
        obtain ⟨dh, dl, S2⟩ := sg_ex ((grN tD.natAbs (-n).toNat 1 : Nat) : Int)
        have c1 := fun W => ramount_w tN t5.1.1 t5.1.2 W
        have c2 := fun W => ramount_w tD t5.2.1 t5.2.2 W
        have l1 : tN.natAbs < 18446744073709551616 := by omega
        have l2 : tD.natAbs < 18446744073709551616 := by omega
        have c3 := fun W => grown_w 0 1 tN.natAbs 1 nh nl (-n) (by omega) l1 (by decide) ⟨by decide, by decide, by decide⟩ S1 W
        have c4 := fun W => grown_w 0 1 tD.natAbs 1 dh dl (-n) (by omega) l2 (by decide) ⟨by decide, by decide, by decide⟩ S2 W
        rw [show (-n).toNat = n.natAbs by omega] at S1 S2
        have o : ∀ g, ofV g (tN.natAbs ^ n.natAbs) (tD.natAbs ^ n.natAbs) = mdV g nh nl dh dl := fun g => (grP (by rw [t1, t2, Nat.gcd_comm]; exact G1) l1 l2 (by omega) S1 S2).symm
        rw [o]
        by_cases s : aN < 0
        · have hg : (Int.tmod (-n) 2 != 0) = pwS aN n := by
            unfold pwS
            rw [decide_eq_true s, Bool.true_and, Int.neg_tmod]
            by_cases v : Int.tmod n 2 = 0
            · rw [v]; rfl
            · have v' : - Int.tmod n 2 ≠ 0 := by omega
              rw [bne_iff_ne.2 v, bne_iff_ne.2 v']
          exact rpow_tn aN aD n tN tD (-n) _ _ nh nl dh dl _ _ _ _ (by omega) k (by simpa using z) hm (t3.2 s) hg r1 ct c1 c2 c3 c4 (fun W => made_w _ nh nl dh dl W) w
        · have hg : pwS aN n = false := by unfold pwS; rw [decide_eq_false s]; rfl
          exact rpow_tp aN aD n tN tD (-n) _ _ nh nl dh dl _ _ _ _ (by omega) k (by simpa using z) hm (fun q => s (t3.1 q)) hg r1 ct c1 c2 c3 c4 (fun W => made_w _ nh nl dh dl W) w
    · have e : powV11 aN aD n = ofV (pwS aN n) (aN.natAbs ^ n.natAbs) (aD.natAbs ^ n.natAbs) := by unfold powV11; rw [if_pos c, if_neg k]
      rw [e]
      obtain ⟨nh, nl, S1⟩ := sg_ex ((grN aN.natAbs n.toNat 1 : Nat) : Int)
      obtain ⟨dh, dl, S2⟩ := sg_ex ((grN aD.natAbs n.toNat 1 : Nat) : Int)
      have c1 := fun W => ramount_w aN a1 a2 W
      have c2 := fun W => ramount_w aD a3 a4 W
      have l1 : aN.natAbs < 18446744073709551616 := by omega
      have l2 : aD.natAbs < 18446744073709551616 := by omega
      have c3 := fun W => grown_w 0 1 aN.natAbs 1 nh nl n (by omega) l1 (by decide) ⟨by decide, by decide, by decide⟩ S1 W
      have c4 := fun W => grown_w 0 1 aD.natAbs 1 dh dl n (by omega) l2 (by decide) ⟨by decide, by decide, by decide⟩ S2 W
      rw [show n.toNat = n.natAbs by omega] at S1 S2
      have o : ∀ g, ofV g (aN.natAbs ^ n.natAbs) (aD.natAbs ^ n.natAbs) = mdV g nh nl dh dl := fun g => (grP G1 l1 l2 (by omega) S1 S2).symm
      rw [o]
      by_cases s : aN < 0
      · have hg : (n % 2 != 0) = pwS aN n := by
          unfold pwS
          rw [decide_eq_true s, Bool.true_and, Int.tmod_eq_emod_of_nonneg (by omega)]
        exact rpow_pn aN aD n _ _ nh nl dh dl _ _ _ _ (by omega) (by omega) k s hg r1 c1 c2 c3 c4 (fun W => made_w _ nh nl dh dl W) w
      · have hg : pwS aN n = false := by unfold pwS; rw [decide_eq_false s]; rfl
        exact rpow_pp aN aD n _ _ nh nl dh dl _ _ _ _ (by omega) (by omega) k s hg r1 c1 c2 c3 c4 (fun W => made_w _ nh nl dh dl W) w
  · have e : powV11 aN aD n = (0, 0, 1) := by unfold powV11; rw [if_neg c]
    rw [e]
    refine rpow_bad aN aD n (rightR aN aD) ?_ r1 w
    cases h : rightR aN aD
    · exact Or.inl rfl
    · unfold pwB at c
      rw [h, Bool.true_and, Bool.and_eq_true, decide_eq_true_eq, decide_eq_true_eq] at c
      by_cases k : n < -64
      · exact Or.inr (Or.inl ⟨rfl, k⟩)
      · exact Or.inr (Or.inr ⟨rfl, k, by omega⟩)

end Go.Proofs.Ytdnpoacjamkhkaa

namespace Go.Proofs.Ytdnpoacjamkhkaa
open Go.ChangeShapes Go.WideShapes Go.ChangeAt Go.RowKit

set_option maxHeartbeats 2000000 in
theorem rcmp_bad (aN aD bN bD : Int) (b1 b2 : Bool) (h : (b1 && b2) = false)
    (r1 : ∀ W, Calls Try.prog 12 #[.agg #[.int .i64 aN, .int .i64 aD]] W fun r w' => r = .returned (.bool b1) ∧ Below W.heap.size W w')
    (r2 : ∀ W, Calls Try.prog 12 #[.agg #[.int .i64 bN, .int .i64 bD]] W fun r w' => r = .returned (.bool b2) ∧ Below W.heap.size W w') (w : World) :
    Calls Try.prog 24 #[.agg #[.int .i64 aN, .int .i64 aD], .agg #[.int .i64 bN, .int .i64 bD]] w fun r w' => r = .returned (.int .i64 0) ∧ Below w.heap.size w w' := by
  have HB : Below w.heap.size w ((w.alloc (.cells #[.int .i64 aN, .int .i64 aD] 23)).alloc (.cells #[.int .i64 bN, .int .i64 bD] 23)) := by go_grown
  have X : Has2 ((w.alloc (.cells #[.int .i64 aN, .int .i64 aD] 23)).alloc (.cells #[.int .i64 bN, .int .i64 bD] 23)) w.heap.size (.int .i64 aN) (.int .i64 aD) := ⟨by go_simp, by go_simp, by go_simp, by go_simp, by go_size⟩
  have Y : Has2 ((w.alloc (.cells #[.int .i64 aN, .int .i64 aD] 23)).alloc (.cells #[.int .i64 bN, .int .i64 bD] 23)) (w.heap.size + 1) (.int .i64 bN) (.int .i64 bD) := ⟨by go_simp, by go_simp, by go_simp, by go_simp, by go_size⟩
  go_enter Try.func24, Try.ntmps24
  go_upto_region 1 with fail
  generalize ((w.alloc (.cells #[.int .i64 aN, .int .i64 aD] 23)).alloc (.cells #[.int .i64 bN, .int .i64 bD] 23)) = V1 at *
  obtain ⟨px0, px1, px2, px3, px4⟩ := id X; obtain ⟨py0, py1, py2, py3, py4⟩ := id Y
  cases b1
  · go_wp2_with (go_at_call_of 12 (Value.agg #[.int .i64 aN, .int .i64 aD]); (with_reducible refine (r1 _).mono ?_); rintro _ W1 ⟨rfl, hb1⟩; replace X := X.keep hb1; replace Y := Y.keep hb1; replace HB := later HB hb1; clear hb1; obtain ⟨p1x0, p1x1, p1x2, p1x3, p1x4⟩ := id X; obtain ⟨p1y0, p1y1, p1y2, p1y3, p1y4⟩ := id Y)
    go_ret
    exact ⟨rfl, HB⟩
  · cases b2
    · go_wp2_with (first | (go_at_call_of 12 (Value.agg #[.int .i64 aN, .int .i64 aD]); (with_reducible refine (r1 _).mono ?_); rintro _ W1 ⟨rfl, hb1⟩; replace X := X.keep hb1; replace Y := Y.keep hb1; replace HB := later HB hb1; clear hb1; obtain ⟨p1x0, p1x1, p1x2, p1x3, p1x4⟩ := id X; obtain ⟨p1y0, p1y1, p1y2, p1y3, p1y4⟩ := id Y) | (go_at_call_of 12 (Value.agg #[.int .i64 bN, .int .i64 bD]); (with_reducible refine (r2 _).mono ?_); rintro _ W2 ⟨rfl, hb1⟩; replace X := X.keep hb1; replace Y := Y.keep hb1; replace HB := later HB hb1; clear hb1; obtain ⟨p2x0, p2x1, p2x2, p2x3, p2x4⟩ := id X; obtain ⟨p2y0, p2y1, p2y2, p2y3, p2y4⟩ := id Y))
      go_ret
      exact ⟨rfl, HB⟩
    · cases h

set_option maxHeartbeats 4000000 in
theorem rcmp_core (aN aD bN bD q : Int) (pA pB lh ll rh rl mh ml th tl : Nat) (g : Bool)
    (r1 : ∀ W, Calls Try.prog 12 #[.agg #[.int .i64 aN, .int .i64 aD]] W fun r w' => r = .returned (.bool true) ∧ Below W.heap.size W w')
    (r2 : ∀ W, Calls Try.prog 12 #[.agg #[.int .i64 bN, .int .i64 bD]] W fun r w' => r = .returned (.bool true) ∧ Below W.heap.size W w')
    (c1 : ∀ W, Calls Try.prog 37 #[.int .i64 aD] W fun r w' => r = .returned (.int .u64 (pA : Int)) ∧ W = w')
    (c2 : ∀ W, Calls Try.prog 37 #[.int .i64 bD] W fun r w' => r = .returned (.int .u64 (pB : Int)) ∧ W = w')
    (c3 : ∀ W, Calls Try.prog 53 #[.int .i64 aN, .int .u64 (pB : Int)] W fun r w' => r = .returned (.agg #[.int .u64 (lh : Int), .int .u64 (ll : Int)]) ∧ Below W.heap.size W w')
    (c4 : ∀ W, Calls Try.prog 53 #[.int .i64 bN, .int .u64 (pA : Int)] W fun r w' => r = .returned (.agg #[.int .u64 (rh : Int), .int .u64 (rl : Int)]) ∧ Below W.heap.size W w')
    (c5 : ∀ W, Calls Try.prog 55 #[.agg #[.int .u64 (rh : Int), .int .u64 (rl : Int)]] W fun r w' => r = .returned (.agg #[.int .u64 (mh : Int), .int .u64 (ml : Int)]) ∧ Below W.heap.size W w')
    (c6 : ∀ W, Calls Try.prog 54 #[.agg #[.int .u64 (lh : Int), .int .u64 (ll : Int)], .agg #[.int .u64 (mh : Int), .int .u64 (ml : Int)]] W fun r w' => r = .returned (.agg #[.int .u64 (th : Int), .int .u64 (tl : Int)]) ∧ Below W.heap.size W w')
    (c7 : ∀ W, Calls Try.prog 56 #[.agg #[.int .u64 (th : Int), .int .u64 (tl : Int)]] W fun r w' => r = .returned (.bool g) ∧ Below W.heap.size W w')
    (hq : Hid ((g = true → -1 = q) ∧ (g = false → th = 0 → tl = 0 → 0 = q) ∧ (g = false → ¬ (th = 0 ∧ tl = 0) → 1 = q))) (w : World) :
    Calls Try.prog 24 #[.agg #[.int .i64 aN, .int .i64 aD], .agg #[.int .i64 bN, .int .i64 bD]] w fun r w' => r = .returned (.int .i64 q) ∧ Below w.heap.size w w' := by
  have HB : Below w.heap.size w ((w.alloc (.cells #[.int .i64 aN, .int .i64 aD] 23)).alloc (.cells #[.int .i64 bN, .int .i64 bD] 23)) := by go_grown
  have X : Has2 ((w.alloc (.cells #[.int .i64 aN, .int .i64 aD] 23)).alloc (.cells #[.int .i64 bN, .int .i64 bD] 23)) w.heap.size (.int .i64 aN) (.int .i64 aD) := ⟨by go_simp, by go_simp, by go_simp, by go_simp, by go_size⟩
  have Y : Has2 ((w.alloc (.cells #[.int .i64 aN, .int .i64 aD] 23)).alloc (.cells #[.int .i64 bN, .int .i64 bD] 23)) (w.heap.size + 1) (.int .i64 bN) (.int .i64 bD) := ⟨by go_simp, by go_simp, by go_simp, by go_simp, by go_size⟩
  go_enter Try.func24, Try.ntmps24
  go_upto_region 1 with fail
  generalize ((w.alloc (.cells #[.int .i64 aN, .int .i64 aD] 23)).alloc (.cells #[.int .i64 bN, .int .i64 bD] 23)) = V1 at *
  obtain ⟨px0, px1, px2, px3, px4⟩ := id X; obtain ⟨py0, py1, py2, py3, py4⟩ := id Y
  go_upto_region 3 with (first | (go_at_call_of 12 (Value.agg #[.int .i64 aN, .int .i64 aD]); (with_reducible refine (r1 _).mono ?_); rintro _ W1 ⟨rfl, hb1⟩; replace X := X.keep hb1; replace Y := Y.keep hb1; replace HB := later HB hb1; clear hb1; obtain ⟨p1x0, p1x1, p1x2, p1x3, p1x4⟩ := id X; obtain ⟨p1y0, p1y1, p1y2, p1y3, p1y4⟩ := id Y) | (go_at_call_of 12 (Value.agg #[.int .i64 bN, .int .i64 bD]); (with_reducible refine (r2 _).mono ?_); rintro _ W2 ⟨rfl, hb1⟩; replace X := X.keep hb1; replace Y := Y.keep hb1; replace HB := later HB hb1; clear hb1; obtain ⟨p2x0, p2x1, p2x2, p2x3, p2x4⟩ := id X; obtain ⟨p2y0, p2y1, p2y2, p2y3, p2y4⟩ := id Y))
  clear px0 px1 px2 px3 px4 py0 py1 py2 py3 py4
  clear p1x0 p1x1 p1x2 p1x3 p1x4 p1y0 p1y1 p1y2 p1y3 p1y4
  clear p2x0 p2x1 p2x2 p2x3 p2x4 p2y0 p2y1 p2y2 p2y3 p2y4
  apply tail_wide2 12 (by kernel_rfl) (by kernel_rfl) rfl rfl (by decide)
  · intro W1 hW
    replace X := X.keep hW
    replace Y := Y.keep hW
    have kX0 := fun n : Behind W1 => n.cell X.1 X.2.2.2.2
    have kX1 := fun n : Behind W1 => n.cell X.2.1 X.2.2.2.2
    have kY0 := fun n : Behind W1 => n.cell Y.1 Y.2.2.2.2
    have kY1 := fun n : Behind W1 => n.cell Y.2.1 Y.2.2.2.2
    simp only [List.take_succ_cons, List.take_zero]
    repeat (go_big_quiet_step (first | (go_at_call_of 37 (Value.int .i64 aD); with_reducible refine Behind.same (c1 _)) | (go_at_call_of 37 (Value.int .i64 bD); with_reducible refine Behind.same (c2 _)) | (go_at_call_of 53 (Value.int .i64 aN); with_reducible refine Behind.call (c3 _)) | (go_at_call_of 53 (Value.int .i64 bN); with_reducible refine Behind.call (c4 _))))
    exact wpQuiet_nil rfl
  intro b c W hbb hcc hbc B C hb1
  have sHB := HB.size
  replace HB := later HB hb1
  clear hb1 X Y
  have L := (B.put (.int .u64 (lh : Int)) (.int .u64 (ll : Int))).far2 (c := c) (fun e => hbc e.symm) (.int .u64 (rh : Int)) (.int .u64 (rl : Int))
  have M := (C.far2 (c := b) hbc (.int .u64 (lh : Int)) (.int .u64 (ll : Int))).put (.int .u64 (rh : Int)) (.int .u64 (rl : Int))
  replace HB : Below w.heap.size w ((((W.setCell ⟨b, 0, none⟩ (.int .u64 (lh : Int))).setCell ⟨b, 1, none⟩ (.int .u64 (ll : Int))).setCell ⟨c, 0, none⟩ (.int .u64 (rh : Int))).setCell ⟨c, 1, none⟩ (.int .u64 (rl : Int))) := (((HB.setCell (by simp; omega) _).setCell (by simp; omega) _).setCell (by simp; omega) _).setCell (by simp; omega) _
  obtain ⟨bb0, bb1, bb2, bb3, bb4⟩ := id B
  obtain ⟨cc0, cc1, cc2, cc3, cc4⟩ := id C
  have hcb : c ≠ b := fun e => hbc e.symm
  simp only [List.drop_succ_cons, List.drop_zero, Act.put, List.setIfInBounds_toArray, List.set_cons_succ, List.set_cons_zero]
  go_upto_region 4 with fail
  clear bb0 bb1 bb2 bb3 bb4 cc0 cc1 cc2 cc3 cc4 B C hbb hcc hbc hcb sHB
  generalize ((((W.setCell ⟨b, 0, none⟩ (.int .u64 (lh : Int))).setCell ⟨b, 1, none⟩ (.int .u64 (ll : Int))).setCell ⟨c, 0, none⟩ (.int .u64 (rh : Int))).setCell ⟨c, 1, none⟩ (.int .u64 (rl : Int))) = V3 at *
  apply tail_wide1 4 (by kernel_rfl) (by kernel_rfl) rfl
  · intro W1 hW
    replace L := L.keep hW
    replace M := M.keep hW
    have kL0 := fun n : Behind W1 => n.cell L.1 L.2.2.2.2
    have kL1 := fun n : Behind W1 => n.cell L.2.1 L.2.2.2.2
    have kM0 := fun n : Behind W1 => n.cell M.1 M.2.2.2.2
    have kM1 := fun n : Behind W1 => n.cell M.2.1 M.2.2.2.2
    simp only [List.take_succ_cons, List.take_zero]
    repeat (go_big_quiet_step (first | (go_at_call 55; with_reducible refine Behind.call (c5 _)) | (go_at_call 54; with_reducible refine Behind.call (c6 _))))
    exact wpQuiet_nil rfl
  intro b W hbb B hb1
  have sL := L.lt
  have sM := M.lt
  have sHB := HB.size
  replace L := L.keep hb1
  replace M := M.keep hb1
  replace HB := later HB hb1
  clear hb1
  have T := B.put (.int .u64 (th : Int)) (.int .u64 (tl : Int))
  replace L := L.far2 (c := b) (by omega) (.int .u64 (th : Int)) (.int .u64 (tl : Int))
  replace M := M.far2 (c := b) (by omega) (.int .u64 (th : Int)) (.int .u64 (tl : Int))
  replace HB : Below w.heap.size w ((W.setCell ⟨b, 0, none⟩ (.int .u64 (th : Int))).setCell ⟨b, 1, none⟩ (.int .u64 (tl : Int))) := (HB.setCell (by simp; omega) _).setCell (by simp; omega) _
  obtain ⟨bb0, bb1, bb2, bb3, bb4⟩ := id B
  simp only [List.drop_succ_cons, List.drop_zero, Act.put, List.setIfInBounds_toArray, List.set_cons_succ, List.set_cons_zero]
  go_upto_region 5 with fail
  clear bb0 bb1 bb2 bb3 bb4 B hbb sL sM sHB
  generalize ((W.setCell ⟨b, 0, none⟩ (.int .u64 (th : Int))).setCell ⟨b, 1, none⟩ (.int .u64 (tl : Int))) = V4 at *
  generalize b = bT at *
  obtain ⟨t0, t1, t2, t3, t4⟩ := id T
  cases g
  · have e := hq.out.2
    have e1 : Hid (th = 0 → tl = 0 → 0 = q) := e.1 rfl
    have e2 : Hid (¬ (th = 0 ∧ tl = 0) → 1 = q) := e.2 rfl
    clear hq e
    go_wp2_with (go_at_call 56; (with_reducible refine (c7 _).mono ?_); rintro _ V5 ⟨rfl, hb1⟩; replace T := T.keep hb1; replace HB := later HB hb1; clear hb1 t0 t1 t2 t3 t4; obtain ⟨t0, t1, t2, t3, t4⟩ := id T)
    all_goals
      go_ret
      first
        | exact ⟨congrArg (fun x : Int => Ending.returned (Value.int .i64 x)) (e1.out (by assumption) (by assumption)), HB⟩
        | exact ⟨congrArg (fun x : Int => Ending.returned (Value.int .i64 x)) (e2.out (by omega)), HB⟩
  · have e : Hid (-1 = q) := hq.out.1 rfl
    clear hq
    go_wp2_with (go_at_call 56; (with_reducible refine (c7 _).mono ?_); rintro _ V5 ⟨rfl, hb1⟩; replace T := T.keep hb1; replace HB := later HB hb1; clear hb1 t0 t1 t2 t3 t4; obtain ⟨t0, t1, t2, t3, t4⟩ := id T)
    go_ret
    exact ⟨congrArg (fun x : Int => Ending.returned (Value.int .i64 x)) e.out, HB⟩

theorem cmpRat_w (aN aD bN bD : Int) (ha : I64 aN ∧ I64 aD) (hb : I64 bN ∧ I64 bD) (w : World) :
    Calls Try.prog 24 #[.agg #[.int .i64 aN, .int .i64 aD], .agg #[.int .i64 bN, .int .i64 bD]] w fun r w' => r = .returned (.int .i64 (cmpV11 aN aD bN bD)) ∧ Below w.heap.size w w' := by
  have r1 := fun W => rright_w11 aN aD ha.1 ha.2 W
  have r2 := fun W => rright_w11 bN bD hb.1 hb.2 W
  by_cases c : (rightR aN aD && rightR bN bD) = true
  · have e : cmpV11 aN aD bN bD = cmpZ (aN * bD) (bN * aD) := by unfold cmpV11; rw [if_pos c]
    rw [e]
    obtain ⟨q1, q2⟩ := Bool.and_eq_true_iff.1 c
    rw [q1] at r1
    rw [q2] at r2
    have d1 := rightR_D q1
    have d2 := rightR_D q2
    have n1 := rightR_N q1
    have n2 := rightR_N q2
    obtain ⟨⟨a1, a2⟩, a3, a4⟩ := ha
    obtain ⟨⟨b1, b2⟩, b3, b4⟩ := hb
    have k1 : (aN * bD).natAbs < 85070591730234615865843651857942052864 := by rw [Int.natAbs_mul]; exact mul126 (by omega) (by omega)
    have k2 : (bN * aD).natAbs < 85070591730234615865843651857942052864 := by rw [Int.natAbs_mul]; exact mul126 (by omega) (by omega)
    have c1 := fun W => ramount_w aD a3 a4 W
    have c2 := fun W => ramount_w bD b3 b4 W
    obtain ⟨lh, ll, S1⟩ := sg_ex (aN * bD)
    obtain ⟨rh, rl, S2⟩ := sg_ex (bN * aD)
    obtain ⟨mh, ml, S3⟩ := sg_ex (-(bN * aD))
    obtain ⟨th, tl, S4⟩ := sg_ex (aN * bD + -(bN * aD))
    have c3 := fun W => wsgn_w aN bD.natAbs lh ll a1 a2 (by omega) (by rw [show ((bD.natAbs : Nat) : Int) = bD by omega]; exact S1) W
    have c4 := fun W => wsgn_w bN aD.natAbs rh rl b1 b2 (by omega) (by rw [show ((aD.natAbs : Nat) : Int) = aD by omega]; exact S2) W
    refine rcmp_core aN aD bN bD _ _ _ lh ll rh rl mh ml th tl _ r1 r2 c1 c2 c3 c4 (fun W => wneg_w rh rl mh ml S2 S3 W) (fun W => wplus_w lh ll mh ml th tl S1 S3 S4 W) (fun W => wbelow_w th tl W) ?_ w
    obtain ⟨u1, u2, u3⟩ := S4
    clear S1 S2 S3 c1 c2 c3 c4 r1 r2 e c
    generalize aN * bD = x at *
    generalize bN * aD = y at *
    have hz := cmpZ_cases x y
    refine ⟨fun g => ?_, fun g h1 h2 => ?_, fun g h => ?_⟩
    · have g := of_decide_eq_true g
      rcases hz with ⟨h, e⟩ | ⟨h, e⟩ | ⟨h, e⟩
      · exact e.symm
      · exfalso; omega
      · exfalso; omega
    · have g := of_decide_eq_false g
      rcases hz with ⟨h, e⟩ | ⟨h, e⟩ | ⟨h, e⟩
      · exfalso; omega
      · exact e.symm
      · exfalso; omega
    · have g := of_decide_eq_false g
      rcases hz with ⟨h, e⟩ | ⟨h, e⟩ | ⟨h, e⟩
      · exfalso; omega
      · exfalso; omega
      · exact e.symm
  · have e : cmpV11 aN aD bN bD = 0 := by unfold cmpV11; rw [if_neg c]
    rw [e]
    exact rcmp_bad aN aD bN bD _ _ (by simpa using c) r1 r2 w

end Go.Proofs.Ytdnpoacjamkhkaa
