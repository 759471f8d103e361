/- Sine and cosine of small amounts; where turns may lie; the wave at a float. -/
import Derived.Test.YtnchhfhoaepjnaaGreatEh
import Derived.Test.YtnchhfhoaepjnaaGreatEi
namespace Go.Proofs.YtnchhfhoaepjnaaGreat
open Go.ChangeShapes Go.WideShapes Go.ChangeAt Go.RowKit

/-- The step of cosine's and sine's series. -/
def turnF (o q : Nat × Nat) (f : Int) (i : Nat) (t : Nat × Nat) : Nat × Nat := subQ o (divQ (mulQ q t) (wholeQ ((2 * (i : Int) + f + 1) * (2 * (i : Int) + f + 2))))
theorem turnF_W2 {o q t : Nat × Nat} {f : Int} {i : Nat} (ho : W2 o) (hq : W2 q) (ht : W2 t) : W2 (turnF o q f i t) := subQ_W2 ho (divQ_W2 (mulQ_W2 hq ht) (wholeQ_W2 _))
def turnS (o t r : Nat × Nat) (f : Int) : Nat × Nat := serS (turnF o (sqrQ r) f) t 10 0
theorem turnS_W2 {o t r : Nat × Nat} {f : Int} (ho : W2 o) (ht : W2 t) (hr : W2 r) : W2 (turnS o t r f) := serS_lt W2 ht (fun _ _ hx => turnF_W2 ho (sqrQ_W2 hr) hx) 10 0

theorem turn_ser {o t r : Nat × Nat} (ho : W2 o) (ht : W2 t) (hr : W2 r) (f : Int) (hf : f = 0 ∨ f = 1) (c1 : ∀ w, Calls Tryz.prog 114 #[.float .f64 4607182418800017408] w fun e w' => e = .returned (.agg #[.float .f64 o.1, .float .f64 o.2]) ∧ Below w.heap.size w w') (c3 : ∀ w, Calls Tryz.prog 174 #[] w fun e w' => e = .returned (.agg #[.float .f64 t.1, .float .f64 t.2]) ∧ Below w.heap.size w w') (w : World) : Calls Tryz.prog 209 #[.agg #[.float .f64 r.1, .float .f64 r.2], .int .i64 f] w fun e w' => e = .returned (.agg #[.float .f64 (turnS o t r f).1, .float .f64 (turnS o t r f).2]) ∧ Below w.heap.size w w' := by
  refine turn_core r o (sqrQ r) t _ f c1 (fun w => cSqr hr w) c3 (fun z a b W hz hzl hA hB => ?_) w
  have L : ∀ i, W2 (serS (turnF o (sqrQ r) f) t 10 i) := fun i => serS_lt W2 ht (fun _ _ hx => turnF_W2 ho (sqrQ_W2 hr) hx) 10 i
  have E := ser_turn (serS (turnF o (sqrQ r) f) t 10) 10 z a b (by omega) W (fun i hi W' hb => by
    have Lt := L (i + 1)
    rw [serS_step _ _ 10 i hi]
    generalize serS (turnF o (sqrQ r) f) t 10 (i + 1) = x at *
    have hm : 0 ≤ (2 * (i : Int) + f + 1) * (2 * (i : Int) + f + 2) ∧ (2 * (i : Int) + f + 1) * (2 * (i : Int) + f + 2) < 100000000 := by
      have m1 := Int.mul_nonneg (show 0 ≤ 2 * (i : Int) + f + 1 by omega) (show 0 ≤ 2 * (i : Int) + f + 2 by omega)
      have m2 := Int.mul_le_mul (show 2 * (i : Int) + f + 1 ≤ 100 by omega) (show 2 * (i : Int) + f + 2 ≤ 100 by omega) (by omega) (by omega)
      exact ⟨m1, by omega⟩
    exact turn_step o.1 o.2 (sqrQ r).1 (sqrQ r).2 x.1 x.2 _ _ _ (turnF o (sqrQ r) f i x) (i : Int) f (by omega) (by omega) (by omega) (by omega) (fun w => cWhole _ w) (fun w => cMul (sqrQ_W2 hr) Lt w) (fun w => cDiv (mulQ_W2 (sqrQ_W2 hr) Lt) (wholeQ_W2 _) w) (fun w => cSub ho (divQ_W2 (mulQ_W2 (sqrQ_W2 hr) Lt) (wholeQ_W2 _)) w) z a b W' ((hb.cell hzl).trans hz) (Nat.lt_of_lt_of_le hzl hb.size) hm (hA.keep hb) (hB.keep hb))
  rw [serS_end] at E
  exact E

def turnQ (r : Nat × Nat) (f : Int) : Nat × Nat := turnS (ptQ 4607182418800017408) (mkQ 4602678819172646912 4609434218613702656) r f
theorem cTurned {r : Nat × Nat} (hr : W2 r) (f : Int) (hf : f = 0 ∨ f = 1) (w : World) : Calls Tryz.prog 209 #[.agg #[.float .f64 r.1, .float .f64 r.2], .int .i64 f] w fun e w' => e = .returned (.agg #[.float .f64 (turnQ r f).1, .float .f64 (turnQ r f).2]) ∧ Below w.heap.size w w' :=
  turn_ser (ptQ_W2 (by omega)) (mkQ_W2 (by omega) (by omega)) hr f hf (fun w => cPoint (by omega) w) (fun w => cNear1 w) w
theorem turnQ_W2 {r : Nat × Nat} (hr : W2 r) (f : Int) : W2 (turnQ r f) := turnS_W2 (ptQ_W2 (by omega)) (mkQ_W2 (by omega) (by omega)) hr

set_option maxHeartbeats 1000000 in
theorem sinz_core (r t s : Nat × Nat) (c1 : ∀ w, Calls Tryz.prog 209 #[.agg #[.float .f64 r.1, .float .f64 r.2], .int .i64 1] w fun e w' => e = .returned (.agg #[.float .f64 t.1, .float .f64 t.2]) ∧ Below w.heap.size w w') (c2 : ∀ w, Calls Tryz.prog 72 #[.agg #[.float .f64 r.1, .float .f64 r.2], .agg #[.float .f64 t.1, .float .f64 t.2]] w fun e w' => e = .returned (.agg #[.float .f64 s.1, .float .f64 s.2]) ∧ Below w.heap.size w w') (w : World) : Calls Tryz.prog 183 #[.agg #[.float .f64 r.1, .float .f64 r.2]] w fun e w' => e = .returned (.agg #[.float .f64 s.1, .float .f64 s.2]) ∧ Below w.heap.size w w' := by
  obtain ⟨X, R, HB⟩ := enter1 w (.float .f64 r.1) (.float .f64 r.2) 46
  go_enter Tryz.func183, Tryz.ntmps183
  go_upto_region 1 with fail
  generalize (w.alloc (.cells #[.float .f64 r.1, .float .f64 r.2] 46)).alloc (.cells #[.float .f64 0, .float .f64 0] 46) = V1 at *
  have kX0 := fun n : Behind V1 => n.cell X.1 X.2.2.2.2; have kX1 := fun n : Behind V1 => n.cell X.2.1 X.2.2.2.2
  refine tail_behind 4 (by kernel_rfl) (by kernel_rfl) ?_
  simp only [List.take_succ_cons, List.take_zero, List.drop_succ_cons, List.drop_zero]
  repeat (go_big_quiet_step (first | (go_at_call 209; with_reducible refine Behind.call (c1 _)) | (go_at_call 72; with_reducible refine Behind.call (c2 _))))
  refine wpQuiet_nil ?_
  rintro _ ⟨m', rfl⟩
  obtain ⟨W, hb1⟩ := m'
  dsimp only
  clear kX0 kX1
  replace R := R.keep hb1; replace HB := later HB hb1; clear hb1
  obtain ⟨k0, k1, k2, k3, k4⟩ := id R
  go_wp2_with fail
  refine bodyPost_ret (v := .agg #[.float .f64 s.1, .float .f64 s.2]) (by simp [results, Tryz.results183, go_sem, *]) rfl ⟨rfl, ?_⟩; repeat' (first | (with_reducible exact HB) | (with_reducible refine Below.setCell ?_ ?_ _) | go_size)

set_option maxHeartbeats 1000000 in
theorem cosz_core (r s : Nat × Nat) (c1 : ∀ w, Calls Tryz.prog 209 #[.agg #[.float .f64 r.1, .float .f64 r.2], .int .i64 0] w fun e w' => e = .returned (.agg #[.float .f64 s.1, .float .f64 s.2]) ∧ Below w.heap.size w w') (w : World) : Calls Tryz.prog 184 #[.agg #[.float .f64 r.1, .float .f64 r.2]] w fun e w' => e = .returned (.agg #[.float .f64 s.1, .float .f64 s.2]) ∧ Below w.heap.size w w' := by
  obtain ⟨X, R, HB⟩ := enter1 w (.float .f64 r.1) (.float .f64 r.2) 46
  go_enter Tryz.func184, Tryz.ntmps184
  go_upto_region 1 with fail
  generalize (w.alloc (.cells #[.float .f64 r.1, .float .f64 r.2] 46)).alloc (.cells #[.float .f64 0, .float .f64 0] 46) = V1 at *
  obtain ⟨x0, x1, x2, x3, x4⟩ := id X
  go_wp2_with (go_at_call 209; refine (c1 _).mono ?_; rintro _ V3 ⟨rfl, hb1⟩; replace R := R.keep hb1; replace HB := later HB hb1; clear hb1; obtain ⟨k0, k1, k2, k3, k4⟩ := id R)
  refine bodyPost_ret (v := .agg #[.float .f64 s.1, .float .f64 s.2]) (by simp [results, Tryz.results184, go_sem, *]) rfl ⟨rfl, ?_⟩; repeat' (first | (with_reducible exact HB) | (with_reducible refine Below.setCell ?_ ?_ _) | go_size)

def sinzQ (r : Nat × Nat) : Nat × Nat := mulQ r (turnQ r 1)
def coszQ (r : Nat × Nat) : Nat × Nat := turnQ r 0
theorem sinzQ_W2 {r : Nat × Nat} (hr : W2 r) : W2 (sinzQ r) := mulQ_W2 hr (turnQ_W2 hr 1)
theorem coszQ_W2 {r : Nat × Nat} (hr : W2 r) : W2 (coszQ r) := turnQ_W2 hr 0
theorem cSinz {r : Nat × Nat} (hr : W2 r) (w : World) : Calls Tryz.prog 183 #[.agg #[.float .f64 r.1, .float .f64 r.2]] w fun e w' => e = .returned (.agg #[.float .f64 (sinzQ r).1, .float .f64 (sinzQ r).2]) ∧ Below w.heap.size w w' := sinz_core r _ _ (fun w => cTurned hr 1 (Or.inr rfl) w) (fun w => cMul hr (turnQ_W2 hr 1) w) w
theorem cCosz {r : Nat × Nat} (hr : W2 r) (w : World) : Calls Tryz.prog 184 #[.agg #[.float .f64 r.1, .float .f64 r.2]] w fun e w' => e = .returned (.agg #[.float .f64 (coszQ r).1, .float .f64 (coszQ r).2]) ∧ Below w.heap.size w w' := cosz_core r _ (fun w => cTurned hr 0 (Or.inl rfl) w) w

theorem i64_and3 (n : Int) : bits .and .i64 n 3 = n % 4 := by
  show IntKind.i64.wrap ((BitVec.ofInt 64 n &&& BitVec.ofInt 64 3).toNat : Nat) = _
  rw [BitVec.toNat_and, show (BitVec.ofInt 64 3).toNat = 2 ^ 2 - 1 from rfl, Nat.and_two_pow_sub_one_eq_mod, BitVec.toNat_ofInt, IntKind.wrap_i64]
  omega

set_option maxHeartbeats 1000000 in
theorem mayPass_core (x n : Nat × Nat) (p f l c : Int) (hp : -100 ≤ p ∧ p ≤ 100) (hf : -10000000000000000 ≤ f ∧ f ≤ 10000000000000000) (hc : 0 ≤ c ∧ c ≤ 3) (ha : bits .and .i64 (p - f) 3 = c) (b : Bool) (hb : decide (f + c ≤ l) = b) (c1 : ∀ w, Calls Tryz.prog 181 #[.agg #[.float .f64 x.1, .float .f64 x.2]] w fun e w' => e = .returned (.agg #[.float .f64 n.1, .float .f64 n.2]) ∧ Below w.heap.size w w')
    (c2 : ∀ w, Calls Tryz.prog 185 #[.float .f64 n.1] w fun e w' => e = .returned (.int .i64 f) ∧ w = w') (c3 : ∀ w, Calls Tryz.prog 170 #[.float .f64 n.2] w fun e w' => e = .returned (.int .i64 l) ∧ w = w') (w : World) : Calls Tryz.prog 145 #[.agg #[.float .f64 x.1, .float .f64 x.2], .int .i64 p] w fun e w' => e = .returned (.bool b) ∧ Below w.heap.size w w' := by
  go_enter Tryz.func145, Tryz.ntmps145
  go_upto_region 2 with (go_at_call 181; refine (c1 _).mono ?_; rintro _ V1 ⟨rfl, hb1⟩; have HB : Below w.heap.size w V1 := later (by go_grown) hb1; clear hb1)
  have D : Has2 (V1.alloc (.cells #[.float .f64 n.1, .float .f64 n.2] 46)) V1.heap.size (.float .f64 n.1) (.float .f64 n.2) := has2_new _ _ _ _
  have hb1 : Below V1.heap.size V1 (V1.alloc (.cells #[.float .f64 n.1, .float .f64 n.2] 46)) := by go_grown
  replace HB := later HB hb1
  clear hb1 c1
  generalize V1.alloc (.cells #[.float .f64 n.1, .float .f64 n.2] 46) = V2 at *
  generalize V1.heap.size = d at *
  have kD0 := fun n : Behind V2 => n.cell D.1 D.2.2.2.2; have kD1 := fun n : Behind V2 => n.cell D.2.1 D.2.2.2.2
  refine region_behind (by kernel_rfl) (by kernel_rfl) ?_
  repeat (go_big_quiet_step (first | (go_at_call 185; with_reducible refine Behind.same (c2 _)) | (go_at_call 170; with_reducible refine Behind.same (c3 _))))
  refine wpQuiet_nil ?_
  rintro _ ⟨m', rfl⟩
  obtain ⟨W, hb1⟩ := m'
  dsimp only
  clear kD0 kD1
  replace HB := later HB hb1
  go_wp2_with fail
  go_ret
  subst hb
  exact ⟨rfl, HB⟩

end Go.Proofs.YtnchhfhoaepjnaaGreat
