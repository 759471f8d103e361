/- near, powerOfTwo, scaled; the series of sine and cosine; constants in more bits. -/
import Derived.Test.YtnchhfhoaepjnaaGreatEg
namespace Go.Proofs.YtnchhfhoaepjnaaGreat
open Go.ChangeShapes Go.WideShapes Go.ChangeAt Go.RowKit

set_option maxHeartbeats 1000000 in
theorem near_core (x : Nat × Nat) (m r : Nat) (k : Int) (c1 : ∀ w, Calls Tryz.prog 171 #[.agg #[.float .f64 x.1, .float .f64 x.2]] w fun e w' => e = .returned (.float .f64 m) ∧ Below w.heap.size w w') (ha : ∀ w, (binOp .add 44 (.float .f64 m) (.float .f64 4602678819172646912)).run Tryz.prog w = .ok (.float .f64 r) w)
    (c2 : ∀ w, Calls Tryz.prog 170 #[.float .f64 r] w fun e w' => e = .returned (.int .i64 k) ∧ w = w') (w : World) : Calls Tryz.prog 133 #[.agg #[.float .f64 x.1, .float .f64 x.2]] w fun e w' => e = .returned (.int .i64 k) ∧ Below w.heap.size w w' := by
  go_enter Tryz.func133, Tryz.ntmps133
  go_wp2_with (first
    | (go_at_call 171; with_reducible refine (c1 _).mono ?_; rintro _ V1 ⟨rfl, hb1⟩; have HB : Below w.heap.size w V1 := later (by go_grown) hb1)
    | (go_at_call 170; with_reducible refine (c2 _).mono ?_; rintro _ V2 ⟨rfl, rfl⟩))
  go_ret
  exact ⟨rfl, HB⟩

def halfUp (m : Nat) : Nat := (Ieee.double.add m 4602678819172646912).getD 0
def nearI (x : Nat × Nat) : Int := flI (halfUp (midQ x))

theorem cNear {x : Nat × Nat} (hx : W2 x) (hb : midQ x % 9223372036854775808 < 4832362400168542208) (w : World) : Calls Tryz.prog 133 #[.agg #[.float .f64 x.1, .float .f64 x.2]] w fun e w' => e = .returned (.int .i64 (nearI x)) ∧ Below w.heap.size w w' := by
  obtain ⟨r, e, l, b⟩ := add_small (midQ x) 4602678819172646912 hb (by omega)
  have er : halfUp (midQ x) = r := by unfold halfUp; rw [e]; rfl
  unfold nearI
  rw [er]
  exact near_core x _ r _ (fun w => cMid hx w) (fun w => run_float_arith w .add 44 .f64 _ _ r e) (fun w => floor_w r l (by omega) w) w
theorem nearI_in {x : Nat × Nat} (hb : midQ x % 9223372036854775808 < 4832362400168542208) : -9007199254740993 ≤ nearI x ∧ nearI x ≤ 9007199254740992 := by
  obtain ⟨r, e, l, b⟩ := add_small (midQ x) 4602678819172646912 hb (by omega)
  have er : halfUp (midQ x) = r := by unfold halfUp; rw [e]; rfl
  unfold nearI
  rw [er]
  exact flI_in r (by omega)

/-- The word of 2^k. -/
def pw2 (k : Int) : Nat := ((k + 1023) % 18446744073709551616 * 4503599627370496 % 18446744073709551616).toNat
theorem pw2_lt (k : Int) : pw2 k < 18446744073709551616 := by unfold pw2; omega

set_option maxHeartbeats 1000000 in
theorem pow2_core (k : Int) (hk : -20000000000000000 ≤ k ∧ k ≤ 20000000000000000) (p : Nat × Nat) (c1 : ∀ w, Calls Tryz.prog 114 #[.float .f64 (pw2 k)] w fun e w' => e = .returned (.agg #[.float .f64 p.1, .float .f64 p.2]) ∧ Below w.heap.size w w') (w : World) : Calls Tryz.prog 172 #[.int .i64 k] w fun e w' => e = .returned (.agg #[.float .f64 p.1, .float .f64 p.2]) ∧ Below w.heap.size w w' := by
  have R : Has2 (w.alloc (.cells #[.float .f64 0, .float .f64 0] 46)) w.heap.size (.float .f64 0) (.float .f64 0) := has2_new _ _ _ _
  have HB : Below w.heap.size w (w.alloc (.cells #[.float .f64 0, .float .f64 0] 46)) := by go_grown
  unfold pw2 at c1
  go_enter Tryz.func172, Tryz.ntmps172
  go_wp2_with (go_at_call 114; refine (c1 _).mono ?_; rintro _ V1 ⟨rfl, hb1⟩; replace R := R.keep hb1; replace HB := later HB hb1; clear hb1; obtain ⟨k0, k1, k2, k3, k4⟩ := id R)
  refine bodyPost_ret (v := .agg #[.float .f64 p.1, .float .f64 p.2]) (by simp [results, Tryz.results172, go_sem, *]) rfl ⟨rfl, ?_⟩; repeat' (first | (with_reducible exact HB) | (with_reducible refine Below.setCell ?_ ?_ _) | go_size)

theorem cPow2 (k : Int) (hk : -20000000000000000 ≤ k ∧ k ≤ 20000000000000000) (w : World) : Calls Tryz.prog 172 #[.int .i64 k] w fun e w' => e = .returned (.agg #[.float .f64 (ptQ (pw2 k)).1, .float .f64 (ptQ (pw2 k)).2]) ∧ Below w.heap.size w w' := pow2_core k hk _ (fun w => cPoint (pw2_lt k) w) w

set_option maxHeartbeats 1000000 in
theorem scaled_core (x a b m s : Nat × Nat) (k h g : Int) (hk : -10000000000000000 ≤ k ∧ k ≤ 10000000000000000) (eh : k.tdiv 2 = h) (eg : k - h = g) (c1 : ∀ w, Calls Tryz.prog 172 #[.int .i64 h] w fun e w' => e = .returned (.agg #[.float .f64 a.1, .float .f64 a.2]) ∧ Below w.heap.size w w') (c2 : ∀ w, Calls Tryz.prog 172 #[.int .i64 g] w fun e w' => e = .returned (.agg #[.float .f64 b.1, .float .f64 b.2]) ∧ Below w.heap.size w w') (c3 : ∀ w, Calls Tryz.prog 72 #[.agg #[.float .f64 x.1, .float .f64 x.2], .agg #[.float .f64 a.1, .float .f64 a.2]] w fun e w' => e = .returned (.agg #[.float .f64 m.1, .float .f64 m.2]) ∧ Below w.heap.size w w') (c4 : ∀ w, Calls Tryz.prog 72 #[.agg #[.float .f64 m.1, .float .f64 m.2], .agg #[.float .f64 b.1, .float .f64 b.2]] w fun e w' => e = .returned (.agg #[.float .f64 s.1, .float .f64 s.2]) ∧ Below w.heap.size w w') (w : World) : Calls Tryz.prog 135 #[.agg #[.float .f64 x.1, .float .f64 x.2], .int .i64 k] w fun e w' => e = .returned (.agg #[.float .f64 s.1, .float .f64 s.2]) ∧ Below w.heap.size w w' := by
  obtain ⟨X, R, HB⟩ := enter1 w (.float .f64 x.1) (.float .f64 x.2) 46
  have hh : -10000000000000000 ≤ h ∧ h ≤ 10000000000000000 := by have ht : (k.tdiv 2).natAbs = k.natAbs / 2 := Int.natAbs_tdiv k 2; omega
  go_enter Tryz.func135, Tryz.ntmps135
  go_upto_region 2 with fail
  generalize (w.alloc (.cells #[.float .f64 x.1, .float .f64 x.2] 46)).alloc (.cells #[.float .f64 0, .float .f64 0] 46) = V1 at *
  have kX0 := fun n : Behind V1 => n.cell X.1 X.2.2.2.2; have kX1 := fun n : Behind V1 => n.cell X.2.1 X.2.2.2.2
  refine tail_behind 9 (by kernel_rfl) (by kernel_rfl) ?_
  simp only [List.take_succ_cons, List.take_zero, List.drop_succ_cons, List.drop_zero]
  repeat (go_big_quiet_step (first | (go_at_call 172; with_reducible refine Behind.call (c1 _)) | (go_at_call 172; with_reducible refine Behind.call (c2 _)) | (go_at_call 72; with_reducible refine Behind.call (c3 _)) | (go_at_call 72; with_reducible refine Behind.call (c4 _))))
  refine wpQuiet_nil ?_
  rintro _ ⟨m', rfl⟩
  obtain ⟨W, hb1⟩ := m'
  dsimp only
  clear kX0 kX1
  replace R := R.keep hb1; replace HB := later HB hb1; clear hb1
  obtain ⟨k0, k1, k2, k3, k4⟩ := id R
  go_wp2_with fail
  refine bodyPost_ret (v := .agg #[.float .f64 s.1, .float .f64 s.2]) (by simp [results, Tryz.results135, go_sem, *]) rfl ⟨rfl, ?_⟩; repeat' (first | (with_reducible exact HB) | (with_reducible refine Below.setCell ?_ ?_ _) | go_size)

def scaledQ (x : Nat × Nat) (k : Int) : Nat × Nat := mulQ (mulQ x (ptQ (pw2 (k.tdiv 2)))) (ptQ (pw2 (k - k.tdiv 2)))
theorem cScaled {x : Nat × Nat} (hx : W2 x) (k : Int) (hk : -10000000000000000 ≤ k ∧ k ≤ 10000000000000000) (w : World) : Calls Tryz.prog 135 #[.agg #[.float .f64 x.1, .float .f64 x.2], .int .i64 k] w fun e w' => e = .returned (.agg #[.float .f64 (scaledQ x k).1, .float .f64 (scaledQ x k).2]) ∧ Below w.heap.size w w' := by
  have h1 : -10000000000000000 ≤ k.tdiv 2 ∧ k.tdiv 2 ≤ 10000000000000000 := by have ht : (k.tdiv 2).natAbs = k.natAbs / 2 := Int.natAbs_tdiv k 2; omega
  exact scaled_core x _ _ _ _ k _ _ hk rfl rfl (fun w => cPow2 _ (by omega) w) (fun w => cPow2 _ (by omega) w) (fun w => cMul hx (ptQ_W2 (pw2_lt _)) w) (fun w => cMul (mulQ_W2 hx (ptQ_W2 (pw2_lt _))) (ptQ_W2 (pw2_lt _)) w) w
theorem scaledQ_W2 {x : Nat × Nat} (hx : W2 x) (k : Int) : W2 (scaledQ x k) := mulQ_W2 (mulQ_W2 hx (ptQ_W2 (pw2_lt _))) (ptQ_W2 (pw2_lt _))

end Go.Proofs.YtnchhfhoaepjnaaGreat
