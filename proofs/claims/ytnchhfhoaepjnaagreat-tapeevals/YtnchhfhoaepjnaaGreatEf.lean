/- Small functions of elem: counted, quarters. -/
import Derived.Test.YtnchhfhoaepjnaaGreatEe
namespace Go.Proofs.YtnchhfhoaepjnaaGreat
open Go.ChangeShapes Go.WideShapes Go.ChangeAt Go.RowKit

set_option maxHeartbeats 1000000 in
theorem counted_core (x1 x2 g1 g2 : Nat) (s : Nat × Nat)
    (c1 : ∀ w, Calls Tryz.prog 124 #[] w fun e w' => e = .returned (.agg #[.float .f64 g1, .float .f64 g2]) ∧ Below w.heap.size w w')
    (c2 : ∀ w, Calls Tryz.prog 81 #[.agg #[.float .f64 x1, .float .f64 x2], .agg #[.float .f64 g1, .float .f64 g2]] w fun e w' => e = .returned (.agg #[.float .f64 s.1, .float .f64 s.2]) ∧ Below w.heap.size w w') (w : World) :
    Calls Tryz.prog 132 #[.agg #[.float .f64 x1, .float .f64 x2]] w fun e w' => e = .returned (.agg #[.float .f64 s.1, .float .f64 s.2]) ∧ Below w.heap.size w w' := by
  obtain ⟨X, R, HB⟩ := enter1 w (.float .f64 x1) (.float .f64 x2) 46
  go_enter Tryz.func132, Tryz.ntmps132
  go_upto_region 1 with fail
  generalize (w.alloc (.cells #[.float .f64 x1, .float .f64 x2] 46)).alloc (.cells #[.float .f64 0, .float .f64 0] 46) = V1 at *
  have kx0 := fun n : Behind V1 => n.cell X.1 X.2.2.2.2
  have kx1 := fun n : Behind V1 => n.cell X.2.1 X.2.2.2.2
  refine tail_behind 3 (by kernel_rfl) (by kernel_rfl) ?_
  simp only [List.take_succ_cons, List.take_zero, List.drop_succ_cons, List.drop_zero]
  repeat (go_big_quiet_step (first
    | (go_at_call 124; with_reducible refine Behind.call (c1 _))
    | (go_at_call 81; with_reducible refine Behind.call (c2 _))))
  refine wpQuiet_nil ?_
  rintro _ ⟨m', rfl⟩
  obtain ⟨W, hb1⟩ := m'
  dsimp only
  clear kx0 kx1
  replace R := R.keep hb1; replace HB := later HB hb1; clear hb1
  obtain ⟨k0, k1, k2, k3, k4⟩ := id R
  go_wp2_with fail
  refine bodyPost_ret (v := .agg #[.float .f64 s.1, .float .f64 s.2]) (by simp [results, Tryz.results132, go_sem, *]) rfl ⟨rfl, ?_⟩
  repeat' (first | (with_reducible exact HB) | (with_reducible refine Below.setCell ?_ ?_ _) | go_size)

theorem ecounted_w (x1 x2 : Nat) (h1 : x1 < 18446744073709551616) (h2 : x2 < 18446744073709551616) (w : World) :
    Calls Tryz.prog 132 #[.agg #[.float .f64 x1, .float .f64 x2]] w fun e w' => e = .returned (.agg #[.float .f64 (meetP x1 x2 (infI (-1)) (infI 1)).1, .float .f64 (meetP x1 x2 (infI (-1)) (infI 1)).2]) ∧ Below w.heap.size w w' :=
  counted_core x1 x2 (infI (-1)) (infI 1) _ (fun w => whole_w w) (fun w => meet_w x1 x2 (infI (-1)) (infI 1) h1 h2 (infI_lt _) (infI_lt _) w) w

end Go.Proofs.YtnchhfhoaepjnaaGreat
