/- The walk of the statement IvalShapes. -/
import Derived.Test.YtmdhgaiklgmmpaaIi
namespace Go.Proofs.Ytmdhgaiklgmmpaa
open Go.ChangeShapes Go.WideShapes Go.ChangeAt Go.RowKit

theorem rsame_refl (a b : Nat) (ha : a < 18446744073709551616) (hb : b < 18446744073709551616) (w : World) :
    Calls Try.prog 17 #[.agg #[.float .f64 a, .float .f64 b], .agg #[.float .f64 a, .float .f64 b]] w fun e w' => e = .returned (.bool true) ∧ Below w.heap.size w w' := by
  have h := rsame_w a b a b ha hb ha hb w
  rw [sameB_refl, sameB_refl] at h
  exact h

set_option maxHeartbeats 2000000 in
theorem ivalShapes_w (lo hi a b : Nat) (hl : lo < 18446744073709551616) (hh : hi < 18446744073709551616) (ha : a < 18446744073709551616) (hb : b < 18446744073709551616) (w : World) :
    Calls Try.prog 4 #[.agg #[.float .f64 lo, .float .f64 hi], .float .f64 a, .float .f64 b] w fun e w' => e = .returned (.bool true) ∧ Below w.heap.size w w' := by
  have c1 := fun w => right_w lo hi hl hh w
  have c2 := fun w => refRight_w lo hi hl hh w
  have c3 := fun w => make_w a b ha hb w
  have c4 := fun w => rmake_w a b ha hb w
  have c5 := fun w => point_w a ha w
  have c6 := fun w => rmake_w a a ha ha w
  have l1 := makeP_lt ha hb
  have l2 := makeP_lt ha ha
  have d1 := fun w => rsame_refl _ _ l1.1 l1.2 w
  have d2 := fun w => rsame_refl _ _ l2.1 l2.2 w
  have d3 := fun w => rsame_refl (infI 1) (infI (-1)) (infI_lt 1) (infI_lt (-1)) w
  have d4 := fun w => rsame_refl (infI (-1)) (infI 1) (infI_lt (-1)) (infI_lt 1) w
  have c7 := fun w => empty_w w
  have c8 := fun w => rempty_w w
  have c9 := fun w => whole_w w
  have c10 := fun w => rwhole_w w
  generalize rightB lo hi = t at *
  generalize (makeP a b).1 = m1 at *
  generalize (makeP a b).2 = m2 at *
  generalize (makeP a a).1 = n1 at *
  generalize (makeP a a).2 = n2 at *
  generalize infI 1 = i1 at *
  generalize infI (-1) = i2 at *
  clear hl hh ha hb l1 l2
  have Z : Has2 (w.alloc (Obj.cells #[Value.float FloatKind.f64 lo, Value.float FloatKind.f64 hi] 28)).drew w.heap.size (.float .f64 lo) (.float .f64 hi) := ⟨by go_simp, by go_simp, by go_simp, by go_simp, by go_size⟩
  have HB : Below w.heap.size w (w.alloc (Obj.cells #[Value.float FloatKind.f64 lo, Value.float FloatKind.f64 hi] 28)).drew := by go_grown
  go_enter Try.func4, Try.ntmps4
  go_wp2_with fail
  go_region_held3 (fun w' => w'.cell? ⟨w.heap.size, 0, none⟩ = some (.float .f64 lo) ∧ w'.cell? ⟨w.heap.size, 1, none⟩ = some (.float .f64 hi)) (first | exact ⟨Z.1, Z.2.1⟩ | go_keep)
    (first
      | (go_at_call 15; refine (c1 _).mono ?_; rintro _ w1 ⟨rfl, hb1⟩; replace Z := Z.keep hb1; replace HB := later HB hb1)
      | (go_at_call 16; refine (c2 _).mono ?_; rintro _ w1 ⟨rfl, hb1⟩; replace Z := Z.keep hb1; replace HB := later HB hb1)
      | (go_at_call 18; refine (c3 _).mono ?_; rintro _ w1 ⟨rfl, hb1⟩; replace Z := Z.keep hb1; replace HB := later HB hb1)
      | (go_at_call_of 19 (Value.float .f64 b); refine (c4 _).mono ?_; rintro _ w1 ⟨rfl, hb1⟩; replace Z := Z.keep hb1; replace HB := later HB hb1)
      | (go_at_call 19; refine (c6 _).mono ?_; rintro _ w1 ⟨rfl, hb1⟩; replace Z := Z.keep hb1; replace HB := later HB hb1)
      | (go_at_call 20; refine (c5 _).mono ?_; rintro _ w1 ⟨rfl, hb1⟩; replace Z := Z.keep hb1; replace HB := later HB hb1)
      | (go_at_call_of 17 (Value.agg #[.float .f64 m1, .float .f64 m2]); refine (d1 _).mono ?_; rintro _ w1 ⟨rfl, hb1⟩; replace Z := Z.keep hb1; replace HB := later HB hb1)
      | (go_at_call_of 17 (Value.agg #[.float .f64 n1, .float .f64 n2]); refine (d2 _).mono ?_; rintro _ w1 ⟨rfl, hb1⟩; replace Z := Z.keep hb1; replace HB := later HB hb1)
      | (go_at_call_of 17 (Value.agg #[.float .f64 i1, .float .f64 i2]); refine (d3 _).mono ?_; rintro _ w1 ⟨rfl, hb1⟩; replace Z := Z.keep hb1; replace HB := later HB hb1)
      | (go_at_call_of 17 (Value.agg #[.float .f64 i2, .float .f64 i1]); refine (d4 _).mono ?_; rintro _ w1 ⟨rfl, hb1⟩; replace Z := Z.keep hb1; replace HB := later HB hb1)
      | (go_at_call 21; refine (c7 _).mono ?_; rintro _ w1 ⟨rfl, hb1⟩; replace Z := Z.keep hb1; replace HB := later HB hb1)
      | (go_at_call 22; refine (c8 _).mono ?_; rintro _ w1 ⟨rfl, hb1⟩; replace Z := Z.keep hb1; replace HB := later HB hb1)
      | (go_at_call 23; refine (c9 _).mono ?_; rintro _ w1 ⟨rfl, hb1⟩; replace Z := Z.keep hb1; replace HB := later HB hb1)
      | (go_at_call 24; refine (c10 _).mono ?_; rintro _ w1 ⟨rfl, hb1⟩; replace Z := Z.keep hb1; replace HB := later HB hb1))
  all_goals
    go_wp2
    go_ret
    exact ⟨rfl, HB⟩

end Go.Proofs.Ytmdhgaiklgmmpaa
