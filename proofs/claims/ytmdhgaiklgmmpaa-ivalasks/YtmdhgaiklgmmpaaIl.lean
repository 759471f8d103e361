/- The walk of the statement IvalAsks. -/
import Derived.Test.YtmdhgaiklgmmpaaIj
namespace Go.Proofs.Ytmdhgaiklgmmpaa
open Go.ChangeShapes Go.WideShapes Go.ChangeAt Go.RowKit

set_option maxHeartbeats 2000000 in
theorem ivalAsks_w (xl xh yl yh v : Nat) (h1 : xl < 18446744073709551616) (h2 : xh < 18446744073709551616) (h3 : yl < 18446744073709551616) (h4 : yh < 18446744073709551616) (hv : v < 18446744073709551616) (w : World) :
    Calls Try.prog 5 #[.agg #[.float .f64 xl, .float .f64 xh], .agg #[.float .f64 yl, .float .f64 yh], .float .f64 v] w fun e w' => e = .returned (.bool true) ∧ Below w.heap.size w w' := by
  have c1 := fun w => has_w xl xh v h1 h2 hv w
  have c2 := fun w => rhas_w xl xh v h1 h2 hv w
  have c3 := fun w => inside_w xl xh yl yh h1 h2 h3 h4 w
  have c4 := fun w => rinside_w xl xh yl yh h1 h2 h3 h4 w
  have c5 := fun w => strict_w xl xh yl yh h1 h2 h3 h4 w
  have c6 := fun w => rstrict_w xl xh yl yh h1 h2 h3 h4 w
  generalize hasB xl xh v = t1 at *
  generalize insideB xl xh yl yh = t2 at *
  generalize strictB xl xh yl yh = t3 at *
  clear h1 h2 h3 h4 hv
  have Z : Has2 ((w.alloc (Obj.cells #[Value.float FloatKind.f64 xl, Value.float FloatKind.f64 xh] 28)).alloc (Obj.cells #[Value.float FloatKind.f64 yl, Value.float FloatKind.f64 yh] 28)).drew w.heap.size (.float .f64 xl) (.float .f64 xh) := ⟨by go_simp, by go_simp, by go_simp, by go_simp, by go_size⟩
  have Y : Has2 ((w.alloc (Obj.cells #[Value.float FloatKind.f64 xl, Value.float FloatKind.f64 xh] 28)).alloc (Obj.cells #[Value.float FloatKind.f64 yl, Value.float FloatKind.f64 yh] 28)).drew (w.heap.size + 1) (.float .f64 yl) (.float .f64 yh) := ⟨by go_simp, by go_simp, by go_simp, by go_simp, by go_size⟩
  have HB : Below w.heap.size w ((w.alloc (Obj.cells #[Value.float FloatKind.f64 xl, Value.float FloatKind.f64 xh] 28)).alloc (Obj.cells #[Value.float FloatKind.f64 yl, Value.float FloatKind.f64 yh] 28)).drew := by go_grown
  go_enter Try.func5, Try.ntmps5
  go_wp2_with fail
  go_region_held3 (fun w' => w'.cell? ⟨w.heap.size, 0, none⟩ = some (.float .f64 xl) ∧ w'.cell? ⟨w.heap.size, 1, none⟩ = some (.float .f64 xh) ∧ w'.cell? ⟨w.heap.size + 1, 0, none⟩ = some (.float .f64 yl) ∧ w'.cell? ⟨w.heap.size + 1, 1, none⟩ = some (.float .f64 yh)) (first | exact ⟨Z.1, Z.2.1, Y.1, Y.2.1⟩ | go_keep)
    (first
      | (go_at_call 25; refine (c1 _).mono ?_; rintro _ w1 ⟨rfl, hb1⟩; replace Z := Z.keep hb1; replace Y := Y.keep hb1; replace HB := later HB hb1)
      | (go_at_call 26; refine (c2 _).mono ?_; rintro _ w1 ⟨rfl, hb1⟩; replace Z := Z.keep hb1; replace Y := Y.keep hb1; replace HB := later HB hb1)
      | (go_at_call 27; refine (c3 _).mono ?_; rintro _ w1 ⟨rfl, hb1⟩; replace Z := Z.keep hb1; replace Y := Y.keep hb1; replace HB := later HB hb1)
      | (go_at_call 28; refine (c4 _).mono ?_; rintro _ w1 ⟨rfl, hb1⟩; replace Z := Z.keep hb1; replace Y := Y.keep hb1; replace HB := later HB hb1)
      | (go_at_call 29; refine (c5 _).mono ?_; rintro _ w1 ⟨rfl, hb1⟩; replace Z := Z.keep hb1; replace Y := Y.keep hb1; replace HB := later HB hb1)
      | (go_at_call 30; refine (c6 _).mono ?_; rintro _ w1 ⟨rfl, hb1⟩; replace Z := Z.keep hb1; replace Y := Y.keep hb1; replace HB := later HB hb1))
  all_goals
    go_wp2
    go_ret
    exact ⟨rfl, HB⟩

end Go.Proofs.Ytmdhgaiklgmmpaa
