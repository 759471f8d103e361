/- The walks of the reference's small functions on intervals: what may be, what holds nothing. The walks of the reference's Right, None, Make, Has, Inside, Strict, Same: they answer as the program's. The walks of the reference's Same, Has, Inside and Strict: they answer as the program's. -/
import Derived.Test.YtfdelmgingefkaaGreatZ08
namespace Go.Proofs.YtfdelmgingefkaaGreat
open Go.ChangeShapes Go.WideShapes Go.ChangeAt Go.RowKit
theorem rsame_w (a b c d:Nat) (ha:a<18446744073709551616) (hb:b<18446744073709551616) (hc:c<18446744073709551616) (hd:d<18446744073709551616) (w:World) :
   Calls Tryz.prog 15 #[.agg #[.float .f64 a,.float .f64 b],.agg #[.float .f64 c,.float .f64 d]] w fun e w'=>e=.returned (.bool (sameB a c&&sameB b d))∧Below w.heap.size w w':=by
 have s1:=fun w=>same_w a c ha hc w
 have s2:=fun w=>same_w b d hb hd w
 generalize sameB a c=b1 at *
 generalize sameB b d=b2 at *
 cases b1
 all_goals
   go_enter Tryz.func15,Tryz.ntmps15
   go_wp2_with (first
     | (go_at_call_of 51 (Value.float .f64 a);refine (s1 _).mono ?_;rintro _ _ ⟨rfl,rfl⟩)
     | (go_at_call_of 51 (Value.float .f64 b);refine (s2 _).mono ?_;rintro _ _ ⟨rfl,rfl⟩))
   go_ret
   exact⟨rfl,by go_grown⟩
end Go.Proofs.YtfdelmgingefkaaGreat
