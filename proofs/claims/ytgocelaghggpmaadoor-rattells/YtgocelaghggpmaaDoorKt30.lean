/- The walks of the reference's Index and At. -/
import Derived.Test.YtgocelaghggpmaaDoorKt02
namespace Go.Proofs.YtgocelaghggpmaaDoor
open Go.ChangeShapes Go.WideShapes Go.ChangeAt Go.RowKit
theorem index_w (x:Nat) (hx:x<18446744073709551616) (w:World) :
   Calls Tryd.prog 145 #[.float .f64 x] w fun e w'=>e=.returned (.int .i64 (key x))∧w=w':=by
 unfold key
 by_cases h:x<9223372036854775808
 · have h':((x:Int)/9223372036854775808==1)=false:=by simp;omega
   rw [if_pos h]
   have hw:wrap64 (x:Int)=x:=by rw [wrap64];omega
   go_enter Tryd.func145,Tryd.ntmps145
   go_wp2
   all_goals (go_ret;exact⟨rfl,rfl⟩)
 · have h':((x:Int)/9223372036854775808==1)=true:=by simp;omega
   rw [if_neg h]
   go_enter Tryd.func145,Tryd.ntmps145
   go_wp2
   all_goals (go_ret;refine⟨?_,rfl⟩)
   all_goals
     show Ending.returned (Value.int IntKind.i64 _)=_
     congr 2
     omega
theorem at_w (i:Int) (h1:-9223372036854775807≤i) (h2:i≤9223372036854775807) (w:World) :
   Calls Tryd.prog 82 #[.int .i64 i] w fun e w'=>e=.returned (.float .f64 (ofKey i))∧w=w':=by
 unfold ofKey
 by_cases h:i<0
 · rw [if_pos h]
   go_enter Tryd.func82,Tryd.ntmps82
   go_wp2
   all_goals (go_ret;refine⟨?_,rfl⟩)
   all_goals
     show Ending.returned (Value.float FloatKind.f64 _)=_
     congr 2
     omega
 · rw [if_neg h]
   go_enter Tryd.func82,Tryd.ntmps82
   go_wp2
   all_goals (go_ret;exact⟨rfl,rfl⟩)
end Go.Proofs.YtgocelaghggpmaaDoor
