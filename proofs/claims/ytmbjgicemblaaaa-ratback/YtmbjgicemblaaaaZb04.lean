/- What math/bits' Div64 answers, of a divisor whose first bit is set; the walk of quotient. The walk of root: the exact root of an amount, with a mark for what is lost. The walks of Add, Sub, Mul, Div and Sqrt where all that comes in is finite: what is rounded is the exact result's Parts. -/
import Derived.Test.YtmbjgicemblaaaaZb03
import Derived.WalkKit
import Derived.Test.YtmbjgicemblaaaaZb02
import Derived.Deep.CutBlock
import Derived.Deep.CutRange
import Derived.Deep.LoopGhost
namespace Go.Proofs.Ytmbjgicemblaaaa
open Go.ChangeShapes Go.WideShapes Go.ChangeAt Go.RowKit
theorem nan_w (w:World):Calls Try.prog 84 #[] w fun e w'=>e=.returned (.float .f64 9221120237041090561)∧w=w':=by
 go_enter Try.func84,Try.ntmps84
 go_wp2
 all_goals (go_ret;exact⟨rfl,rfl⟩)
theorem isNaN_w (x:Nat) (hx:x<18446744073709551616) (w:World) :
   Calls Try.prog 83 #[.float .f64 x] w fun e w'=>e=.returned (.bool (nanB x))∧w=w':=by
 have ho:(FloatKind.f64.format.order x x != some Ordering.eq)=nanB x:=by
   rw [order_eq x x hx hx,Bool.or_self]
   cases nanB x <;> simp
 go_enter Try.func83,Try.ntmps83
 go_wp2
 all_goals (go_ret;exact⟨rfl,rfl⟩)
set_option maxHeartbeats 400000 in
theorem add_core (a b:Nat) (dir:Int) (ga gb gs:Bool) (ma mb ms:Nat) (ea eb es:Int) (r:Nat)
   (ha:∀w,Calls Try.prog 80 #[.float .f64 a] w fun x w'=>x=.returned (.tuple #[.agg #[.bool ga,.int .u64 ma,.int .i64 ea],.bool true])∧Below w.heap.size w w')
   (hb:∀w,Calls Try.prog 80 #[.float .f64 b] w fun x w'=>x=.returned (.tuple #[.agg #[.bool gb,.int .u64 mb,.int .i64 eb],.bool true])∧Below w.heap.size w w')
   (hs:∀w,Calls Try.prog 81 #[.agg #[.bool ga,.int .u64 ma,.int .i64 ea],.agg #[.bool gb,.int .u64 mb,.int .i64 eb]] w fun x w'=>x=.returned (.agg #[.bool gs,.int .u64 ms,.int .i64 es])∧Below w.heap.size w w')
   (hr:∀w,Calls Try.prog 54 #[.agg #[.bool gs,.int .u64 ms,.int .i64 es],.int .i64 dir] w fun x w'=>x=.returned (.float .f64 r)∧Below w.heap.size w w') (w:World) :
   Calls Try.prog 55 #[.float .f64 a,.float .f64 b,.int .i64 dir] w fun x w'=>x=.returned (.float .f64 r)∧Below w.heap.size w w':=by
 go_enter Try.func55,Try.ntmps55
 go_upto_region 2 with (first | (go_at_call_of 80 (Value.float .f64 a);refine (ha _).mono ?_;rintro _ w1 ⟨rfl,hb1⟩))
 go_wp2_with (first
   | (go_at_call_of 80 (Value.float .f64 b);refine (hb _).mono ?_;rintro _ w2 ⟨rfl,hb2⟩
      have c0:=keepsC hb2 (b:=w1.heap.size) (o:=0) (v:=.bool ga) (by go_simp) (by simp)
      have c1:=keepsC hb2 (b:=w1.heap.size) (o:=1) (v:=.int .u64 ma) (by go_simp) (by simp)
      have c2:=keepsC hb2 (b:=w1.heap.size) (o:=2) (v:=.int .i64 ea) (by go_simp) (by simp)
      have hsz:w1.heap.size<w2.heap.size:=by have:=hb2.size;simp only [World.size_alloc] at this;omega)
   | (go_at_call 81;refine (hs _).mono ?_;rintro _ w3 ⟨rfl,hb3⟩)
   | (go_at_call 54;refine (hr _).mono ?_;rintro _ w4 ⟨rfl,hb4⟩))
 all_goals
   go_ret
   refine⟨rfl, ?_⟩
   have t2:Below w.heap.size w (w1.alloc (Obj.cells #[Value.bool ga,Value.int IntKind.u64 ma,Value.int IntKind.i64 ea] 69)):=hb1.alloc hb1.size _
   have t3:=later t2 hb2
   have t4:Below w.heap.size w (w2.alloc (Obj.cells #[Value.bool gb,Value.int IntKind.u64 mb,Value.int IntKind.i64 eb] 69)):=t3.alloc t3.size _
   exact later (later t4 hb3) hb4
end Go.Proofs.Ytmbjgicemblaaaa
