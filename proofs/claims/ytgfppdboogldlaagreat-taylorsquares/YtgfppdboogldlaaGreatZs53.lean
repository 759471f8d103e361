/- The law of the two series, for all floats and orders. -/
import Derived.Test.YtgfppdboogldlaaGreatZs52
namespace Go.Proofs.YtgfppdboogldlaaGreat
open Go.ChangeShapes Go.WideShapes Go.ChangeAt Go.RowKit
set_option maxHeartbeats 2000000 in
theorem tsq_out1 (v:Nat) (order:Int) (w:World) (o1:(FloatKind.f64.format.order v 13848568854164275200==some .gt || FloatKind.f64.format.order v 13848568854164275200==some .eq)=false) :
   Calls Tryz.prog 4 #[.float .f64 v,.int .i64 order] w fun e w'=>e=.returned (.bool true)∧Below w.heap.size w w':=by
 go_enter Tryz.func4,Tryz.ntmps4
 go_wp2_with fail
 go_ret
 exact⟨rfl,Below.refl _ _⟩
set_option maxHeartbeats 2000000 in
theorem tsq_out2 (v:Nat) (order:Int) (w:World) (o1:(FloatKind.f64.format.order v 13848568854164275200==some .gt || FloatKind.f64.format.order v 13848568854164275200==some .eq)=true)
   (o2:(FloatKind.f64.format.order v 4625196817309499392==some .lt || FloatKind.f64.format.order v 4625196817309499392==some .eq)=false) :
   Calls Tryz.prog 4 #[.float .f64 v,.int .i64 order] w fun e w'=>e=.returned (.bool true)∧Below w.heap.size w w':=by
 go_enter Tryz.func4,Tryz.ntmps4
 go_wp2_with fail
 go_ret
 exact⟨rfl,Below.refl _ _⟩
set_option maxHeartbeats 2000000 in
theorem tsq_out3 (v:Nat) (order:Int) (w:World) (o1:(FloatKind.f64.format.order v 13848568854164275200==some .gt || FloatKind.f64.format.order v 13848568854164275200==some .eq)=true)
   (o2:(FloatKind.f64.format.order v 4625196817309499392==some .lt || FloatKind.f64.format.order v 4625196817309499392==some .eq)=true)
   (o3:(FloatKind.f64.format.order v 0 != some .eq)=true) (o4:(FloatKind.f64.format.order v 4562254508917369340==some .lt)=true) (o5:(FloatKind.f64.format.order v 13785626545772145148==some .gt)=true) :
   Calls Tryz.prog 4 #[.float .f64 v,.int .i64 order] w fun e w'=>e=.returned (.bool true)∧Below w.heap.size w w':=by
 go_enter Tryz.func4,Tryz.ntmps4
 go_wp2_with fail
 go_ret
 exact⟨rfl,Below.refl _ _⟩
set_option maxHeartbeats 4000000 in
theorem tsq_out4 (v:Nat) (order:Int) (w:World) (e3 b4 b5:Bool) (hb:e3=false∨b4=false∨b5=false) (hd:decide (order<0)=true∨(decide (order<0)=false∧decide ((12:Int)<order)=true)) (o1:(FloatKind.f64.format.order v 13848568854164275200==some .gt || FloatKind.f64.format.order v 13848568854164275200==some .eq)=true)
   (o2:(FloatKind.f64.format.order v 4625196817309499392==some .lt || FloatKind.f64.format.order v 4625196817309499392==some .eq)=true)
   (o3:(FloatKind.f64.format.order v 0 != some .eq)=e3) (o4:(FloatKind.f64.format.order v 4562254508917369340==some .lt)=b4) (o5:(FloatKind.f64.format.order v 13785626545772145148==some .gt)=b5) :
   Calls Tryz.prog 4 #[.float .f64 v,.int .i64 order] w fun e w'=>e=.returned (.bool true)∧Below w.heap.size w w':=by
 cases e3
 case' true=>cases b4
 case' true.true=>cases b5
 case' true.true.true=>simp at hb
 all_goals
   clear hb
   rcases hd with d1 | ⟨d1,d2⟩
   · go_enter Tryz.func4,Tryz.ntmps4
     go_wp2_with fail
     go_ret
     exact⟨rfl,Below.refl _ _⟩
   · go_enter Tryz.func4,Tryz.ntmps4
     go_wp2_with fail
     go_ret
     exact⟨rfl,Below.refl _ _⟩
theorem taylorSquares_w (v:Nat) (order:Int) (hv:v<18446744073709551616) (w:World) :
   Calls Tryz.prog 4 #[.float .f64 v,.int .i64 order] w fun e w'=>e=.returned (.bool true)∧Below w.heap.size w w':=by
 have o1:=o_ge hv (show 13848568854164275200<18446744073709551616 by decide)
 have o2:=o_le hv (show 4625196817309499392<18446744073709551616 by decide)
 cases l1:leB 13848568854164275200 v
 · rw [l1] at o1
   exact tsq_out1 v order w o1
 · rw [l1] at o1
   cases l2:leB v 4625196817309499392
   · rw [l2] at o2
     exact tsq_out2 v order w o1 o2
   · rw [l2] at o2
     by_cases hb:(FloatKind.f64.format.order v 0 != some .eq)=true∧(FloatKind.f64.format.order v 4562254508917369340==some .lt)=true∧(FloatKind.f64.format.order v 13785626545772145148==some .gt)=true
     · exact tsq_out3 v order w o1 o2 hb.1 hb.2.1 hb.2.2
     · have hb':(FloatKind.f64.format.order v 0 != some .eq)=false∨(FloatKind.f64.format.order v 4562254508917369340==some .lt)=false∨(FloatKind.f64.format.order v 13785626545772145148==some .gt)=false:=by
         generalize (FloatKind.f64.format.order v 0 != some .eq)=x at *
         generalize (FloatKind.f64.format.order v 4562254508917369340==some .lt)=y at *
         generalize (FloatKind.f64.format.order v 13785626545772145148==some .gt)=z at *
         cases x <;> cases y <;> cases z <;> simp at hb ⊢
       by_cases d:0≤order∧order≤12
       · obtain⟨n,rfl⟩:∃n:Nat,order=(n:Int):=⟨order.toNat,by omega⟩
         exact tsq_in v hv n (by omega) _ _ _ hb' w l1 l2 o1 o2 rfl rfl rfl
       · have hd:decide (order<0)=true∨(decide (order<0)=false∧decide ((12:Int)<order)=true):=by
           by_cases a:order<0
           · exact Or.inl (decide_eq_true a)
           · exact Or.inr ⟨decide_eq_false a,decide_eq_true (by omega)⟩
         exact tsq_out4 v order w _ _ _ hb' hd o1 o2 rfl rfl rfl
end Go.Proofs.YtgfppdboogldlaaGreat
