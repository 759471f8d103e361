/- Plain facts on the program's rounding, whatever is rounded: its three sides stand in order, no more than neighbours apart. Plain facts: what the program rounds an amount to is what the document asks for, of any exact amount that the parts stand for. Plain facts: numbers with signs, rounded down: the place of the greatest float that is not above; the greater the number, the greater the place. The walks of the program's small functions on intervals: infinite ends, signs of nought, which intervals hold some number. The walks of holdsSome and someEmpty: which intervals hold some number. The walks of Make, Point, Whole, mirror, Neg: intervals made of ends. The walks of Point, Whole, Right, and of math.Abs and math.IsInf. The walks of Has, Inside and Strict: what is asked of intervals. The walks of Inside and Strict. -/
import Derived.Test.YtgocelaghggpmaaDoorKa01
import Derived.BigQuiet
import Derived.WalkSmall
import Derived.Deep.LoopGhost
import Derived.Test.YtgocelaghggpmaaDoorKa02
import Derived.WalkKit
import Derived.Deep.CutBlock
import Derived.Deep.CutRange
namespace Go.Proofs.YtgocelaghggpmaaDoor
end Go.Proofs.YtgocelaghggpmaaDoor
namespace Go.Proofs.YtgocelaghggpmaaDoor
end Go.Proofs.YtgocelaghggpmaaDoor
namespace Go.Proofs.YtgocelaghggpmaaDoor
def V (k:Int):Int:=if k<0 then -(val (-k).toNat:Int) else (val k.toNat:Int)
end Go.Proofs.YtgocelaghggpmaaDoor
namespace Go.Proofs.YtgocelaghggpmaaDoor
open Go.ChangeShapes Go.WideShapes Go.ChangeAt Go.RowKit
@[go_sem] theorem run_store_float (P:Program) (w:World) (a:Addr) (m:Mode) (k:FloatKind) (n:Nat):(store a (.float k n) m).run P w=stored P w a (.float k n) m:=run_store P w a _ m rfl
def ltB (a b:Nat):Bool:=!nanB a&&!nanB b&&decide (key a<key b)
theorem o_gt {a b:Nat} (ha:a<18446744073709551616) (hb:b<18446744073709551616):(FloatKind.f64.format.order a b==some .gt)=ltB b a:=by
 rw [order_eq a b ha hb]
 unfold ltB
 cases nanB a <;> cases nanB b <;> simp only [Bool.or_self,Bool.or_true,Bool.or_false,if_true,Bool.false_eq_true,if_false,Bool.not_true,Bool.not_false,Bool.false_and,Bool.and_false,Bool.true_and]
 · simp only [compare_int]
   by_cases c:key a<key b
   · have:¬key b<key a:=by omega
     rw [if_pos c];simp [this]
   · rw [if_neg c]
     by_cases e:key a=key b
     · rw [if_pos e];simp [e]
     · have:key b<key a:=by omega
       rw [if_neg e];simp [this]
 all_goals rfl
def Has2 (w:World) (b:Nat) (x y:Value):Prop:=w.cell? ⟨b,0,none⟩=some x∧w.cell? ⟨b,1,none⟩=some y∧w.frozen? ⟨b,0,none⟩=false∧w.frozen? ⟨b,1,none⟩=false∧b<w.heap.size
theorem Has2.keep {W0 w2:World} {b:Nat} {x y:Value} (h:Has2 W0 b x y) (hb:Below W0.heap.size W0 w2):Has2 w2 b x y:=by
 obtain⟨h0,h1,f0,f1,hl⟩:=h
 exact⟨keepsC hb h0 hl,keepsC hb h1 hl,keepsF hb f0 hl,keepsF hb f1 hl,Nat.lt_of_lt_of_le hl hb.size⟩
@[go_sem] theorem equalIn_float (a b:Nat) (w:World):(Op.equalIn 9999 30 (.float .f64 a) (.float .f64 b)).run Tryd.prog w=.ok (FloatKind.f64.format.order a b==some .eq) w:=by
 unfold Op.equalIn
 simp [go_sem]
 rfl
end Go.Proofs.YtgocelaghggpmaaDoor
