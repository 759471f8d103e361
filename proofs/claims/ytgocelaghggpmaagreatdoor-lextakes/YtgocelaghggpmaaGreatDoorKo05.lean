/- The walks of the program's small functions on intervals: infinite ends, signs of nought, which intervals hold some number. The walks of holdsSome and someEmpty: which intervals hold some number. The walks of Make, Point, Whole, mirror, Neg: intervals made of ends. The walks of Point, Whole, Right, and of math.Abs and math.IsInf. The walks of Has, Inside and Strict: what is asked of intervals. The walks of Inside and Strict. Whole numbers as floats: what is exact is rounded to itself, to whichever side; the walk of the statement UlpWhole. -/
import Derived.BigQuiet
import Derived.WalkSmall
import Derived.Deep.LoopGhost
import Derived.Test.YtgocelaghggpmaaGreatDoorKo02
import Derived.WalkKit
import Derived.Test.YtgocelaghggpmaaGreatDoorKo01
import Derived.Deep.CutBlock
import Derived.Deep.CutRange
import Derived.Test.YtgocelaghggpmaaGreatDoorKo04
namespace Go.Proofs.YtgocelaghggpmaaGreatDoor
open Go.ChangeShapes Go.WideShapes Go.ChangeAt Go.RowKit
@[go_sem] theorem run_store_float (P:Program) (w:World) (a:Addr) (m:Mode) (k:FloatKind) (n:Nat):(store a (.float k n) m).run P w=stored P w a (.float k n) m:=run_store P w a _ m rfl
def Has2 (w:World) (b:Nat) (x y:Value):Prop:=w.cell? ⟨b,0,none⟩=some x∧w.cell? ⟨b,1,none⟩=some y∧w.frozen? ⟨b,0,none⟩=false∧w.frozen? ⟨b,1,none⟩=false∧b<w.heap.size
theorem Has2.keep {W0 w2:World} {b:Nat} {x y:Value} (h:Has2 W0 b x y) (hb:Below W0.heap.size W0 w2):Has2 w2 b x y:=by
 obtain⟨h0,h1,f0,f1,hl⟩:=h
 exact⟨keepsC hb h0 hl,keepsC hb h1 hl,keepsF hb f0 hl,keepsF hb f1 hl,Nat.lt_of_lt_of_le hl hb.size⟩
theorem both {k:Int} (h:-9218868437227405311≤k∧k≤9218868437227405311):(-9218868437227405312≤k∧k≤9218868437227405311)∧(-9218868437227405312≤-k∧-k≤9218868437227405311):=by omega
end Go.Proofs.YtgocelaghggpmaaGreatDoor
