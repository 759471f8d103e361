/- The walks of counted, Hull and Meet. The walks of Meet, of the laws' hull, and of Add and Mul with an interval that holds nothing. Plain facts: hulls hold both, meets lie in both and hold just what both hold. What is taken off itself holds nought, what is divided by itself one; negatives twice; the least amount is not above the greatest. A region that draws its order, whose callees make memory of their own but change none: one walk, in the text's order, over all worlds that are as the first one was below its end. The walk of the statement IvalLattice: its two variables. IvalLattice: for every two intervals and every float64 the statement's answer is true. -/
import Derived.Test.YtgocelaghggpmaaDoorKt03
import Derived.BigQuiet
import Derived.Test.YtgocelaghggpmaaDoorKt07
import Derived.Deep.RegionWith
import Derived.Test.YtgocelaghggpmaaDoorKt05
import Derived.Test.YtgocelaghggpmaaDoorKt06
import Derived.Test.YtgocelaghggpmaaDoorKt02
import Derived.Test.YtgocelaghggpmaaDoorKt04
import Derived.WalkKit
import Derived.Deep.CutBlock
import Derived.Deep.CutRange
import Derived.Deep.LoopGhost
namespace Go.Proofs.YtgocelaghggpmaaDoor
open Go.ChangeShapes Go.WideShapes Go.ChangeAt Go.RowKit
theorem Has2.put {w:World} {b:Nat} {x y:Value} (h:Has2 w b x y) (x' y':Value):Has2 ((w.setCell ⟨b,0,none⟩ x').setCell ⟨b,1,none⟩ y') b x' y':=by
 obtain⟨h0,h1,f0,f1,hl⟩:=h
 refine⟨by go_simp,by go_simp,by go_simp,by go_simp, ?_⟩
 simp only [World.size_setCell];exact hl
theorem Has2.far {w:World} {b c:Nat} {x y:Value} (h:Has2 w b x y) (hne:c≠b) (x' y':Value):Has2 ((w.setCell ⟨c,0,none⟩ x').setCell ⟨c,1,none⟩ y') b x y:=by
 obtain⟨h0,h1,f0,f1,hl⟩:=h
 have hne':b≠c:=fun e=>hne e.symm
 refine⟨by simp [World.cell?_setCell_far, *],by simp [World.cell?_setCell_far, *],by go_simp,by go_simp, ?_⟩
 simp only [World.size_setCell];exact hl
structure Behind (w0:World) where
 W:World
 bel:Below w0.heap.size w0 W
instance (w0:World):Nonempty (Behind w0):=⟨⟨w0,Below.refl _ _⟩⟩
theorem region_behind {P:Program} {id:Nat} {Q:Exit→Act→World→Prop} {a:Act} {w:World} {l:List Oper} (hm:P.follows .mixedOrders=true) (hB:Region.lexB .any l.toArray=true)
   (h:wpQuiet P l.toArray (fun w'=>∃n:Behind w,w'=n.W) (fun a'=>∀w',(∃n:Behind w,w'=n.W)→Q .normal a' w') l a):(Code.region id l.toArray true).wp P Q a w :=
 wp_region_quiet (C:=fun w'=>∃n:Behind w,w'=n.W) hm hB ⟨⟨w.drew,(Below.refl _ _).drew⟩,rfl⟩ (by simpa using h)
theorem Behind.call {P:Program} {f:FuncId} {args:Array Value} {w0:World} {n:Behind w0} {v:Value} (h:Calls P f args n.W fun e w'=>e=.returned v∧Below n.W.heap.size n.W w') :
   Calls P f args n.W fun e w''=>e=.returned v∧∃m:Behind w0,w''=m.W :=
 h.mono fun _ w' ⟨a,b⟩=>⟨a,⟨⟨w',later n.bel b⟩,rfl⟩⟩
theorem Behind.same {P:Program} {f:FuncId} {args:Array Value} {w0:World} {n:Behind w0} {v:Value} (h:Calls P f args n.W fun e w'=>e=.returned v∧n.W=w') :
   Calls P f args n.W fun e w''=>e=.returned v∧∃m:Behind w0,w''=m.W :=
 h.mono fun _ _ ⟨a,b⟩=>⟨a,⟨n,b.symm⟩⟩
theorem Behind.cell {w0:World} (n:Behind w0) {b o:Nat} {v:Value} (h:w0.cell? ⟨b,o,none⟩=some v) (hl:b<w0.heap.size):n.W.cell? ⟨b,o,none⟩=some v:=keepsC n.bel h hl
theorem Has2.c0 {w:World} {b:Nat} {x y:Value} (h:Has2 w b x y):w.cell? ⟨b,0,none⟩=some x:=h.1
theorem Has2.c1 {w:World} {b:Nat} {x y:Value} (h:Has2 w b x y):w.cell? ⟨b,1,none⟩=some y:=h.2.1
theorem below_alloc {w W:World} (h:Below w.heap.size w W) (o:Obj):Below w.heap.size w (W.alloc o):=h.alloc h.size o
theorem has2_new (w:World) (x y:Value) (T:TypeId):Has2 (w.alloc (.cells #[x,y] T)) w.heap.size x y:=⟨by go_simp,by go_simp,by go_simp,by go_simp,by go_size⟩
end Go.Proofs.YtgocelaghggpmaaDoor
