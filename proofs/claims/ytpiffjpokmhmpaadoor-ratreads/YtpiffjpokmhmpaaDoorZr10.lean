/- The walks of counted, Hull and Meet. The walks of Meet, of the laws' hull, and of Add and Mul with an interval that holds nothing. Plain facts: hulls hold both, meets lie in both and hold just what both hold. What is taken off itself holds nought, what is divided by itself one; negatives twice; the least amount is not above the greatest. A region that draws its order, whose callees make memory of their own but change none: one walk, in the text's order, over all worlds that are as the first one was below its end. The walk of the statement IvalLattice: its two variables. IvalLattice: for every two intervals and every float64 the statement's answer is true. -/
import Derived.Test.YtpiffjpokmhmpaaDoorZr09
import Derived.Test.YtpiffjpokmhmpaaDoorZr02
import Derived.BigQuiet
import Derived.Deep.RegionWith
import Derived.Test.YtpiffjpokmhmpaaDoorZr08
import Derived.Test.YtpiffjpokmhmpaaDoorZr01
import Derived.Test.YtpiffjpokmhmpaaDoorZr07
import Derived.WalkKit
import Derived.Deep.CutBlock
import Derived.Deep.CutRange
import Derived.Deep.LoopGhost
namespace Go.Proofs.YtpiffjpokmhmpaaDoor
open Go.ChangeShapes Go.WideShapes Go.ChangeAt Go.RowKit
theorem Has2.put {w:World} {b:Nat} {x y:Value} (h:Has2 w b x y) (x' y':Value):Has2 ((w.setCell ⟨b,0,none⟩ x').setCell ⟨b,1,none⟩ y') b x' y':=by
 obtain⟨h0,h1,f0,f1,hl⟩:=h
 refine⟨by go_simp,by go_simp,by go_simp,by go_simp, ?_⟩
 simp only [World.size_setCell];exact hl
theorem Has2.far {w:World} {b c:Nat} {x y:Value} (h:Has2 w b x y) (hne:c≠b) (x' y':Value):Has2 ((w.setCell ⟨c,0,none⟩ x').setCell ⟨c,1,none⟩ y') b x y:=by
 obtain⟨h0,h1,f0,f1,hl⟩:=h
 have hne':b≠c:=fun e=>hne e.symm
 refine⟨by simp [World.cell?_setCell_far, *],by simp [World.cell?_setCell_far, *],by go_simp,by go_simp, ?_⟩
 simp only [World.size_setCell];exact hl
structure Behind (w0:World) where
 W:World
 bel:Below w0.heap.size w0 W
instance (w0:World):Nonempty (Behind w0):=⟨⟨w0,Below.refl _ _⟩⟩
end Go.Proofs.YtpiffjpokmhmpaaDoor
