/- A region that draws its order and makes memory of its own beside quiet operations (x := f(y); x, y := f(z), g(z)): walked once. -/
import Derived.Test.YtgocelaghggpmaaDoorKt09
namespace Go.Proofs.YtgocelaghggpmaaDoor
open Go.ChangeShapes Go.WideShapes Go.ChangeAt Go.RowKit
section
variable {P:Program} {ops hd:Array Oper}
end
theorem Has2.lt {w:World} {b:Nat} {x y:Value} (h:Has2 w b x y):b<w.heap.size:=h.2.2.2.2
theorem Has2.far2 {w:World} {b c:Nat} {x y:Value} (h:Has2 w b x y) (hne:c≠b) (u v:Value):Has2 ((w.setCell ⟨c,0,none⟩ u).setCell ⟨c,1,none⟩ v) b x y:=h.far hne u v
theorem Has3.lt {w:World} {b:Nat} {x y z:Value} (h:Has3 w b x y z):b<w.heap.size:=h.2.2.2.2.2.2
theorem Has3.far2 {w:World} {b c:Nat} {x y z:Value} (h:Has3 w b x y z) (hne:c≠b) (u v:Value):Has3 ((w.setCell ⟨c,0,none⟩ u).setCell ⟨c,1,none⟩ v) b x y z:=by
 obtain⟨h0,h1,h2,f0,f1,f2,hl⟩:=h
 have hne':b≠c:=fun e=>hne e.symm
 refine⟨by simp [World.cell?_setCell_far, *],by simp [World.cell?_setCell_far, *],by simp [World.cell?_setCell_far, *],by go_simp,by go_simp,by go_simp, ?_⟩
 simp only [World.size_setCell];exact hl
end Go.Proofs.YtgocelaghggpmaaDoor
