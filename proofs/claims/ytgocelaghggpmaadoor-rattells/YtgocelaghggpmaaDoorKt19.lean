/- The reference's numbers of stage 11: a number's low part, a quotient in its form. -/
import Derived.Test.YtgocelaghggpmaaDoorKt17
import Derived.Test.YtgocelaghggpmaaDoorKt18
namespace Go.Proofs.YtgocelaghggpmaaDoor
open Go.ChangeShapes Go.WideShapes Go.ChangeAt Go.RowKit
def Rt2 (w:World) (b:Nat) (x y:Value):Prop:=w.cell? ⟨b,0,none⟩=some x∧w.cell? ⟨b,1,none⟩=some y∧w.frozen? ⟨b,0,none⟩=false∧w.frozen? ⟨b,1,none⟩=false∧b<w.heap.size
theorem Rt2.keep {w W:World} {b:Nat} {x y:Value} (h:Rt2 w b x y) (k:Below w.heap.size w W):Rt2 W b x y:=⟨keepsC k h.1 h.2.2.2.2,keepsC k h.2.1 h.2.2.2.2,keepsF k h.2.2.1 h.2.2.2.2,keepsF k h.2.2.2.1 h.2.2.2.2,Nat.lt_of_lt_of_le h.2.2.2.2 k.size⟩
theorem rat_new (w:World) (a b:Value) (T:TypeId):Rt2 (w.alloc (.cells #[a,b] T)) w.heap.size a b:=⟨by go_simp,by go_simp,by go_simp,by go_simp,by go_size⟩
end Go.Proofs.YtgocelaghggpmaaDoor
