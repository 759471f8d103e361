/- The walk of Split: how the program takes a float apart. The walk of sum: the exact sum of two finite floats, with a mark for what is lost. The walk of product: the exact product of two amounts, with a mark for what is lost. -/
import Derived.Test.YtgocelaghggpmaaDoorKt02
import Derived.Deep.QuietTactic
import Derived.BigQuiet
import Derived.Deep.RegionHeld3
import Derived.Deep.CutRange
namespace Go.Proofs.YtgocelaghggpmaaDoor
open Go.ChangeShapes Go.WideShapes Go.ChangeAt Go.RowKit
def splitG (x:Nat):Bool:=decide (9223372036854775808<x)
def splitM (x:Nat):Nat:=if x%9223372036854775808<4503599627370496 then x%9223372036854775808 else 4503599627370496+x%4503599627370496
def splitE (x:Nat):Int:=if x%9223372036854775808=0 then 0 else -1074+((x%9223372036854775808/4503599627370496-1:Nat):Int)
theorem splitM_lt (x:Nat):splitM x<9007199254740992:=by unfold splitM;split <;> omega
theorem splitE_bounds {x:Nat} (hf:finB x=true):-1074≤splitE x∧splitE x≤971:=by
 have hr:x%9223372036854775808<9218868437227405312:=by simpa [finB] using hf
 unfold splitE;split <;> omega
theorem keepsC {W0 w2:World} (hb:Below W0.heap.size W0 w2) {b o:Nat} {v:Value} (hc:W0.cell? ⟨b,o,none⟩=some v) (hlt:b<W0.heap.size):w2.cell? ⟨b,o,none⟩=some v:=(hb.cell hlt).trans hc
theorem keepsF {W0 w2:World} (hb:Below W0.heap.size W0 w2) {b o:Nat} {v:Bool} (hc:W0.frozen? ⟨b,o,none⟩=v) (hlt:b<W0.heap.size):w2.frozen? ⟨b,o,none⟩=v:=(hb.frozen hlt).trans hc
def Has3 (w:World) (b:Nat) (x y z:Value):Prop:=w.cell? ⟨b,0,none⟩=some x∧w.cell? ⟨b,1,none⟩=some y∧w.cell? ⟨b,2,none⟩=some z∧w.frozen? ⟨b,0,none⟩=false∧w.frozen? ⟨b,1,none⟩=false∧w.frozen? ⟨b,2,none⟩=false∧b<w.heap.size
theorem Has3.keep {W0 w2:World} {b:Nat} {x y z:Value} (h:Has3 W0 b x y z) (hb:Below W0.heap.size W0 w2):Has3 w2 b x y z:=by
 obtain⟨h0,h1,h2,f0,f1,f2,hl⟩:=h
 exact⟨keepsC hb h0 hl,keepsC hb h1 hl,keepsC hb h2 hl,keepsF hb f0 hl,keepsF hb f1 hl,keepsF hb f2 hl,Nat.lt_of_lt_of_le hl hb.size⟩
theorem Has3.far {w:World} {b c:Nat} {x y z:Value} (h:Has3 w b x y z) (hne:c≠b) (x' y' z':Value):Has3 (((w.setCell ⟨c,0,none⟩ x').setCell ⟨c,1,none⟩ y').setCell ⟨c,2,none⟩ z') b x y z:=by
 obtain⟨h0,h1,h2,f0,f1,f2,hl⟩:=h
 have hne':b≠c:=fun e=>hne e.symm
 refine⟨by simp [World.cell?_setCell_far, *],by simp [World.cell?_setCell_far, *],by simp [World.cell?_setCell_far, *],by go_simp,by go_simp,by go_simp, ?_⟩
 simp only [World.size_setCell];exact hl
end Go.Proofs.YtgocelaghggpmaaDoor
