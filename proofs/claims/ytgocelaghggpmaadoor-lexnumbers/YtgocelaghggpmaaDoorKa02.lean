/- The walk of Split: how the program takes a float apart. The walk of sum: the exact sum of two finite floats, with a mark for what is lost. The walk of product: the exact product of two amounts, with a mark for what is lost. The reference's whole numbers of any length: how one lies in memory; the walks of trim and Of. The walks of the reference's Cmp and Bits. The reference's Plus and Less: a digit appended; the walks. The walk of the reference's Less. The walk of the reference's Left. The walk of the reference's By. -/
import Derived.Test.YtgocelaghggpmaaDoorKa01
import Derived.Deep.QuietTactic
import Derived.BigQuiet
import Derived.Deep.RegionHeld3
import Derived.Deep.CutRange
import Derived.Deep.LoopGhost
import Derived.Handy
namespace Go.Proofs.YtgocelaghggpmaaDoor
open Go.ChangeShapes Go.WideShapes Go.ChangeAt Go.RowKit
theorem keepsC {W0 w2:World} (hb:Below W0.heap.size W0 w2) {b o:Nat} {v:Value} (hc:W0.cell? ⟨b,o,none⟩=some v) (hlt:b<W0.heap.size):w2.cell? ⟨b,o,none⟩=some v:=(hb.cell hlt).trans hc
theorem keepsF {W0 w2:World} (hb:Below W0.heap.size W0 w2) {b o:Nat} {v:Bool} (hc:W0.frozen? ⟨b,o,none⟩=v) (hlt:b<W0.heap.size):w2.frozen? ⟨b,o,none⟩=v:=(hb.frozen hlt).trans hc
def Has3 (w:World) (b:Nat) (x y z:Value):Prop:=w.cell? ⟨b,0,none⟩=some x∧w.cell? ⟨b,1,none⟩=some y∧w.cell? ⟨b,2,none⟩=some z∧w.frozen? ⟨b,0,none⟩=false∧w.frozen? ⟨b,1,none⟩=false∧w.frozen? ⟨b,2,none⟩=false∧b<w.heap.size
def bitsN (n:Nat):Nat:=if n=0 then 0 else n.log2+1
theorem bitsN_low {n:Nat} (h:n≠0):∃b,bitsN n=b+1∧2^b≤n∧n<2^(b+1):=⟨n.log2,by unfold bitsN;rw [if_neg h],Nat.log2_self_le h,Nat.lt_log2_self⟩
end Go.Proofs.YtgocelaghggpmaaDoor
