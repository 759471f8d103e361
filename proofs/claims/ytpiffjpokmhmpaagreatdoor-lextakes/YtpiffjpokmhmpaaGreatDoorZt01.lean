/- Plain facts on the words of float64: their order is the order of their places (no Go text is spoken of here). Plain facts on float64's words: the sign bit, the bits of the exponent, the neighbours in the order of all floats. The walks of the small functions on floats: the words that they answer. The walk of Same, and plain facts on signs and neighbours of float64's words. The walks of math/bits' LeadingZeros64 and Mul64: how many bits a word has; the product of two words. The walks of the program's small functions on words: mark, moveDown, cut, goesOut, boundOf, sideOf, by plain functions on numbers. The walks of normal, roundAmount, Round and Split, by plain functions on numbers. The walk of Split: how the program takes a float apart. The walk of sum: the exact sum of two finite floats, with a mark for what is lost. The walk of product: the exact product of two amounts, with a mark for what is lost. -/
import Derived.WalkKit
import Derived.Laws.Cover2
import Derived.Laws.FloatArith
import Derived.Laws.BitsAllLaws
import Derived.Test.YtpiffjpokmhmpaaGreatDoorRows
import Derived.ProofKit
import Derived.OpenShut
import Derived.WalkSpells
import Derived.WalkLawsBesides
import Derived.Laws.Externs
import Derived.Lib.BitFns
import Derived.Laws.Bits64b
import Derived.Handy
import Derived.Deep.RegionWith
import Derived.Test.YtpiffjpokmhmpaaGreatDoorChecked
import Derived.Lib.Strings
import Derived.Lib.Slices
import Derived.Lib.Small
import Derived.Lib.Walk
import Derived.KernelRfl
import Derived.Deep.QuietTactic
import Derived.BigQuiet
import Derived.Deep.RegionHeld3
import Derived.Deep.CutRange
namespace Go.Proofs.YtpiffjpokmhmpaaGreatDoor
def key (x:Nat):Int:=if x<9223372036854775808 then (x:Int) else 9223372036854775808-(x:Int)
def val (r:Nat):Nat:=if r<4503599627370496 then r else (4503599627370496+r%4503599627370496)*2^(r/4503599627370496-1)
end Go.Proofs.YtpiffjpokmhmpaaGreatDoor
namespace Go.Proofs.YtpiffjpokmhmpaaGreatDoor
end Go.Proofs.YtpiffjpokmhmpaaGreatDoor
namespace Go.Proofs.YtpiffjpokmhmpaaGreatDoor
open Go.ChangeShapes Go.WideShapes Go.ChangeAt Go.RowKit
@[go_sem] theorem unary_neg_f64 (x:Nat) (w:World):(Op.unary .neg (.float .f64 x)).run Tryz.prog w=.ok (.float .f64 (Op.negFloat .f64 x)) w:=rfl
end Go.Proofs.YtpiffjpokmhmpaaGreatDoor
namespace Go.Proofs.YtpiffjpokmhmpaaGreatDoor
open Go.RowKit
end Go.Proofs.YtpiffjpokmhmpaaGreatDoor
namespace Go.Proofs.YtpiffjpokmhmpaaGreatDoor
open Go.ChangeShapes Go.WideShapes Go.ChangeAt Go.RowKit
theorem later {w W0 w1:World} (h0:Below w.heap.size w W0) (h:Below W0.heap.size W0 w1):Below w.heap.size w w1:=h0.trans (h.mono h0.size)
theorem keepsC {W0 w2:World} (hb:Below W0.heap.size W0 w2) {b o:Nat} {v:Value} (hc:W0.cell? ⟨b,o,none⟩=some v) (hlt:b<W0.heap.size):w2.cell? ⟨b,o,none⟩=some v:=(hb.cell hlt).trans hc
theorem keepsF {W0 w2:World} (hb:Below W0.heap.size W0 w2) {b o:Nat} {v:Bool} (hc:W0.frozen? ⟨b,o,none⟩=v) (hlt:b<W0.heap.size):w2.frozen? ⟨b,o,none⟩=v:=(hb.frozen hlt).trans hc
def Has3 (w:World) (b:Nat) (x y z:Value):Prop:=w.cell? ⟨b,0,none⟩=some x∧w.cell? ⟨b,1,none⟩=some y∧w.cell? ⟨b,2,none⟩=some z∧w.frozen? ⟨b,0,none⟩=false∧w.frozen? ⟨b,1,none⟩=false∧w.frozen? ⟨b,2,none⟩=false∧b<w.heap.size
end Go.Proofs.YtpiffjpokmhmpaaGreatDoor
