/- Plain facts on the words of float64: their order is the order of their places (no Go text is spoken of here). Plain facts on float64's words: the sign bit, the bits of the exponent, the neighbours in the order of all floats. The walks of the small functions on floats: the words that they answer. The walk of Same, and plain facts on signs and neighbours of float64's words. The walks of math/bits' LeadingZeros64 and Mul64: how many bits a word has; the product of two words. The walks of the program's small functions on words: mark, moveDown, cut, goesOut, boundOf, sideOf, by plain functions on numbers. The walks of normal, roundAmount, Round and Split, by plain functions on numbers. -/
import Derived.WalkKit
import Derived.Laws.Cover2
import Derived.Laws.FloatArith
import Derived.Laws.BitsAllLaws
import Derived.Test.YtbejmklkicoibaaRows
import Derived.ProofKit
import Derived.OpenShut
import Derived.WalkSpells
import Derived.WalkLawsBesides
import Derived.Laws.Externs
import Derived.Lib.BitFns
import Derived.Laws.Bits64b
import Derived.Handy
import Derived.Deep.RegionWith
import Derived.Test.YtbejmklkicoibaaChecked
import Derived.Lib.Strings
import Derived.Lib.Slices
import Derived.Lib.Small
import Derived.Lib.Walk
import Derived.KernelRfl
namespace Go.Proofs.Ytbejmklkicoibaa
def nanB (x:Nat):Bool:=decide (9218868437227405312<x%9223372036854775808)
def key (x:Nat):Int:=if x<9223372036854775808 then (x:Int) else 9223372036854775808-(x:Int)
def val (r:Nat):Nat:=if r<4503599627370496 then r else (4503599627370496+r%4503599627370496)*2^(r/4503599627370496-1)
def sgn (s:Bool) (n:Nat):Int:=if s then -(n:Int) else n
end Go.Proofs.Ytbejmklkicoibaa
namespace Go.Proofs.Ytbejmklkicoibaa
end Go.Proofs.Ytbejmklkicoibaa
namespace Go.Proofs.Ytbejmklkicoibaa
open Go.ChangeShapes Go.WideShapes Go.ChangeAt Go.RowKit
@[go_sem] theorem fbits (x:Nat) (w:World):(callFunc 51 #[.float .f64 x]).run Try.prog w=.ok (.value (.int .u64 x)) w:=by
 rw [run_callFunc_extern (P:=Try.prog) (f:=51) (fn:=Try.f51) (e:=Extern.MathFloatBits.float64bits) Try.func51 (by kernel_rfl) (by kernel_rfl) (by kernel_rfl) (by kernel_rfl)]
 rfl
@[go_sem] theorem ffrom (n:Int) (w:World):(callFunc 49 #[.int .u64 n]).run Try.prog w=.ok (.value (.float .f64 n.toNat)) w:=by
 rw [run_callFunc_extern (P:=Try.prog) (f:=49) (fn:=Try.f49) (e:=Extern.MathFloatBits.float64frombits) Try.func49 (by kernel_rfl) (by kernel_rfl) (by kernel_rfl) (by kernel_rfl)]
 rfl
@[go_sem] theorem unary_neg_f64 (x:Nat) (w:World):(Op.unary .neg (.float .f64 x)).run Try.prog w=.ok (.float .f64 (Op.negFloat .f64 x)) w:=rfl
end Go.Proofs.Ytbejmklkicoibaa
namespace Go.Proofs.Ytbejmklkicoibaa
open Go.RowKit
end Go.Proofs.Ytbejmklkicoibaa
namespace Go.Proofs.Ytbejmklkicoibaa
open Go.ChangeShapes Go.WideShapes Go.ChangeAt Go.RowKit
theorem later {w W0 w1:World} (h0:Below w.heap.size w W0) (h:Below W0.heap.size W0 w1):Below w.heap.size w w1:=h0.trans (h.mono h0.size)
end Go.Proofs.Ytbejmklkicoibaa
