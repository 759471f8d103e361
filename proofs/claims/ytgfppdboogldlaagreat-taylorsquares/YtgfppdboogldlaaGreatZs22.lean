/- Functions of intervals as functions of pairs of words, and the small functions of elem. Slices of intervals, and slices of those, as they lie in memory; what vectorMayBe, Vector and isDimension answer. Matrices of intervals: may they be? Sums of products of intervals: the program's and the reference's. -/
import Derived.Test.YtgfppdboogldlaaGreatZs21
import Derived.Test.YtgfppdboogldlaaGreatZs17
import Derived.Test.YtgfppdboogldlaaGreatZs20
import Derived.Test.YtgfppdboogldlaaGreatZs18
import Derived.Test.YtgfppdboogldlaaGreatZs12
import Derived.Deep.LoopGhost
namespace Go.Proofs.YtgfppdboogldlaaGreat
open Go.ChangeShapes Go.WideShapes Go.ChangeAt Go.RowKit
def W2 (p:Nat×Nat):Prop:=p.1<18446744073709551616∧p.2<18446744073709551616
def mulQ (p q:Nat×Nat):Nat×Nat:=mulP p.1 p.2 q.1 q.2
def addQ (p q:Nat×Nat):Nat×Nat:=addP p.1 p.2 q.1 q.2
def divQ (p q:Nat×Nat):Nat×Nat:=divP p.1 p.2 q.1 q.2
def mkQ (a b:Nat):Nat×Nat:=makeP a b
def ptQ (a:Nat):Nat×Nat:=mkQ a a
def wholeQ (k:Int):Nat×Nat:=ptQ (floatOfInt .f64 k)
theorem ptQ_W2 {a:Nat} (ha:a<18446744073709551616):W2 (ptQ a):=makeP_lt ha ha
theorem wholeQ_W2 (k:Int):W2 (wholeQ k):=ptQ_W2 (foi_lt k)
theorem mulQ_W2 {p q:Nat×Nat} (hp:W2 p) (hq:W2 q):W2 (mulQ p q):=mulP_lt hp.1 hp.2 hq.1 hq.2
theorem addQ_W2 {p q:Nat×Nat} (hp:W2 p) (hq:W2 q):W2 (addQ p q):=addP_lt hp.1 hp.2 hq.1 hq.2
theorem divQ_W2 {p q:Nat×Nat} (hp:W2 p) (hq:W2 q):W2 (divQ p q):=divP_lt hp.1 hp.2 hq.1 hq.2
theorem cMul {p q:Nat×Nat} (hp:W2 p) (hq:W2 q) (w:World):Calls Tryz.prog 149 #[.agg #[.float .f64 p.1,.float .f64 p.2],.agg #[.float .f64 q.1,.float .f64 q.2]] w fun e w'=>e=.returned (.agg #[.float .f64 (mulQ p q).1,.float .f64 (mulQ p q).2])∧Below w.heap.size w w':=Mul_w p.1 p.2 q.1 q.2 hp.1 hp.2 hq.1 hq.2 w
theorem cAdd {p q:Nat×Nat} (hp:W2 p) (hq:W2 q) (w:World):Calls Tryz.prog 141 #[.agg #[.float .f64 p.1,.float .f64 p.2],.agg #[.float .f64 q.1,.float .f64 q.2]] w fun e w'=>e=.returned (.agg #[.float .f64 (addQ p q).1,.float .f64 (addQ p q).2])∧Below w.heap.size w w':=Add_w p.1 p.2 q.1 q.2 hp.1 hp.2 hq.1 hq.2 w
theorem cDiv {p q:Nat×Nat} (hp:W2 p) (hq:W2 q) (w:World):Calls Tryz.prog 142 #[.agg #[.float .f64 p.1,.float .f64 p.2],.agg #[.float .f64 q.1,.float .f64 q.2]] w fun e w'=>e=.returned (.agg #[.float .f64 (divQ p q).1,.float .f64 (divQ p q).2])∧Below w.heap.size w w':=Div_w p.1 p.2 q.1 q.2 hp.1 hp.2 hq.1 hq.2 w
theorem cPoint {a:Nat} (ha:a<18446744073709551616) (w:World):Calls Tryz.prog 98 #[.float .f64 a] w fun e w'=>e=.returned (.agg #[.float .f64 (ptQ a).1,.float .f64 (ptQ a).2])∧Below w.heap.size w w':=point_w a ha w
def Ivs (w:World) (A:Option Addr) (n:Nat) (X:Nat→Nat×Nat):Prop :=
 ∀i,i<n→∃b o,A=some ⟨b,o,none⟩∧b<w.heap.size∧w.cell? ⟨b,o+i*2,none⟩=some (.float .f64 (X i).1)∧w.cell? ⟨b,o+i*2+1,none⟩=some (.float .f64 (X i).2)∧(X i).1<18446744073709551616∧(X i).2<18446744073709551616
theorem Ivs.keep {w w2:World} {A:Option Addr} {n:Nat} {X:Nat→Nat×Nat} (h:Ivs w A n X) (hb:Below w.heap.size w w2):Ivs w2 A n X:=fun i hi=>by
 obtain⟨b,o,e,l,c0,c1,r⟩:=h i hi
 exact⟨b,o,e,Nat.lt_of_lt_of_le l hb.size,keepsC hb c0 l,keepsC hb c1 l,r⟩
def Rws (w:World) (A:Option Addr) (N:Nat) (RA:Nat→Option Addr) (RL RC:Nat→Nat) (X:Nat→Nat→Nat×Nat):Prop :=
 ∀r,r<N→∃b o,A=some ⟨b,o,none⟩∧b<w.heap.size∧w.cell? ⟨b,o+r,none⟩=some (.slice (RA r) (RL r) (RC r))∧RL r≤9223372036854775807∧Ivs w (RA r) (RL r) (X r)
theorem Rws.keep {w w2:World} {A:Option Addr} {N:Nat} {RA:Nat→Option Addr} {RL RC:Nat→Nat} {X:Nat→Nat→Nat×Nat} (h:Rws w A N RA RL RC X) (hb:Below w.heap.size w w2):Rws w2 A N RA RL RC X:=fun r hr=>by
 obtain⟨b,o,e,l,c0,c1,i⟩:=h r hr
 exact⟨b,o,e,Nat.lt_of_lt_of_le l hb.size,keepsC hb c0 l,c1,i.keep hb⟩
theorem ivs_words {w:World} {A:Option Addr} {n:Nat} {X:Nat→Nat×Nat} (V:Ivs w A n X):∀i,i<n→(X i).1<18446744073709551616∧(X i).2<18446744073709551616:=fun i hi=>by
 obtain⟨b,o,e,l,c0,c1,r⟩:=V i hi
 exact r
end Go.Proofs.YtgfppdboogldlaaGreat
