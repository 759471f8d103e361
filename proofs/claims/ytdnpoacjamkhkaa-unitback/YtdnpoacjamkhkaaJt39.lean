/- UnitTimes: the walk, with numbers that are well formed. -/
import Derived.Test.YtdnpoacjamkhkaaJt36
import Derived.Test.YtdnpoacjamkhkaaJt38
namespace Go.Proofs.Ytdnpoacjamkhkaa
theorem unitTimes_w (A B:Nat→Int×Int) (pN pD:Int) (wA:DimWf A) (wB:DimWf B) (w2:(Lit.int .i64 pN).wf=true) (w3:(Lit.int .i64 pD).wf=true) (w:World) :
   Calls Try.prog 8 #[dimV A,dimV B,.agg #[.int .i64 pN,.int .i64 pD]] w fun r w'=>r=.returned (.bool true)∧Go.RowKit.Below w.heap.size w w' :=
 unitTimes_d A B pN pD wA.out wB.out ⟨i64_wfI w2,i64_wfI w3⟩ w
end Go.Proofs.Ytdnpoacjamkhkaa
