/- The statement RatOrder: the order of quotients is a total one, and goes with sums. -/
import Derived.Test.YtdnpoacjamkhkaaJb36
namespace Go.Proofs.Ytdnpoacjamkhkaa
open Go.ChangeShapes Go.WideShapes Go.ChangeAt Go.RowKit
theorem triple {v:Int×Int×Int} {a b c:Int} (h1:v.1=a) (h2:v.2.1=b) (h3:v.2.2=c):v=(a,b,c):=by
 obtain⟨x,y,z⟩:=v
 simp only at h1 h2 h3
 rw [h1,h2,h3]
end Go.Proofs.Ytdnpoacjamkhkaa
