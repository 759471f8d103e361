/- Plain facts on the program's rounding, whatever is rounded: its three sides stand in order, no more than neighbours apart. Plain facts: what the program rounds an amount to is what the document asks for, of any exact amount that the parts stand for. Plain facts: numbers with signs, rounded down: the place of the greatest float that is not above; the greater the number, the greater the place. -/
import Derived.Test.YtdnpoacjamkhkaaJt01
namespace Go.Proofs.Ytdnpoacjamkhkaa
end Go.Proofs.Ytdnpoacjamkhkaa
namespace Go.Proofs.Ytdnpoacjamkhkaa
end Go.Proofs.Ytdnpoacjamkhkaa
namespace Go.Proofs.Ytdnpoacjamkhkaa
def V (k:Int):Int:=if k<0 then -(val (-k).toNat:Int) else (val k.toNat:Int)
end Go.Proofs.Ytdnpoacjamkhkaa
