/- Plain facts on the program's rounding, whatever is rounded: its three sides stand in order, no more than neighbours apart. Plain facts: what the program rounds an amount to is what the document asks for, of any exact amount that the parts stand for. Plain facts: numbers with signs, rounded down: the place of the greatest float that is not above; the greater the number, the greater the place. -/
import Derived.Test.YtpiffjpokmhmpaaDoorZb01
namespace Go.Proofs.YtpiffjpokmhmpaaDoor
end Go.Proofs.YtpiffjpokmhmpaaDoor
namespace Go.Proofs.YtpiffjpokmhmpaaDoor
end Go.Proofs.YtpiffjpokmhmpaaDoor
namespace Go.Proofs.YtpiffjpokmhmpaaDoor
def V (k:Int):Int:=if k<0 then -(val (-k).toNat:Int) else (val k.toNat:Int)
end Go.Proofs.YtpiffjpokmhmpaaDoor
