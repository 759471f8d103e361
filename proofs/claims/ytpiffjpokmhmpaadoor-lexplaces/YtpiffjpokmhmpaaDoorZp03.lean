/- The reference's whole numbers of any length: how one lies in memory; the walks of trim and Of. The walks of the reference's Cmp and Bits. The reference's Plus and Less: a digit appended; the walks. The walk of the reference's Less. The walk of the reference's Left. The walk of the reference's By. -/
import Derived.Test.YtpiffjpokmhmpaaDoorZp02
import Derived.Deep.LoopGhost
import Derived.Handy
import Derived.BigQuiet
namespace Go.Proofs.YtpiffjpokmhmpaaDoor
open Go.ChangeShapes Go.WideShapes Go.ChangeAt Go.RowKit
def bitsN (n:Nat):Nat:=if n=0 then 0 else n.log2+1
theorem bitsN_low {n:Nat} (h:n≠0):∃b,bitsN n=b+1∧2^b≤n∧n<2^(b+1):=⟨n.log2,by unfold bitsN;rw [if_neg h],Nat.log2_self_le h,Nat.lt_log2_self⟩
end Go.Proofs.YtpiffjpokmhmpaaDoor
