/- The reference's whole numbers of any length: how one lies in memory; the walks of trim and Of. The walks of the reference's Cmp and Bits. The reference's Plus and Less: a digit appended; the walks. The walk of the reference's Less. The walk of the reference's Left. The walk of the reference's By. The reference's numbers M 2^E: the walks of Sign and level. The walk of the reference's Order. The reference's Order: what it answers. -/
import Derived.Test.YtpiffjpokmhmpaaDoorZb01
import Derived.Deep.LoopGhost
import Derived.Handy
import Derived.BigQuiet
namespace Go.Proofs.YtpiffjpokmhmpaaDoor
open Go.ChangeShapes Go.WideShapes Go.ChangeAt Go.RowKit
def bitsN (n:Nat):Nat:=if n=0 then 0 else n.log2+1
theorem bitsN_low {n:Nat} (h:n≠0):∃b,bitsN n=b+1∧2^b≤n∧n<2^(b+1):=⟨n.log2,by unfold bitsN;rw [if_neg h],Nat.log2_self_le h,Nat.lt_log2_self⟩
def sgnd (g:Bool) (A:Nat):Int:=if g then -(A:Int) else (A:Int)
theorem bitsN_le {m K:Nat} (h:m<2^K):bitsN m≤K:=by
 rcases Nat.eq_zero_or_pos m with c | c
 · subst c;simp [bitsN]
 · obtain⟨b,hb,b1,b2⟩:=bitsN_low (show m≠0 by omega)
   have:=(Nat.pow_lt_pow_iff_right (show 1<2 by omega)).1 (Nat.lt_of_le_of_lt b1 h)
   omega
end Go.Proofs.YtpiffjpokmhmpaaDoor
