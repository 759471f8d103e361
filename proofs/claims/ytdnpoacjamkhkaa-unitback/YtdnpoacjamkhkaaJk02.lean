/- Quotients of whole numbers in their form: what is told is the quotient, and the only one; sums and products are undone; the order. -/
import Derived.Lib.Strings
import Derived.Lib.Slices
import Derived.Lib.Small
import Derived.Lib.Walk
import Derived.Lib.BitFns
import Derived.KernelRfl
import Derived.WalkKit
import Derived.Laws.Cover2
import Derived.Laws.FloatArith
import Derived.Laws.BitsAllLaws
import Derived.ProofKit
import Derived.OpenShut
import Derived.WalkSpells
import Derived.WalkLawsBesides
import Derived.Laws.Externs
import Derived.Laws.Bits64b
import Derived.Handy
import Derived.Deep.RegionWith
import Derived.Deep.QuietTactic
import Derived.BigQuiet
import Derived.Deep.RegionHeld3
import Derived.Deep.CutRange
import Derived.Deep.CutBlock
import Derived.Deep.LoopGhost
import Derived.WalkSmall
import Derived.Deep.Quiet
import Derived.StillTail
import Derived.Defers
import Derived.Recover
import Derived.Laws.Pointers
import Derived.Laws.StructEq
import Derived.ChangeSame
import Derived.JoinedOf
import Derived.JoinedAt
import Derived.RowKit3
import Derived.Test.YtdnpoacjamkhkaaJt01
import Derived.Test.YtdnpoacjamkhkaaJt02
import Derived.Test.YtdnpoacjamkhkaaJt03
import Derived.Test.YtdnpoacjamkhkaaJt04
import Derived.Test.YtdnpoacjamkhkaaJt05
import Derived.Test.YtdnpoacjamkhkaaJt06
import Derived.Test.YtdnpoacjamkhkaaJt07
import Derived.Test.YtdnpoacjamkhkaaJt08
import Derived.Test.YtdnpoacjamkhkaaJt09
import Derived.Test.YtdnpoacjamkhkaaJt10
import Derived.Test.YtdnpoacjamkhkaaJt11
import Derived.Test.YtdnpoacjamkhkaaJt12
import Derived.Test.YtdnpoacjamkhkaaJt13
import Derived.Test.YtdnpoacjamkhkaaJt14
import Derived.Test.YtdnpoacjamkhkaaJt15
import Derived.Test.YtdnpoacjamkhkaaJt16
import Derived.Test.YtdnpoacjamkhkaaJt17
import Derived.Test.YtdnpoacjamkhkaaJt18
import Derived.Test.YtdnpoacjamkhkaaJt19
import Derived.Test.YtdnpoacjamkhkaaJt20
import Derived.Test.YtdnpoacjamkhkaaJt21
import Derived.Test.YtdnpoacjamkhkaaJt22
import Derived.Test.YtdnpoacjamkhkaaJt23
import Derived.Test.YtdnpoacjamkhkaaJt24
import Derived.Test.YtdnpoacjamkhkaaJt25
import Derived.Test.YtdnpoacjamkhkaaJt26
import Derived.Test.YtdnpoacjamkhkaaJt27
import Derived.Test.YtdnpoacjamkhkaaJt28
import Derived.Test.YtdnpoacjamkhkaaJt29
import Derived.Test.YtdnpoacjamkhkaaJt30
import Derived.Test.YtdnpoacjamkhkaaJt31
import Derived.Test.YtdnpoacjamkhkaaJt32
import Derived.Test.YtdnpoacjamkhkaaJt33
import Derived.Test.YtdnpoacjamkhkaaJt34
import Derived.Test.YtdnpoacjamkhkaaJt35
import Derived.Test.YtdnpoacjamkhkaaJt36
import Derived.Test.YtdnpoacjamkhkaaJt37
import Derived.Test.YtdnpoacjamkhkaaJt38
import Derived.Test.YtdnpoacjamkhkaaJt39
import Derived.Test.YtdnpoacjamkhkaaJk01
namespace Go.Proofs.Ytdnpoacjamkhkaa
open Go.ChangeShapes Go.WideShapes Go.ChangeAt Go.RowKit
theorem ofV_of {N D p q:Int} (hr:rightR N D=true) (hN:I64 N) (hD:I64 D) (hq:0<q) (h:N*q=p*D):ofV (decide (p<0)) p.natAbs q.natAbs=(N,D,0):=by
 have hD0:=rightR_D hr
 have hG:=rightR_G hr
 have hn:=rightR_N hr
 have hab:N.natAbs*q.natAbs=p.natAbs*D.natAbs:=by rw [←Int.natAbs_mul,h,Int.natAbs_mul]
 have hdv:D.natAbs ∣ q.natAbs:=by
   have:D.natAbs ∣ N.natAbs*q.natAbs:=⟨p.natAbs,by rw [hab,Nat.mul_comm]⟩
   exact Nat.Coprime.dvd_of_dvd_mul_left (by rw [Nat.Coprime,Nat.gcd_comm];exact hG) this
 obtain⟨t,ht⟩:=hdv
 have hp:p.natAbs=N.natAbs*t:=by
   rw [ht,Nat.mul_comm D.natAbs t,←Nat.mul_assoc] at hab
   exact (Nat.eq_of_mul_eq_mul_right (by omega) hab).symm
 have ht0:0<t:=by
   rcases Nat.eq_zero_or_pos t with z | z
   · rw [z,Nat.mul_zero] at ht;omega
   · exact z
 unfold ofV
 by_cases c:p.natAbs=0
 · rw [if_pos c]
   have hN0:N.natAbs=0:=by
     rcases Nat.mul_eq_zero.1 (hp ▸ c) with z | z
     · exact z
     · omega
   have e1:N=0:=by omega
   have e2:D=1:=by
     rw [hN0,Nat.gcd_zero_left] at hG
     omega
   rw [e1,e2]
 · rw [if_neg c]
   have hg:Nat.gcd p.natAbs q.natAbs=t:=by
     rw [hp,ht,Nat.mul_comm D.natAbs t,Nat.mul_comm N.natAbs t,Nat.gcd_mul_left,hG,Nat.mul_one]
   rw [hg,hp,ht,Nat.mul_div_cancel _ ht0,Nat.mul_div_cancel _ ht0]
   have b1:bitsN N.natAbs≤63:=bitsN_le (by have:=hN.1;have:=hN.2;omega)
   have b2:bitsN D.natAbs≤63:=bitsN_le (by have:=hD.2;omega)
   rw [if_pos ⟨b1,b2⟩]
   have s:sgnd (decide (p<0)) N.natAbs=N:=by
     have hs:(p<0↔N<0):=by
       constructor
       · intro z
         rcases Int.lt_or_le N 0 with k | k
         · exact k
         · have:=Int.mul_nonneg k (Int.le_of_lt hq)
           have:=Int.mul_neg_of_neg_of_pos z (show 0<D by omega)
           omega
       · intro z
         rcases Int.lt_or_le p 0 with k | k
         · exact k
         · have:=Int.mul_neg_of_neg_of_pos z hq
           have:=Int.mul_nonneg k (show 0≤D by omega)
           omega
     unfold sgnd
     by_cases z:p<0
     · rw [decide_eq_true z,if_pos rfl];have:=hs.1 z;omega
     · rw [decide_eq_false z,if_neg (by simp)];have:¬N<0:=fun k=>z (hs.2 k);omega
   rw [s,show ((D.natAbs:Nat):Int)=D by omega]
theorem addV11_ok {aN aD bN bD xN xD:Int} (ha:rightR aN aD=true) (hb:rightR bN bD=true) (h:addV11 aN aD bN bD=(xN,xD,0)):rightR xN xD=true∧xN*(aD*bD)=(aN*bD+bN*aD)*xD∧(I64 xN∧I64 xD):=by
 unfold addV11 at h
 rw [ha,hb,Bool.and_self,if_pos rfl] at h
 have p1:=rightR_D ha
 have p2:=rightR_D hb
 obtain⟨h1,h2,h3⟩:=ofV_ok (Nat.mul_ne_zero (by omega) (by omega)) h
 rw [sgn_abs,Int.natCast_mul,show ((aD.natAbs:Nat):Int)=aD by omega,show ((bD.natAbs:Nat):Int)=bD by omega] at h2
 exact⟨h1,h2,h3⟩
theorem rightR_neg {N D:Int} (h:rightR N D=true) (hI:I64 N):rightR (-N) D=true:=by
 have h1:=rightR_D h
 have h2:=rightR_N h
 have h3:=rightR_G h
 unfold rightR
 rw [Int.natAbs_neg,decide_eq_true h1,decide_eq_true (show -N≠-9223372036854775808 by have:=hI.2;omega),decide_eq_true h3]
 rfl
theorem rat_same {aN aD bN bD:Int} (ha:rightR aN aD=true) (hb:rightR bN bD=true) (hA:I64 aN∧I64 aD) (hB:I64 bN∧I64 bD) (h:aN*bD=bN*aD):aN=bN∧aD=bD:=by
 have p1:=rightR_D ha
 have p2:=rightR_D hb
 have e1:=ofV_of ha hA.1 hA.2 (show 0<bD by omega) h
 have e2:=ofV_of hb hB.1 hB.2 (show 0<bD by omega) rfl
 rw [e1] at e2
 injection e2 with h1 h2
 injection h2 with h3 h4
 exact⟨h1,h3⟩
end Go.Proofs.Ytdnpoacjamkhkaa
