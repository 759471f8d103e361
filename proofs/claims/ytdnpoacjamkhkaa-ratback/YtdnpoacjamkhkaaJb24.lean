/- Quotients of whole numbers in their form: what is told is the quotient, and the only one; sums and products are undone; the order. -/
import Derived.Test.YtdnpoacjamkhkaaJb23
import Derived.Test.YtdnpoacjamkhkaaJb21
namespace Go.Proofs.Ytdnpoacjamkhkaa
open Go.ChangeShapes Go.WideShapes Go.ChangeAt Go.RowKit
theorem rightR_G {N D:Int} (h:rightR N D=true):Nat.gcd N.natAbs D.natAbs=1:=by
 unfold rightR at h
 simp only [Bool.and_eq_true,decide_eq_true_eq] at h
 exact h.2.2
theorem ofV_ok {g:Bool} {n d:Nat} {N D:Int} (hd:d≠0) (h:ofV g n d=(N,D,0)):rightR N D=true∧N*(d:Int)=sgnd g n*D∧(I64 N∧I64 D):=by
 unfold ofV at h
 by_cases c:n=0
 · rw [if_pos c] at h
   obtain⟨rfl,rfl⟩:(0:Int)=N∧(1:Int)=D:=by
     injection h with h1 h2
     injection h2 with h3 h4
     exact⟨h1,h3⟩
   refine⟨by decide, ?_,⟨by decide,by decide⟩,⟨by decide,by decide⟩⟩
   rw [c]
   unfold sgnd
   split <;> simp
 · rw [if_neg c] at h
   have g0:0<Nat.gcd n d:=Nat.gcd_pos_of_pos_right _ (by omega)
   have cop:Nat.gcd (n/Nat.gcd n d) (d/Nat.gcd n d)=1:=Nat.coprime_div_gcd_div_gcd g0
   have e1:n/Nat.gcd n d*Nat.gcd n d=n:=Nat.div_mul_cancel (Nat.gcd_dvd_left _ _)
   have e2:d/Nat.gcd n d*Nat.gcd n d=d:=Nat.div_mul_cancel (Nat.gcd_dvd_right _ _)
   generalize Nat.gcd n d=G at *
   generalize n/G=x at *
   generalize d/G=y at *
   by_cases b:bitsN x≤63∧bitsN y≤63
   · rw [if_pos b] at h
     have hx:=bitsN_lt b.1
     have hy:=bitsN_lt b.2
     obtain⟨rfl,rfl⟩:sgnd g x=N∧(y:Int)=D:=by
       injection h with h1 h2
       injection h2 with h3 h4
       exact⟨h1,h3⟩
     have hy0:y≠0:=by rintro rfl;rw [Nat.zero_mul] at e2;omega
     have ha:(sgnd g x).natAbs=x:=by unfold sgnd;split <;> omega
     refine⟨?_, ?_,⟨?_, ?_⟩,⟨by omega,by omega⟩⟩
     · unfold rightR
       rw [ha,show ((y:Int)).natAbs=y by omega,decide_eq_true cop,decide_eq_true (show 1≤(y:Int) by omega),decide_eq_true]
       · rfl
       · intro q
         rw [q] at ha
         omega
     · rw [←e1,←e2]
       unfold sgnd
       split <;> simp only [Int.natCast_mul,Int.neg_mul] <;> grind
     · unfold sgnd;split <;> omega
     · unfold sgnd;split <;> omega
   · rw [if_neg b] at h
     injection h with h1 h2
     injection h2 with h3 h4
     omega
theorem ofV_of {N D p q:Int} (hr:rightR N D=true) (hN:I64 N) (hD:I64 D) (hq:0<q) (h:N*q=p*D):ofV (decide (p<0)) p.natAbs q.natAbs=(N,D,0):=by
 have hD0:=rightR_D hr
 have hG:=rightR_G hr
 have hn:=rightR_N hr
 have hab:N.natAbs*q.natAbs=p.natAbs*D.natAbs:=by rw [←Int.natAbs_mul,h,Int.natAbs_mul]
 have hdv:D.natAbs ∣ q.natAbs:=by
   have:D.natAbs ∣ N.natAbs*q.natAbs:=⟨p.natAbs,by rw [hab,Nat.mul_comm]⟩
   exact Nat.Coprime.dvd_of_dvd_mul_left (by rw [Nat.Coprime,Nat.gcd_comm];exact hG) this
 obtain⟨t,ht⟩:=hdv
 have hp:p.natAbs=N.natAbs*t:=by
   rw [ht,Nat.mul_comm D.natAbs t,←Nat.mul_assoc] at hab
   exact (Nat.eq_of_mul_eq_mul_right (by omega) hab).symm
 have ht0:0<t:=by
   rcases Nat.eq_zero_or_pos t with z | z
   · rw [z,Nat.mul_zero] at ht;omega
   · exact z
 unfold ofV
 by_cases c:p.natAbs=0
 · rw [if_pos c]
   have hN0:N.natAbs=0:=by
     rcases Nat.mul_eq_zero.1 (hp ▸ c) with z | z
     · exact z
     · omega
   have e1:N=0:=by omega
   have e2:D=1:=by
     rw [hN0,Nat.gcd_zero_left] at hG
     omega
   rw [e1,e2]
 · rw [if_neg c]
   have hg:Nat.gcd p.natAbs q.natAbs=t:=by
     rw [hp,ht,Nat.mul_comm D.natAbs t,Nat.mul_comm N.natAbs t,Nat.gcd_mul_left,hG,Nat.mul_one]
   rw [hg,hp,ht,Nat.mul_div_cancel _ ht0,Nat.mul_div_cancel _ ht0]
   have b1:bitsN N.natAbs≤63:=bitsN_le (by have:=hN.1;have:=hN.2;omega)
   have b2:bitsN D.natAbs≤63:=bitsN_le (by have:=hD.2;omega)
   rw [if_pos ⟨b1,b2⟩]
   have s:sgnd (decide (p<0)) N.natAbs=N:=by
     have hs:(p<0↔N<0):=by
       constructor
       · intro z
         rcases Int.lt_or_le N 0 with k | k
         · exact k
         · have:=Int.mul_nonneg k (Int.le_of_lt hq)
           have:=Int.mul_neg_of_neg_of_pos z (show 0<D by omega)
           omega
       · intro z
         rcases Int.lt_or_le p 0 with k | k
         · exact k
         · have:=Int.mul_neg_of_neg_of_pos z hq
           have:=Int.mul_nonneg k (show 0≤D by omega)
           omega
     unfold sgnd
     by_cases z:p<0
     · rw [decide_eq_true z,if_pos rfl];have:=hs.1 z;omega
     · rw [decide_eq_false z,if_neg (by simp)];have:¬N<0:=fun k=>z (hs.2 k);omega
   rw [s,show ((D.natAbs:Nat):Int)=D by omega]
theorem sgn_abs (z:Int):sgnd (decide (z<0)) z.natAbs=z:=by
 unfold sgnd
 by_cases c:z<0
 · rw [decide_eq_true c,if_pos rfl];omega
 · rw [decide_eq_false c,if_neg (by simp)];omega
theorem addV11_ok {aN aD bN bD xN xD:Int} (ha:rightR aN aD=true) (hb:rightR bN bD=true) (h:addV11 aN aD bN bD=(xN,xD,0)):rightR xN xD=true∧xN*(aD*bD)=(aN*bD+bN*aD)*xD∧(I64 xN∧I64 xD):=by
 unfold addV11 at h
 rw [ha,hb,Bool.and_self,if_pos rfl] at h
 have p1:=rightR_D ha
 have p2:=rightR_D hb
 obtain⟨h1,h2,h3⟩:=ofV_ok (Nat.mul_ne_zero (by omega) (by omega)) h
 rw [sgn_abs,Int.natCast_mul,show ((aD.natAbs:Nat):Int)=aD by omega,show ((bD.natAbs:Nat):Int)=bD by omega] at h2
 exact⟨h1,h2,h3⟩
theorem addV11_of {aN aD bN bD xN xD:Int} (ha:rightR aN aD=true) (hb:rightR bN bD=true) (hx:rightR xN xD=true) (hI:I64 xN∧I64 xD) (h:xN*(aD*bD)=(aN*bD+bN*aD)*xD):addV11 aN aD bN bD=(xN,xD,0):=by
 unfold addV11
 rw [ha,hb,Bool.and_self,if_pos rfl,←Int.natAbs_mul]
 exact ofV_of hx hI.1 hI.2 (Int.mul_pos (by have:=rightR_D ha;omega) (by have:=rightR_D hb;omega)) h
theorem rightR_neg {N D:Int} (h:rightR N D=true) (hI:I64 N):rightR (-N) D=true:=by
 have h1:=rightR_D h
 have h2:=rightR_N h
 have h3:=rightR_G h
 unfold rightR
 rw [Int.natAbs_neg,decide_eq_true h1,decide_eq_true (show -N≠-9223372036854775808 by have:=hI.2;omega),decide_eq_true h3]
 rfl
theorem back_add {aN aD bN bD xN xD:Int} (ha:rightR aN aD=true) (hb:rightR bN bD=true) (hA:I64 aN∧I64 aD) (hB:I64 bN∧I64 bD) (h:addV11 aN aD bN bD=(xN,xD,0)):subV11 xN xD bN bD=(aN,aD,0):=by
 obtain⟨hx,e, -⟩:=addV11_ok ha hb h
 unfold subV11
 rw [hb,if_pos rfl]
 refine addV11_of hx (rightR_neg hb hB.1) ha hA ?_
 grind
theorem zmul_sign {a b:Int}:(a*b)≠0→(!(decide (a<0)==decide (b<0)))=decide (a*b<0):=fun h=>by
 have ha:a≠0:=fun z=>h (by rw [z,Int.zero_mul])
 have hb:b≠0:=fun z=>h (by rw [z,Int.mul_zero])
 rcases Int.lt_or_gt_of_ne ha with x | x <;> rcases Int.lt_or_gt_of_ne hb with y | y
 · rw [decide_eq_true x,decide_eq_true y,decide_eq_false (by have:=Int.mul_pos_of_neg_of_neg x y;omega)];rfl
 · rw [decide_eq_true x,decide_eq_false (by omega),decide_eq_true (Int.mul_neg_of_neg_of_pos x y)];rfl
 · rw [decide_eq_false (by omega),decide_eq_true y,decide_eq_true (Int.mul_neg_of_pos_of_neg x y)];rfl
 · rw [decide_eq_false (by omega),decide_eq_false (by omega),decide_eq_false (by have:=Int.mul_pos x y;omega)];rfl
theorem mulV11_is {aN aD bN bD:Int} (ha:rightR aN aD=true) (hb:rightR bN bD=true):mulV11 aN aD bN bD=ofV (decide (aN*bN<0)) (aN*bN).natAbs (aD*bD).natAbs:=by
 unfold mulV11
 rw [ha,hb,Bool.and_self,if_pos rfl,Int.natAbs_mul aD bD]
 exact ofV_sign (by rw [Int.natAbs_mul]) zmul_sign
theorem mulV11_ok {aN aD bN bD xN xD:Int} (ha:rightR aN aD=true) (hb:rightR bN bD=true) (h:mulV11 aN aD bN bD=(xN,xD,0)):rightR xN xD=true∧xN*(aD*bD)=(aN*bN)*xD∧(I64 xN∧I64 xD):=by
 rw [mulV11_is ha hb] at h
 have p1:=rightR_D ha
 have p2:=rightR_D hb
 have p3:=Int.mul_pos (show 0<aD by omega) (show 0<bD by omega)
 obtain⟨h1,h2,h3⟩:=ofV_ok (by omega) h
 rw [sgn_abs,show (((aD*bD).natAbs:Nat):Int)=aD*bD by omega] at h2
 exact⟨h1,h2,h3⟩
theorem back_mul {aN aD bN bD xN xD:Int} (ha:rightR aN aD=true) (hb:rightR bN bD=true) (hA:I64 aN∧I64 aD) (hz:bN≠0) (h:mulV11 aN aD bN bD=(xN,xD,0)):divV11 xN xD bN bD=(aN,aD,0):=by
 obtain⟨hx,e, -⟩:=mulV11_ok ha hb h
 have p1:=rightR_D hx
 have p2:=rightR_D hb
 have p3:=rightR_D ha
 unfold divV11
 rw [hx,hb,Bool.and_self,if_pos rfl,if_neg hz]
 rcases Int.lt_or_gt_of_ne hz with y | y
 · have q:ofV (!(decide (xN<0)==decide (bN<0))) (xN.natAbs*bD.natAbs) (xD.natAbs*bN.natAbs)=ofV (decide (-(xN*bD)<0)) (-(xN*bD)).natAbs (xD * -bN).natAbs:=by
     rw [Int.natAbs_mul xD,Int.natAbs_neg bN]
     refine ofV_sign (by rw [Int.natAbs_neg,Int.natAbs_mul]) fun nz=>?_
     have hx0:xN≠0:=fun z=>nz (by rw [z];simp)
     rw [decide_eq_true y]
     rcases Int.lt_or_gt_of_ne hx0 with k | k
     · have:=Int.mul_neg_of_neg_of_pos k (show 0<bD by omega)
       rw [decide_eq_true k,decide_eq_false (by omega)];rfl
     · have:=Int.mul_pos k (show 0<bD by omega)
       rw [decide_eq_false (by omega),decide_eq_true (by omega)];rfl
   rw [q]
   exact ofV_of ha hA.1 hA.2 (Int.mul_pos (by omega) (by omega)) (by grind)
 · have q:ofV (!(decide (xN<0)==decide (bN<0))) (xN.natAbs*bD.natAbs) (xD.natAbs*bN.natAbs)=ofV (decide (xN*bD<0)) (xN*bD).natAbs (xD*bN).natAbs:=by
     rw [Int.natAbs_mul xD]
     refine ofV_sign (by rw [Int.natAbs_mul]) fun nz=>?_
     have hx0:xN≠0:=fun z=>nz (by rw [z];simp)
     rw [decide_eq_false (show ¬bN<0 by omega)]
     rcases Int.lt_or_gt_of_ne hx0 with k | k
     · have:=Int.mul_neg_of_neg_of_pos k (show 0<bD by omega)
       rw [decide_eq_true k,decide_eq_true (by omega)];rfl
     · have:=Int.mul_pos k (show 0<bD by omega)
       rw [decide_eq_false (by omega),decide_eq_false (by omega)];rfl
   rw [q]
   exact ofV_of ha hA.1 hA.2 (Int.mul_pos (by omega) (by omega)) (by grind)
end Go.Proofs.Ytdnpoacjamkhkaa
