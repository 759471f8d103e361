/- The least interval of a quotient holds it, and lies in every interval that does. -/
import Derived.Test.YtdnpoacjamkhkaaJb27
import Derived.Test.YtdnpoacjamkhkaaJb33
namespace Go.Proofs.Ytdnpoacjamkhkaa
open Go.ChangeShapes Go.WideShapes Go.ChangeAt Go.RowKit
def qR (N D:Int):Rat:=(N:Rat)*(D:Rat)⁻¹
theorem qR_inv {D:Int} (h:1≤D):0<((D:Rat)⁻¹)∧(D:Rat)*(D:Rat)⁻¹=1:=by
 have p:(0:Rat)<(D:Rat):=Rat.intCast_pos.2 (by omega)
 exact⟨Rat.inv_pos.2 p,Rat.mul_inv_cancel _ (by grind)⟩
theorem vq_qR {k N D:Int} (h:1≤D):vq k≤qR N D↔V k*D≤N*(unitN:Int):=by
 obtain⟨d1,d2⟩:=qR_inv h
 have p:(0:Rat)<(D:Rat):=Rat.intCast_pos.2 (by omega)
 have i0:=iuQ_pos
 have i1:=iuQ_one
 have u0:=unitQ_pos
 unfold vq qR
 rw [←Rat.intCast_le_intCast,Rat.intCast_mul,Rat.intCast_mul]
 generalize (V k:Rat)=A at *
 generalize (N:Rat)=B at *
 generalize ((unitN:Int):Rat)=U at *
 generalize iuQ=i at *
 generalize (D:Rat)⁻¹=t at *
 generalize (D:Rat)=d at *
 constructor
 · intro q
   have:=Rat.mul_le_mul_of_nonneg_right q (Rat.mul_nonneg (Rat.le_of_lt u0) (Rat.le_of_lt p))
   have e1:A*i*(U*d)=A*d:=by grind
   have e2:B*t*(U*d)=B*U:=by grind
   rw [e1,e2] at this
   exact this
 · intro q
   have:=Rat.mul_le_mul_of_nonneg_right q (Rat.mul_nonneg (Rat.le_of_lt i0) (Rat.le_of_lt d1))
   have e1:A*d*(i*t)=A*i:=by grind
   have e2:B*U*(i*t)=B*t:=by grind
   rw [e1,e2] at this
   exact this
theorem qR_neg (N D:Int):-qR N D=qR (-N) D:=by
 unfold qR
 rw [Rat.intCast_neg]
 grind
theorem unit_two {u:Nat} (hu:u=1075):((2^u:Nat):Int)=2*(unitN:Int):=by
 unfold unitN
 have e:u=expN+1:=by rw [hu];rfl
 rw [e,Nat.pow_succ]
 generalize 2^expN=x
 omega
theorem le_unit {u:Nat} (hu:u=1075) {k N D:Int} (h:1≤D):(exQ (N*((2^u:Nat):Int)) D.natAbs).le (2*V k)↔vq k≤qR N D:=by
 rw [vq_qR h]
 show 2*V k*((D.natAbs:Nat):Int)≤N*((2^u:Nat):Int)↔_
 rw [unit_two hu,show ((D.natAbs:Nat):Int)=D by omega,Int.mul_assoc,←Int.mul_assoc N,Int.mul_comm N,Int.mul_assoc]
 omega
theorem kd_lo {u:Nat} (hu:u=1075) {k N D:Int} (h:1≤D) (K:KDown (exQ (N*((2^u:Nat):Int)) D.natAbs) k):LoQ k (qR N D):=K.low.imp id (fun q=>(le_unit hu h).1 q)
theorem kd_least {u:Nat} (hu:u=1075) {k l N D:Int} (h:1≤D) (K:KDown (exQ (N*((2^u:Nat):Int)) D.natAbs) k) (L:LoQ l (qR N D)) (hl:l<9218868437227405312):l≤k:=by
 rcases L with L | L
 · have:=K.bot;omega
 · rcases K.up with q | q
   · omega
   · rcases Int.lt_or_le k l with c | c
     · exact absurd ((le_unit hu h).2 (Rat.le_trans (vq_le (show k+1≤l by omega)) L)) q
     · exact c
theorem vq_inj_le {k l:Int} (h:vq k≤vq l):k≤l:=by
 rcases Int.lt_or_le l k with c | c
 · exfalso
   have h1:=V_mono c
   have h2:(V l:Rat)<(V k:Rat):=Rat.intCast_lt_intCast.2 h1
   have:=Rat.mul_lt_mul_of_pos_right h2 iuQ_pos
   unfold vq at h
   grind
 · exact c
theorem hold_hq {N D:Int} (h:rightR N D=true) (hN:I64 N) (hD:I64 D):Hq (holdP N D) (qR N D)∧∀p,Hq p (qR N D)→insideB (holdP N D).1 (holdP N D).2 p.1 p.2=true:=by
 obtain⟨u,hu⟩:∃u:Nat,u=1075:=⟨_,rfl⟩
 have d1:=rightR_D h
 have lt:=holdM_lt h hN hD
 obtain⟨K1,K2⟩:=hold_ends hu h hN hD
 have e:holdP N D=makeP (roundN (decide (N<0)) (holdM N D) (holdE N D) (-1)) (roundN (decide (N<0)) (holdM N D) (holdE N D) 1):=by unfold holdP;rw [if_pos h]
 obtain⟨f1,f2,f3⟩:=roundN_facts (decide (N<0)) (holdM N D) (holdE N D) (-1) lt
 obtain⟨g1,g2,g3⟩:=roundN_facts (decide (N<0)) (holdM N D) (holdE N D) 1 lt
 rw [e]
 generalize roundN (decide (N<0)) (holdM N D) (holdE N D) (-1)=r1 at *
 generalize roundN (decide (N<0)) (holdM N D) (holdE N D) 1=r2 at *
 have L1:=kd_lo hu d1 K1
 have L2:=kd_lo hu d1 K2
 have le:key r1≤key r2:=by
   rcases L1 with q | q
   · have:=K2.top;have:=K2.bot;omega
   · rcases L2 with t | t
     · have:=K1.top;omega
     · rw [vq_neg,←qR_neg] at t
       refine vq_inj_le (Rat.le_trans q ?_)
       have:=t
       grind
 have t1:=K1.top
 have t2:=K2.top
 have hs:hsB (pz r1) (pz r2)=true:=hs_iff.2 ⟨by rw [nan_pz];exact f1,by rw [nan_pz];exact g1,by rw [key_pz,key_pz];exact le,by rw [key_pz];omega,by rw [key_pz];omega,pz_ne _,pz_ne _⟩
 have em:makeP r1 r2=(pz r1,pz r2):=by unfold makeP;rw [if_pos hs]
 rw [em]
 refine⟨⟨pz_lt f3,pz_lt g3,hs_iff.1 hs,by rw [key_pz];exact L1,by rw [key_pz,qR_neg];exact L2⟩,fun p P=>?_⟩
 rw [inside_iff]
 intro _
 refine⟨P.S, ?_, ?_⟩
 · rw [key_pz]
   exact kd_least hu d1 K1 P.lo P.S.lt
 · rw [key_pz]
   have t:=P.hi
   rw [qR_neg] at t
   have:=kd_least hu d1 K2 t (by have:=P.S.gt;omega)
   omega
theorem qR_add {aN aD bN bD xN xD:Int} (ha:1≤aD) (hb:1≤bD) (hx:1≤xD) (h:xN*(aD*bD)=(aN*bD+bN*aD)*xD):qR xN xD=qR aN aD+qR bN bD:=by
 obtain⟨a1,a2⟩:=qR_inv ha
 obtain⟨b1,b2⟩:=qR_inv hb
 obtain⟨x1,x2⟩:=qR_inv hx
 have h':(xN:Rat)*((aD:Rat)*(bD:Rat))=((aN:Rat)*(bD:Rat)+(bN:Rat)*(aD:Rat))*(xD:Rat):=by
   have:=congrArg (fun z:Int=>(z:Rat)) h
   simp only [Rat.intCast_mul,Rat.intCast_add] at this
   exact this
 unfold qR
 generalize (aD:Rat)⁻¹=s at *
 generalize (bD:Rat)⁻¹=t at *
 generalize (xD:Rat)⁻¹=r at *
 grind
theorem qR_mul {aN aD bN bD xN xD:Int} (ha:1≤aD) (hb:1≤bD) (hx:1≤xD) (h:xN*(aD*bD)=(aN*bN)*xD):qR xN xD=qR aN aD*qR bN bD:=by
 obtain⟨a1,a2⟩:=qR_inv ha
 obtain⟨b1,b2⟩:=qR_inv hb
 obtain⟨x1,x2⟩:=qR_inv hx
 have h':(xN:Rat)*((aD:Rat)*(bD:Rat))=((aN:Rat)*(bN:Rat))*(xD:Rat):=by
   have:=congrArg (fun z:Int=>(z:Rat)) h
   simp only [Rat.intCast_mul] at this
   exact this
 unfold qR
 generalize (aD:Rat)⁻¹=s at *
 generalize (bD:Rat)⁻¹=t at *
 generalize (xD:Rat)⁻¹=r at *
 grind
end Go.Proofs.Ytdnpoacjamkhkaa
