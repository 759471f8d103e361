/- Plain facts: what the program rounds parts to, to any side, is what the document's words ask of the exact number: the place below, whether it is it, the middle. Plain facts: sums, products, quotients and roots of the program are the exact ones, rounded by the document's words, to any side. The walk of the reference's Down: the place of the greatest float that is not above an exact number. The walks of the reference's grid and Rounded: the document's rounding of an exact number. -/
import Derived.Test.YtdokikhhlmelkaaGreatZs11
import Derived.Test.YtdokikhhlmelkaaGreatZs24
namespace Go.Proofs.YtdokikhhlmelkaaGreat
def IsRnd (x:Ex) (dir k:Int):Prop:=∃d,KDown x d ∧
 ((d≠-9218868437227405312∧x.le (2*V d)∧x.ge (2*V d))∧k=d ∨
  ¬(d≠-9218868437227405312∧x.le (2*V d)∧x.ge (2*V d))∧(dir<0→k=d)∧(0<dir→k=d+1) ∧
   (dir=0→(x.le (V d+V (d+1))∧x.ge (V d+V (d+1))∧k=(if d%2=0 then d else d+1) ∨
     ¬(x.le (V d+V (d+1))∧x.ge (V d+V (d+1)))∧(x.le (V d+V (d+1))∧k=d+1∨¬x.le (V d+V (d+1))∧k=d))))
theorem rnd_of {x:Ex} (ok:x.Ok) {g:Bool} (hg:if g then x.ge 0 else x.le 0) {dir:Int} {r:Nat} (h:IsR (x.amt g) (sideN dir g) r):IsRnd x dir (if g then -(r:Int) else r):=by
 obtain⟨d,hd,h0,h2,h1⟩:=h
 have dt:=hd.top
 cases g
 · simp only [Bool.false_eq_true,if_false] at *
   have lo:x.le ((2*val d:Nat):Int):=hd.low
   have up:d=9218868437227405311∨¬x.le ((2*val (d+1):Nat):Int):=hd.up
   have s1:dir<0→sideN dir false=0:=by
     intro t
     have u:¬0<dir:=by omega
     unfold sideN
     rw [if_neg (by omega)]
     simp [u]
   have s2:0<dir→sideN dir false=2:=fun t=>by unfold sideN;rw [if_neg (by omega)];simp [t]
   have s3:dir=0→sideN dir false=1:=fun t=>by unfold sideN;rw [if_pos t]
   have e2:((2*val d:Nat):Int)=2*V (d:Int):=by rw [V_nat];simp
   have e3:((d:Int)+1)=((d+1:Nat):Int):=by omega
   have em:((val d+val (d+1):Nat):Int)=V (d:Int)+V ((d:Int)+1):=by rw [e3,V_nat,V_nat];simp
   have eqd:(x.amt false).eq (2*val d)↔x.le (2*V (d:Int))∧x.ge (2*V (d:Int)):=by rw [←e2];exact Iff.rfl
   have eqm:(x.amt false).eq (val d+val (d+1))↔x.le (V (d:Int)+V ((d:Int)+1))∧x.ge (V (d:Int)+V ((d:Int)+1)):=by rw [←em];exact Iff.rfl
   have lem:(x.amt false).le (val d+val (d+1))↔x.le (V (d:Int)+V ((d:Int)+1)):=by rw [←em];exact Iff.rfl
   have kd:KDown x (d:Int):=⟨by omega,by omega,Or.inr (by rw [←e2];exact lo),by
     rcases up with u | u
     · left;omega
     · right
       rw [e3,V_nat]
       exact fun c=>u (ok.down (by omega) c)⟩
   refine⟨d,kd, ?_⟩
   have dn:(d:Int)≠-9218868437227405312:=by omega
   rw [eqd] at h1 h2
   rw [eqm,lem] at h1
   by_cases eqx:x.le (2*V (d:Int))∧x.ge (2*V (d:Int))
   · left
     refine⟨⟨dn,eqx⟩, ?_⟩
     rcases Int.lt_trichotomy dir 0 with t | t | t
     · rw [h0 (s1 t)]
     · rcases h1 (s3 t) with ⟨-,b⟩ | ⟨b, -⟩
       · rw [b]
       · exact absurd eqx b
     · rcases h2 (s2 t) with ⟨-,b⟩ | ⟨b, -⟩
       · rw [b]
       · exact absurd eqx b
   · right
     refine⟨fun c=>eqx c.2,fun t=>by rw [h0 (s1 t)],fun t=>?_,fun t=>?_⟩
     · rcases h2 (s2 t) with ⟨b, -⟩ | ⟨-,b⟩
       · exact absurd b eqx
       · omega
     · rcases h1 (s3 t) with ⟨b, -⟩ | ⟨-,⟨b,c⟩ | ⟨b,⟨c,e⟩ | ⟨c,e⟩⟩⟩
       · exact absurd b eqx
       · left
         refine⟨b.1,b.2, ?_⟩
         rw [c]
         by_cases p:d%2=0
         · rw [if_pos p,if_pos (by omega)]
         · rw [if_neg p,if_neg (by omega)];omega
       · right;exact⟨b,Or.inl ⟨c,by omega⟩⟩
       · right;exact⟨b,Or.inr ⟨c,by omega⟩⟩
 · simp only [if_true] at *
   have lo:x.ge (-((2*val d:Nat):Int)):=hd.low
   have up:d=9218868437227405311∨¬x.ge (-((2*val (d+1):Nat):Int)):=hd.up
   have s1:dir<0→sideN dir true=2:=by
     intro t
     have u:¬0<dir:=by omega
     unfold sideN
     rw [if_neg (by omega)]
     simp [u]
   have s2:0<dir→sideN dir true=0:=fun t=>by unfold sideN;rw [if_neg (by omega)];simp [t]
   have s3:dir=0→sideN dir true=1:=fun t=>by unfold sideN;rw [if_pos t]
   have e2:-((2*val d:Nat):Int)=2*V (-(d:Int)):=by rw [V_negnat];omega
   have eqd:(x.amt true).eq (2*val d)↔x.le (2*V (-(d:Int)))∧x.ge (2*V (-(d:Int))):=by rw [←e2];exact Iff.rfl
   rw [eqd] at h1 h2
   by_cases eqx:x.le (2*V (-(d:Int)))∧x.ge (2*V (-(d:Int)))
   · have kd:KDown x (-(d:Int)):=⟨by omega,by omega,Or.inr eqx.1,Or.inr fun c=>by
       have c1:=ok.sep eqx.2 c
       have c2:=V_mono (show -(d:Int) < -(d:Int)+1 by omega)
       omega⟩
     refine⟨-(d:Int),kd,Or.inl ⟨⟨by omega,eqx⟩, ?_⟩⟩
     rcases Int.lt_trichotomy dir 0 with t | t | t
     · rcases h2 (s1 t) with ⟨-,b⟩ | ⟨b, -⟩
       · rw [b]
       · exact absurd eqx b
     · rcases h1 (s3 t) with ⟨-,b⟩ | ⟨b, -⟩
       · rw [b]
       · exact absurd eqx b
     · rw [h0 (s2 t)]
   · have e3:-((d+1:Nat):Int)+1=-(d:Int):=by omega
     have em:-((val d+val (d+1):Nat):Int)=V (-((d+1:Nat):Int))+V (-((d+1:Nat):Int)+1):=by rw [e3,V_negnat,V_negnat];omega
     have eqm:(x.amt true).eq (val d+val (d+1))↔x.le (V (-((d+1:Nat):Int))+V (-((d+1:Nat):Int)+1))∧x.ge (V (-((d+1:Nat):Int))+V (-((d+1:Nat):Int)+1)):=by rw [←em];exact Iff.rfl
     have lem:(x.amt true).le (val d+val (d+1))↔x.ge (V (-((d+1:Nat):Int))+V (-((d+1:Nat):Int)+1)):=by rw [←em];exact Iff.rfl
     rw [eqm,lem] at h1
     have kd:KDown x (-((d+1:Nat):Int)):=⟨by omega,by omega,by
       rcases up with u | u
       · left;omega
       · right
         rcases ok.total (-((2*val (d+1):Nat):Int)) with c | c
         · rw [V_negnat];exact ok.down (by omega) c
         · exact absurd c u,Or.inr fun c=>by
           rw [e3] at c
           exact eqx ⟨c,by rw [←e2];exact lo⟩⟩
     refine⟨-((d+1:Nat):Int),kd,Or.inr ⟨fun c=>?_,fun t=>?_,fun t=>?_,fun t=>?_⟩⟩
     · rcases up with u | u
       · exact c.1 (by omega)
       · apply u
         have:=c.2.2
         rw [V_negnat] at this
         exact ok.up (by omega) this
     · rcases h2 (s1 t) with ⟨b, -⟩ | ⟨-,b⟩
       · exact absurd b eqx
       · rw [b]
     · rw [h0 (s2 t)];omega
     · rcases h1 (s3 t) with ⟨b, -⟩ | ⟨-,⟨b,c⟩ | ⟨b,⟨c,e⟩ | ⟨c,e⟩⟩⟩
       · exact absurd b eqx
       · left
         refine⟨b.1,b.2, ?_⟩
         rw [c]
         by_cases p:d%2=0
         · rw [if_pos p,if_neg (by omega)];omega
         · rw [if_neg p,if_pos (by omega)]
       · right
         exact⟨b,Or.inr ⟨fun l=>b ⟨l,c⟩,by rw [e]⟩⟩
       · right
         refine⟨b,Or.inl ⟨?_,by omega⟩⟩
         rcases ok.total (V (-((d+1:Nat):Int))+V (-((d+1:Nat):Int)+1)) with l | l
         · exact l
         · exact absurd l c
end Go.Proofs.YtdokikhhlmelkaaGreat
namespace Go.Proofs.YtdokikhhlmelkaaGreat
theorem round_is {x:Ex} (ok:x.Ok) {g:Bool} {M:Nat} {E:Int} (dir:Int) (hM:M<18446744073709551616) (hE:-4096≤E∧E≤4096) (hz:M=0→x.le 0∧x.ge 0) (hg:if g then x.ge 0 else x.le 0) (near:M≠0→Near M E (x.amt g)) :
   IsRnd x dir (key (roundN g M E dir)):=by
 unfold roundN
 by_cases h0:M=0
 · rw [if_pos h0]
   obtain⟨l,u⟩:=hz h0
   have hk:key 0=0:=rfl
   rw [hk]
   refine⟨0,⟨by omega,by omega,Or.inr ?_,Or.inr fun c=>?_⟩,Or.inl ⟨⟨by omega, ?_, ?_⟩,rfl⟩⟩
   · rw [V_zero];exact l
   · have:=ok.sep u c
     have h1:=V_pos (show (0:Int)<0+1 by omega)
     omega
   · rw [V_zero];exact l
   · rw [V_zero];exact u
 · rw [if_neg h0]
   have ec:clampN E=E:=by unfold clampN;omega
   rw [ec]
   have hs:sideN dir g=0∨sideN dir g=1∨sideN dir g=2:=by unfold sideN;split <;> (try split) <;> omega
   have hr:=rung_is (ok.cut hg) (near h0) h0 hM hs
   have hle:rungN (topN M) (E-shiftN M) (sideN dir g)≤9218868437227405312:=by
     obtain⟨d,hd,r0,r2,r1⟩:=hr
     have:=hd.top
     rcases hs with c | c | c
     · have:=r0 c;omega
     · rcases r1 c with ⟨-,e⟩ | ⟨-,⟨-,e⟩ | ⟨-,⟨-,e⟩ | ⟨-,e⟩⟩⟩
       · omega
       · rw [e];split <;> omega
       · omega
       · omega
     · rcases r2 c with ⟨-,e⟩ | ⟨-,e⟩ <;> omega
   rw [(signN_facts g _ hle).2.2.2]
   exact rnd_of ok hg hr
theorem sum_first_is (dir:Int) {gp gq:Bool} {mp mq:Nat} {ep eq:Int} (hp:mp<9007199254740992) (hq:mq<9007199254740992) (e1:-1074≤eq) (e3:ep≤971) (e2:eq≤ep) (norm:eq<ep→4503599627370496≤mp) (same:ep=eq→mq≤mp)
   (hM:addM gp mp ep gq mq eq<18446744073709551616) :
   IsRnd (exQ (2*((if gp then -((mp*2^(ep+1074).toNat:Nat):Int) else (mp*2^(ep+1074).toNat:Nat))+(if gq then -((mq*2^(eq+1074).toNat:Nat):Int) else (mq*2^(eq+1074).toNat:Nat)))) 1) dir (key (roundN gp (addM gp mp ep gq mq eq) (ep-10) dir)):=by
 have hle:mq*2^(eq+1074).toNat≤mp*2^(ep+1074).toNat :=
   (add_near (gp:=gp) (gq:=gq) (C:=⟨fun h=>h≤_,fun h=>h=_⟩) hp hq e1 e2 norm same (fun h=>Iff.rfl) (fun h=>Iff.rfl)).2
 have ha:=fun gp gq=>sum_abs (gp:=gp) (gq:=gq) hle
 have nr:=fun C=>add_near (gp:=gp) (gq:=gq) (C:=C) hp hq e1 e2 norm same
 generalize mp*2^(ep+1074).toNat=Ap at *
 generalize mq*2^(eq+1074).toNat=Aq at *
 obtain⟨a1,a2⟩:=ha gp gq
 generalize 2*((if gp then -(Ap:Int) else Ap)+(if gq then -(Aq:Int) else Aq))=N at *
 have near:Near (addM gp mp ep gq mq eq) (ep-10) ((exQ N 1).amt gp):=by
   refine (nr _ (fun h=>?_) (fun h=>?_)).1
   · rw [(amt_Q a2 h).1,a1,Nat.mul_one]
   · rw [(amt_Q a2 h).2,a1,Nat.mul_one]
 refine round_is (exQ_ok N (by omega)) dir hM (by omega) (fun h0=>?_) ?_ (fun _=>near)
 · rw [h0] at near
   obtain⟨a,b, -,hc | ⟨odd, -, -⟩⟩:=near
   · have h1:=(hc 0).2.2 (by simp)
     have h2:=(amt_Q a2 0).2.1 h1
     have:N=0:=by omega
     subst this
     exact⟨by simp [exQ],by simp [exQ]⟩
   · omega
 · cases gp
   · simpa [exQ] using a2
   · simpa [exQ] using a2
theorem self_is (dir:Int) {g:Bool} {m:Nat} {e:Int} (hm:m<9007199254740992) (he:-1074≤e∧e≤971) :
   IsRnd (exQ (2*(if g then -((m*2^(e+1074).toNat:Nat):Int) else (m*2^(e+1074).toNat:Nat))) 1) dir (key (roundN g m e dir)):=by
 have ns:=fun C=>near_self (m:=m) (e:=e) (C:=C) he.1
 have z:m=0→m*2^(e+1074).toNat=0:=fun h=>by rw [h,Nat.zero_mul]
 generalize m*2^(e+1074).toNat=A at *
 have hg:if g then 2*(if g then -(A:Int) else A)≤0 else 0≤2*(if g then -(A:Int) else (A:Int)):=by cases g <;> simp <;> omega
 have ha:(2*(if g then -(A:Int) else A)).natAbs=2*A:=by cases g <;> simp <;> omega
 generalize 2*(if g then -(A:Int) else (A:Int))=N at *
 refine round_is (exQ_ok N (by omega)) dir (by omega) (by omega) (fun h0=>?_) ?_ (fun _=>ns _ (fun h=>?_) (fun h=>?_))
 · have:N=0:=by have:=z h0;omega
   subst this
   exact⟨by simp [exQ],by simp [exQ]⟩
 · cases g
   · simpa [exQ] using hg
   · simpa [exQ] using hg
 · rw [(amt_Q hg h).1,ha,Nat.mul_one]
 · rw [(amt_Q hg h).2,ha,Nat.mul_one]
theorem addF_is (dir:Int) {a b:Nat} (ha:a<18446744073709551616) (hb:b<18446744073709551616) (fa:finB a=true) (fb:finB b=true) :
   IsRnd (exQ (2*(V (key a)+V (key b))) 1) dir (key (addF a b dir)):=by
 have hm:=sumM_lt (splitG a) (splitM a) (splitE a) (splitG b) (splitM b) (splitE b) (splitM_lt a) (splitM_lt b)
 have ea:=splitE_bounds fa
 have eb:=splitE_bounds fb
 have na:=splitM_norm fa
 have nb:=splitM_norm fb
 have la:=splitM_lt a
 have lb:=splitM_lt b
 rw [signed_val ha fa,signed_val hb fb]
 unfold addF
 generalize splitG a=gp at *
 generalize splitG b=gq at *
 generalize splitM a=mp at *
 generalize splitM b=mq at *
 generalize splitE a=ep at *
 generalize splitE b=eq at *
 unfold sumM at *
 unfold sumG sumE
 by_cases z1:mp=0
 · subst z1
   simp only [if_true,Nat.zero_mul] at *
   have:=self_is dir (g:=gq) (m:=mq) (e:=eq) lb eb
   have e0:(if gp then -((0:Nat):Int) else ((0:Nat):Int))=0:=by cases gp <;> rfl
   rw [e0,Int.zero_add]
   exact this
 · simp only [z1,if_false] at hm ⊢
   by_cases z2:mq=0
   · subst z2
     simp only [if_true,Nat.zero_mul] at *
     have:=self_is dir (g:=gp) (m:=mp) (e:=ep) la ea
     have e0:(if gq then -((0:Nat):Int) else ((0:Nat):Int))=0:=by cases gq <;> rfl
     rw [e0,Int.add_zero]
     exact this
   · simp only [z2,if_false] at hm ⊢
     have hsw:swapP mp ep mq eq=decide (ep<eq∨ep=eq∧mp<mq):=rfl
     by_cases sw:ep<eq∨ep=eq∧mp<mq
     · have hs:swapP mp ep mq eq=true:=by rw [hsw];simp [sw]
       simp only [hs,if_true] at hm ⊢
       rw [Int.add_comm]
       exact sum_first_is dir lb la ea.1 eb.2 (by omega) (fun h=>nb z2 (by omega)) (fun h=>by omega) hm
     · have hs:swapP mp ep mq eq=false:=by rw [hsw];simp [sw]
       simp only [hs,Bool.false_eq_true,if_false] at hm ⊢
       exact sum_first_is dir la lb eb.1 ea.2 (by omega) (fun h=>na z1 (by omega)) (fun h=>by omega) hm
theorem mulF_is (dir:Int) {u:Nat} (hu:u=1073) {a b:Nat} (ha:a<18446744073709551616) (hb:b<18446744073709551616) (fa:finB a=true) (fb:finB b=true) (za:splitM a≠0) (zb:splitM b≠0) :
   IsRnd (exQ (V (key a)*V (key b)) (2^u)) dir (key (mulF a b dir)):=by
 have ea:=splitE_bounds fa
 have eb:=splitE_bounds fb
 have la:=splitM_lt a
 have lb:=splitM_lt b
 have hm:=prodM_lt za zb (show splitM a<18446744073709551616 by omega) (show splitM b<18446744073709551616 by omega)
 have ta:=topN_bounds za (by omega)
 have tb:=topN_bounds zb (by omega)
 rw [signed_val ha fa,signed_val hb fb]
 unfold mulF
 generalize splitG a=gp at *
 generalize splitG b=gq at *
 generalize splitM a=mp at *
 generalize splitM b=mq at *
 generalize splitE a=ep at *
 generalize splitE b=eq at *
 obtain⟨P,hP⟩:∃P:Nat,(P:Int)=ep+1074:=⟨(ep+1074).toNat,by omega⟩
 obtain⟨Q,hQ⟩:∃Q:Nat,(Q:Int)=eq+1074:=⟨(eq+1074).toNat,by omega⟩
 have tP:(ep+1074).toNat=P:=by omega
 have tQ:(eq+1074).toNat=Q:=by omega
 rw [tP,tQ]
 obtain⟨a1,a2⟩:=prod_abs (Ap:=mp*2^P) (Aq:=mq*2^Q) (gp:=gp) (gq:=gq)
 generalize (if gp then -((mp*2^P:Nat):Int) else (mp*2^P:Nat))*(if gq then -((mq*2^Q:Nat):Int) else (mq*2^Q:Nat))=N at *
 have sp:=shift_le mp
 have sq:=shift_le mq
 have hT:topN mp*topN mq*2^(P+Q)=(mp*2^P*(mq*2^Q))*2^(shiftN mp+shiftN mq):=by
   rw [top_eq,top_eq,Nat.pow_add,Nat.pow_add]
   simp only [Nat.mul_comm,Nat.mul_left_comm,Nat.mul_assoc]
 have hmid:∀h:Nat,h*2^(u+shiftN mp+shiftN mq)=h*2^u*2^(shiftN mp+shiftN mq):=fun h=>by
   rw [Nat.add_assoc,Nat.pow_add,←Nat.mul_assoc]
 have big:36028797018963968≤topN mp*topN mq/18446744073709551616:=by
   rw [Nat.le_div_iff_mul_le (by omega)]
   exact Nat.le_trans (by omega) (Nat.mul_le_mul ta.1 tb.1)
 have hz:prodM mp mq≠0:=by
   intro h
   rcases mark_near (topN mp*topN mq) 18446744073709551616 (by omega) (show prodM mp mq=_ from rfl) with ⟨-,e⟩ | ⟨-,e, -⟩
   · rw [h,Nat.zero_mul] at e
     have:=Nat.mul_le_mul ta.1 tb.1
     omega
   · omega
 have d64:(18446744073709551616:Nat)=2^64:=rfl
 have hT2:topN mp*topN mq*2^(P+Q+64)=(mp*2^P*(mq*2^Q))*2^(shiftN mp+shiftN mq)*18446744073709551616:=by
   rw [Nat.pow_add 2 (P+Q) 64,←Nat.mul_assoc,hT]
 refine round_is (exQ_ok N (Nat.two_pow_pos u)) dir hm (by unfold prodE;omega) (fun h0=>absurd h0 hz) ?_ (fun _=>near_of (T:=topN mp*topN mq) (D:=18446744073709551616) (a:=u+shiftN mp+shiftN mq) (b:=P+Q+64) (by omega) (by unfold prodE;omega) (fun h=>?_) (fun h=>?_) rfl (fun _=>big))
 · cases h:(gp != gq)
   · rw [h] at a2;simpa [exQ] using a2
   · rw [h] at a2;simpa [exQ] using a2
 · rw [(amt_Q a2 h).1,a1,hT2,hmid,d64,mul_two_pow_le,mul_two_pow_le]
 · rw [(amt_Q a2 h).2,a1,hT2,hmid,d64,mul_two_pow_eq,mul_two_pow_eq]
end Go.Proofs.YtdokikhhlmelkaaGreat
namespace Go.Proofs.YtdokikhhlmelkaaGreat
open Go.ChangeShapes Go.WideShapes Go.ChangeAt Go.RowKit
theorem tdiv2 (a:Int):a=2*a.tdiv 2+a.tmod 2∧(0≤a→0≤a.tmod 2∧a.tmod 2≤1)∧(a<0→-1≤a.tmod 2∧a.tmod 2≤0):=by
 refine⟨(Int.mul_tdiv_add_tmod a 2).symm,fun h=>?_,fun h=>?_⟩
 · have h1:=Int.tmod_nonneg 2 h
   have h2:=Int.tmod_lt_of_pos a (show (0:Int)<2 by omega)
   omega
 · have h1:=Int.tmod_nonneg 2 (show 0≤-a by omega)
   have h2:=Int.tmod_lt_of_pos (-a) (show (0:Int)<2 by omega)
   rw [Int.neg_tmod] at h1 h2
   omega
theorem mid_facts {lo hi:Int} (h:lo<hi):lo<lo.tdiv 2+hi.tdiv 2+(lo.tmod 2+hi.tmod 2+1).tdiv 2∧lo.tdiv 2+hi.tdiv 2+(lo.tmod 2+hi.tmod 2+1).tdiv 2≤hi∧-1≤(lo.tmod 2+hi.tmod 2+1).tdiv 2∧(lo.tmod 2+hi.tmod 2+1).tdiv 2≤1:=by
 obtain⟨a1,a2,a3⟩:=tdiv2 lo
 obtain⟨b1,b2,b3⟩:=tdiv2 hi
 obtain⟨c1,c2,c3⟩:=tdiv2 (lo.tmod 2+hi.tmod 2+1)
 generalize lo.tdiv 2=qa at *
 generalize hi.tdiv 2=qb at *
 generalize lo.tmod 2=ra at *
 generalize hi.tmod 2=rb at *
 generalize (ra+rb+1).tdiv 2=u at *
 generalize (ra+rb+1).tmod 2=v at *
 omega
theorem NumZ.halves {w:World} {x:Value} {z:Int} (h:NumZ (-1074) 971 53 w x z):NumZ (-1075) 1024 3000 w x (2*z):=by
 have:=(h.scale (S':=-1075) (t:=1) (by omega)).wide (T':=1024) (K':=3000) (by omega) (by omega)
 rw [show 2*z=z*((2^1:Nat):Int) by simp;omega]
 exact this
theorem ofKey_facts {M:Int} (h:-9218868437227405311≤M∧M≤9218868437227405311):ofKey M<18446744073709551616∧finB (ofKey M)=true∧key (ofKey M)=M:=by
 unfold ofKey finB key
 by_cases c:M<0
 · rw [if_pos c]
   refine⟨by omega,by simp;omega, ?_⟩
   rw [if_neg (by omega)]
   omega
 · rw [if_neg c]
   refine⟨by omega,by simp;omega, ?_⟩
   rw [if_pos (by omega)]
   omega
set_option maxHeartbeats 1000000 in
theorem down_w (x:Value) (X:Ex) (w:World) (hx:XIs w x X) :
   Calls Tryz.prog 110 #[x] w fun e w'=>(∃k,e=.returned (.int .i64 k)∧KDown X k)∧Below w.heap.size w w':=by
 have hx':=hx
 obtain⟨ga,ao,la,ca',ea,gb,bo,lb,cb,eb,root,rfl, -⟩:=hx'
 go_enter Tryz.func110,Tryz.ntmps110
 go_wp2
 go_loopg [3,4,5] 18446744073709551616 (fun G s3 s4 _ wx=>Below w.heap.size w wx∧Has7 wx w.heap.size (.bool ga) (.slice ao la ca') (.int .i64 ea) (.bool gb) (.slice bo lb cb) (.int .i64 eb) (.bool root) ∧
   ∃lo hi:Int,s3=.int .i64 lo∧s4=.int .i64 hi∧-9218868437227405312≤lo∧hi≤9218868437227405311∧lo≤hi∧hi-lo<G∧Hid (lo=-9218868437227405312∨X.le (2*V lo))∧Hid (hi=9218868437227405311∨¬X.le (2*V (hi+1))))
 case atStart=>exact⟨by go_grown,⟨by go_simp,by go_simp,by go_simp,by go_simp,by go_simp,by go_simp,by go_simp,by go_size⟩, -9218868437227405312,9218868437227405311,rfl,rfl,by omega,by omega,by omega,by omega,Or.inl rfl,Or.inl rfl⟩
 case round =>
   obtain⟨HB,Y,lo,hi,rfl,rfl,b1,b2,b3,bG,low,up⟩:=hrel
   by_cases hlh:lo<hi
   · obtain⟨m1,m2,m3,m4⟩:=mid_facts hlh
     obtain⟨t1,t2,t3⟩:=tdiv2 lo
     obtain⟨t4,t5,t6⟩:=tdiv2 hi
     obtain⟨qa,e1⟩:∃q,lo.tdiv 2=q:=⟨_,rfl⟩
     obtain⟨qb,e2⟩:∃q,hi.tdiv 2=q:=⟨_,rfl⟩
     obtain⟨ra,e3⟩:∃q,lo.tmod 2=q:=⟨_,rfl⟩
     obtain⟨rb,e4⟩:∃q,hi.tmod 2=q:=⟨_,rfl⟩
     rw [e1,e2,e3,e4] at m1 m2
     rw [e3,e4] at m3 m4
     rw [e1,e3] at t1
     rw [e3] at t2 t3
     rw [e2,e4] at t4
     rw [e4] at t5 t6
     obtain⟨u,e5⟩:∃q,(ra+rb+1).tdiv 2=q:=⟨_,rfl⟩
     rw [e5] at m1 m2 m3 m4
     obtain⟨M,hM⟩:∃q,qa+qb+u=q:=⟨_,rfl⟩
     rw [hM] at m1 m2
     have r1:-1≤ra∧ra≤1:=by omega
     have r2:-1≤rb∧rb≤1:=by omega
     have q1:-4609434218613702656≤qa∧qa≤4609434218613702656:=by omega
     have q2:-4609434218613702656≤qb∧qb≤4609434218613702656:=by omega
     have HM:¬M≤lo:=by omega
     have hMb:-9218868437227405311≤M∧M≤9218868437227405311:=by omega
     have HG:Hid (hi-lo<(gk:Int)):=bG
     clear t1 t2 t3 t4 t5 t6 bG
     go_upto_region 7 with fail
     obtain⟨k1,k2,k3⟩:=ofKey_facts hMb
     have ca:=fun w=>at_w M (by omega) (by omega) w
     have cf:=fun w=>float_z (ofKey M) k1 k2 w
     rw [k3] at cf
     generalize ofKey M=F at *
     replace Y:=Y.drew
     replace HB:=HB.drew
     go_region_held3 (fun w'=>w'.cell? ⟨w.heap.size,0,none⟩=some (.bool ga)∧w'.cell? ⟨w.heap.size,1,none⟩=some (.slice ao la ca')∧w'.cell? ⟨w.heap.size,2,none⟩=some (.int .i64 ea)∧w'.cell? ⟨w.heap.size,3,none⟩=some (.bool gb)∧w'.cell? ⟨w.heap.size,4,none⟩=some (.slice bo lb cb)∧w'.cell? ⟨w.heap.size,5,none⟩=some (.int .i64 eb)∧w'.cell? ⟨w.heap.size,6,none⟩=some (.bool root)) (first | exact⟨Y.1,Y.2.1,Y.2.2.1,Y.2.2.2.1,Y.2.2.2.2.1,Y.2.2.2.2.2.1,Y.2.2.2.2.2.2.1⟩ | go_keep)
       (first
         | (go_at_call 88;refine (ca _).mono ?_;rintro _ _ ⟨rfl,rfl⟩)
         | (go_at_call 71;refine (cf _).mono ?_;rintro _ w2 ⟨⟨v,rfl,hv⟩,hb1⟩;replace Y:=Y.keep hb1;replace HB:=later HB hb1;clear hb1)
         | (go_at_call 113;refine (below_x hv.halves (hx.keep HB)).mono ?_;rintro _ w3 ⟨⟨b,rfl,hbt⟩,hb1⟩;replace Y:=Y.keep hb1;replace HB:=later HB hb1;clear hb1))
     all_goals
       have HT:Hid _:=hbt
       clear hbt
       have hG:=HG.out
       cases b
       · go_wp2_with fail
         go_roundg (gk-1)
         case measure=>omega
         case rel=>exact⟨HB,Y,lo,M-1,rfl,by go_num,b1,by omega,by omega,by omega,low,Or.inr (by rw [Int.sub_add_cancel];have:=HT.out;simpa using this)⟩
       · go_wp2_with fail
         go_roundg (gk-1)
         case measure=>omega
         case rel=>exact⟨HB,Y,M,hi,rfl,rfl,by omega,b2,m2,by omega,Or.inr (by have:=HT.out;simpa using this),up⟩
   · have:lo=hi:=by omega
     subst this
     have hk:KDown X lo:=⟨b1,b2,low.out,up.out⟩
     go_wp2_with fail
     go_ret
     exact⟨⟨_,rfl,hk⟩,HB⟩
theorem NumZ.put {S T:Int} {K:Nat} {w:World} {x:Value} {z:Int} (h:NumZ S T K w x z) {b:Nat} (hb:Boxed w b) (o:Nat) (y:Value):NumZ S T K (w.setCell ⟨b,o,none⟩ y) x z:=by
 obtain⟨g,v,m,e,h1,h2,h3⟩:=h
 exact⟨g,v,m,e,h1,h2.put hb o y,h3⟩
theorem val_top {u:Nat} (hu:u=2046):val 9218868437227405312=2^(52+u):=by
 unfold val
 rw [if_neg (by omega),show 9218868437227405312/4503599627370496-1=2046 from rfl,←hu,show 4503599627370496+9218868437227405312%4503599627370496=2^52 from rfl,←Nat.pow_add]
theorem V_top {t:Nat} (ht:t=2098):V 9218868437227405312=((2^t:Nat):Int):=by
 obtain⟨u,hu⟩:∃u:Nat,u=2046:=⟨_,rfl⟩
 have h:=V_nat 9218868437227405312
 rw [show ((9218868437227405312:Nat):Int)=9218868437227405312 from rfl,val_top hu] at h
 rw [h,show t=52+u by omega]
theorem V_bot {t:Nat} (ht:t=2098):V (-9218868437227405312)=-((2^t:Nat):Int):=by
 rw [V_neg,V_top ht]
set_option maxHeartbeats 1000000 in
theorem grid_z (i:Int) (h:-9218868437227405312≤i∧i≤9218868437227405312) (w:World) :
   Calls Tryz.prog 112 #[.int .i64 i] w fun r w'=>(∃v,r=.returned v∧NumZ (-1074) 1024 53 w' v (V i))∧Below w.heap.size w w':=by
 have co:=fun w=>of_w 1 (by omega) w
 by_cases h1:9218868437227405311<i
 · have:i=9218868437227405312:=by omega
   subst this
   obtain⟨t,ht⟩:∃t:Nat,t=2098:=⟨_,rfl⟩
   have hV:=V_top ht
   generalize V 9218868437227405312=Z at *
   have HV:Hid _:=hV
   have HT:Hid (t=2098):=ht
   clear hV h1 ht
   go_enter Tryz.func112,Tryz.ntmps112
   go_wp2_with
    (go_at_call 92;refine (co _).mono ?_;rintro _ w6 ⟨⟨v3,rfl,hv3⟩,hb6⟩
     obtain⟨o3,l3,p3,rfl, -⟩:=hv3.shape
     have R:Has3 w6 w.heap.size (.bool false) (.slice none 0 0) (.int .i64 0):=Has3.keep ⟨by go_simp,by go_simp,by go_simp,by go_simp,by go_simp,by go_simp,by go_size⟩ hb6
     have B:=(Boxed.new w #[.bool false,.slice none 0 0,.int .i64 0]).keep hb6
     have HB:Below w.heap.size w w6:=later (by go_grown) hb6
     obtain⟨z0,z1,z2,z3,z4,z5,z6⟩:=R)
   refine bodyPost_ret (v:=.agg #[.bool false,.slice o3 l3 p3,.int .i64 1024]) (by simp [results,Tryz.results112,go_sem, *]) rfl ⟨⟨_,rfl,false,_,1,1024,rfl, ?_,by omega,by omega,by omega, ?_⟩, ?_⟩
   rotate_left
   · rw [HV.out,Nat.one_mul,show (1024 - -1074:Int).toNat=t by rw [HT.out];rfl];rfl
   all_goals repeat' (first | (with_reducible exact hv3) | (with_reducible exact HB) | (with_reducible exact B) | (with_reducible refine BigIs.put ?_ ?_ _ _) | (with_reducible refine Boxed.set ?_ _ _ _) | (with_reducible refine Below.setCell ?_ ?_ _) | go_size)
 · by_cases h2:i < -9218868437227405311
   · have:i=-9218868437227405312:=by omega
     subst this
     obtain⟨t,ht⟩:∃t:Nat,t=2098:=⟨_,rfl⟩
     have hV:=V_bot ht
     generalize V (-9218868437227405312)=Z at *
     have HV:Hid _:=hV
     have HT:Hid (t=2098):=ht
     clear hV h1 h2 ht
     go_enter Tryz.func112,Tryz.ntmps112
     go_wp2_with
      (go_at_call 92;refine (co _).mono ?_;rintro _ w6 ⟨⟨v3,rfl,hv3⟩,hb6⟩
       obtain⟨o3,l3,p3,rfl, -⟩:=hv3.shape
       have R:Has3 w6 w.heap.size (.bool false) (.slice none 0 0) (.int .i64 0):=Has3.keep ⟨by go_simp,by go_simp,by go_simp,by go_simp,by go_simp,by go_simp,by go_size⟩ hb6
       have B:=(Boxed.new w #[.bool false,.slice none 0 0,.int .i64 0]).keep hb6
       have HB:Below w.heap.size w w6:=later (by go_grown) hb6
       obtain⟨z0,z1,z2,z3,z4,z5,z6⟩:=R)
     refine bodyPost_ret (v:=.agg #[.bool true,.slice o3 l3 p3,.int .i64 1024]) (by simp [results,Tryz.results112,go_sem, *]) rfl ⟨⟨_,rfl,true,_,1,1024,rfl, ?_,by omega,by omega,by omega, ?_⟩, ?_⟩
     rotate_left
     · rw [HV.out,Nat.one_mul,show (1024 - -1074:Int).toNat=t by rw [HT.out];rfl];rfl
     all_goals repeat' (first | (with_reducible exact hv3) | (with_reducible exact HB) | (with_reducible exact B) | (with_reducible refine BigIs.put ?_ ?_ _ _) | (with_reducible refine Boxed.set ?_ _ _ _) | (with_reducible refine Below.setCell ?_ ?_ _) | go_size)
   · obtain⟨k1,k2,k3⟩:=ofKey_facts (M:=i) (by omega)
     have ca:=fun w=>at_w i (by omega) (by omega) w
     have cf:=fun w=>float_z (ofKey i) k1 k2 w
     rw [k3] at cf
     generalize ofKey i=F at *
     go_enter Tryz.func112,Tryz.ntmps112
     go_wp2_with (first
       | (go_at_call 88;refine (ca _).mono ?_;rintro _ _ ⟨rfl,rfl⟩)
       | (go_at_call 71;refine (cf _).mono ?_;rintro _ w6 ⟨⟨v3,rfl,hv3⟩,hb6⟩
          obtain⟨g3,o3,l3,p3,e3,rfl⟩:=hv3.shape
          have R:Has3 w6 w.heap.size (.bool false) (.slice none 0 0) (.int .i64 0):=Has3.keep ⟨by go_simp,by go_simp,by go_simp,by go_simp,by go_simp,by go_simp,by go_size⟩ hb6
          have B:=(Boxed.new w #[.bool false,.slice none 0 0,.int .i64 0]).keep hb6
          have HB:Below w.heap.size w w6:=later (by go_grown) hb6
          obtain⟨z0,z1,z2,z3,z4,z5,z6⟩:=R))
     refine bodyPost_ret (v:=.agg #[.bool g3,.slice o3 l3 p3,.int .i64 e3]) (by simp [results,Tryz.results112,go_sem, *]) rfl ⟨⟨_,rfl, ?_⟩, ?_⟩
     · refine NumZ.wide ?_ (by omega) (Nat.le_refl 53) (T:=971)
       repeat' (first | (with_reducible exact hv3) | (with_reducible exact B) | (with_reducible refine NumZ.put ?_ ?_ _ _) | (with_reducible refine Boxed.set ?_ _ _ _))
     · repeat' (first | (with_reducible exact HB) | (with_reducible refine Below.setCell ?_ ?_ _) | go_size)
end Go.Proofs.YtdokikhhlmelkaaGreat
