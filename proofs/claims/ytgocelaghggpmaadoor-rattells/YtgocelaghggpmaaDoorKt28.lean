/- The least interval of a quotient (rat.Hold): what its ends are. -/
import Derived.Test.YtgocelaghggpmaaDoorKt24
import Derived.Test.YtgocelaghggpmaaDoorKt27
import Derived.Test.YtgocelaghggpmaaDoorKt25
namespace Go.Proofs.YtgocelaghggpmaaDoor
open Go.ChangeShapes Go.WideShapes Go.ChangeAt Go.RowKit
theorem parts_math {tp d mo qh ql rs:Nat} (hd:0<d) (hq:tp*18446744073709551616=(qh*18446744073709551616+ql)*d+rs) (hr:rs<d) (hm:mo<64) :
   qh*2^mo+ql/2^(64-mo)=tp*2^mo/d∧((ql*2^mo%18446744073709551616=0∧rs=0)↔tp*2^mo%d=0):=by
 obtain⟨k,hk⟩:∃k,k=64-mo:=⟨_,rfl⟩
 have e64:2^k*2^mo=18446744073709551616:=by rw [←Nat.pow_add,hk,show 64-mo+mo=64 by omega]
 rw [←hk]
 have pk:=Nat.two_pow_pos k
 have pm:=Nat.two_pow_pos mo
 have s1:=Nat.div_add_mod ql (2^k)
 have s2:=Nat.mod_lt ql pk
 have e1:ql*2^mo%18446744073709551616=ql%2^k*2^mo:=by rw [←e64,Nat.mul_mod_mul_right]
 rw [e1]
 generalize ql/2^k=s at *
 generalize ql%2^k=t at *
 generalize 2^mo=c at *
 generalize 2^k=b at *
 have key:tp*c*b=(qh*c+s)*d*b+(t*d+rs):=by
   have:tp*(b*c)=(qh*(b*c)+(b*s+t))*d+rs:=by rw [e64,s1];exact hq
   grind
 have lt:t*d+rs<d*b:=by
   have:=Nat.mul_le_mul_right d (show t+1≤b by omega)
   rw [Nat.add_mul,Nat.one_mul] at this
   rw [Nat.mul_comm d b]
   omega
 have k2:(qh*c+s)*d≤tp*c:=by
   refine Nat.le_of_mul_le_mul_right (c:=b) ?_ pk
   omega
 obtain⟨z,hz⟩:∃z,tp*c=(qh*c+s)*d+z:=⟨tp*c-(qh*c+s)*d,by omega⟩
 have hzb:z*b=t*d+rs:=by
   rw [hz,Nat.add_mul] at key
   omega
 have hzd:z<d:=by
   refine Nat.lt_of_mul_lt_mul_right (a:=b) ?_
   rw [hzb];exact lt
 have q1:tp*c/d=qh*c+s:=by
   rw [hz,Nat.add_comm,Nat.add_mul_div_right _ _ hd,Nat.div_eq_of_lt hzd,Nat.zero_add]
 have q2:tp*c%d=z:=by
   rw [hz,Nat.add_comm,Nat.add_mul_mod_self_right,Nat.mod_eq_of_lt hzd]
 refine⟨q1.symm, ?_⟩
 rw [q2]
 constructor
 · rintro ⟨h1,h2⟩
   have ht:t=0:=by
     rcases Nat.mul_eq_zero.1 h1 with h | h
     · exact h
     · omega
   rw [ht,h2,Nat.zero_mul] at hzb
   rcases Nat.mul_eq_zero.1 hzb with h | h
   · exact h
   · omega
 · rintro rfl
   rw [Nat.zero_mul] at hzb
   have h1:t*d=0:=by omega
   have h2:rs=0:=by omega
   rcases Nat.mul_eq_zero.1 h1 with h | h
   · rw [h,Nat.zero_mul];exact⟨rfl,h2⟩
   · omega
def parS (n d:Nat):Nat:=shiftN (topN n/d)
def parM (n d:Nat):Nat:=markN (topN n*2^parS n d/d) (decide (topN n*2^parS n d%d≠0))
def parE (n d:Nat):Int:=-((shiftN n:Nat):Int)-((parS n d:Nat):Int)
theorem shift_63 (m:Nat):shiftN m≤63:=by unfold shiftN;omega
theorem par_big {n d:Nat} (hn:n≠0) (hn2:n<9223372036854775808) (hd:0<d) (hd2:d<9223372036854775808):9223372036854775808≤topN n*2^parS n d/d∧topN n*2^parS n d/d<18446744073709551616:=by
 obtain⟨t1,t2⟩:=topN_bounds hn (by omega)
 have q0:topN n/d≠0:=by
   have:=Nat.div_pos (show d≤topN n by omega) hd
   omega
 have q1:topN n/d<18446744073709551616:=Nat.lt_of_le_of_lt (Nat.div_le_self _ _) t2
 obtain⟨b1,b2⟩:=topN_bounds q0 q1
 have e:topN (topN n/d)=topN n/d*2^parS n d:=rfl
 rw [e] at b1 b2
 unfold parS at *
 obtain⟨k,hk⟩:∃k,k=shiftN (topN n/d):=⟨_,rfl⟩
 rw [←hk] at b1 b2 ⊢
 have k63:k≤63:=by rw [hk];exact shift_63 _
 clear hk e
 have h1:=Nat.div_add_mod (topN n) d
 have h2:=Nat.mod_lt (topN n) hd
 generalize topN n=T at *
 generalize T/d=q at *
 generalize T%d=r at *
 have l1:q*2^k≤T*2^k/d:=by
   refine (Nat.le_div_iff_mul_le hd).2 ?_
   have:=Nat.mul_le_mul_right (2^k) (show q*d≤T by rw [Nat.mul_comm];omega)
   rw [Nat.mul_right_comm]
   exact this
 refine⟨Nat.le_trans b1 l1, ?_⟩
 refine (Nat.div_lt_iff_lt_mul hd).2 ?_
 have l2:T<(q+1)*d:=by rw [Nat.add_mul,Nat.one_mul,Nat.mul_comm q d];omega
 have l3:=Nat.mul_lt_mul_of_pos_right l2 (Nat.two_pow_pos k)
 have l4:(q+1)*2^k≤18446744073709551616:=by
   have e:(18446744073709551616:Nat)=2^(64-k)*2^k:=by rw [←Nat.pow_add,show 64-k+k=64 by omega]
   rw [e] at b2 ⊢
   refine Nat.mul_le_mul_right _ ?_
   exact Nat.lt_of_mul_lt_mul_right b2
 have l5:=Nat.mul_le_mul_right d l4
 rw [Nat.mul_right_comm] at l3
 omega
theorem par_lt {n d:Nat} (hn:n≠0) (hn2:n<9223372036854775808) (hd:0<d) (hd2:d<9223372036854775808):parM n d<18446744073709551616:=by
 have:=(par_big hn hn2 hd hd2).2
 unfold parM markN
 split <;> omega
theorem big_cast {X:Nat} (h:X<340282366920938463463374607431768211456):(X:Int)<340282366920938463463374607431768211456:=by omega
theorem parts_w (N D:Int) (hN:I64 N) (hD:I64 D) (nN:N≠-9223372036854775808) (dD:1≤D) (w:World) :
   Calls Tryd.prog 37 #[.agg #[.int .i64 N,.int .i64 D]] w fun r w'=>r=.returned (.agg #[.bool (decide (N<0)),.int .u64 ((if N=0 then 0 else parM N.natAbs D.natAbs:Nat):Int),.int .i64 (if N=0 then 0 else parE N.natAbs D.natAbs)])∧Below w.heap.size w w':=by
 obtain⟨a1,a2⟩:=hN
 obtain⟨b1,b2⟩:=hD
 by_cases c:N=0
 · subst c
   exact parts_zero D w (fun W=>ramount_w 0 (by decide) (by decide) W)
 · rw [if_neg c,if_neg c]
   have hn0:N.natAbs≠0:=by omega
   have hn2:N.natAbs<9223372036854775808:=by omega
   have hd0:0<D.natAbs:=by omega
   have hd2:D.natAbs<9223372036854775808:=by omega
   obtain⟨t1,t2⟩:=topN_bounds hn0 (by omega)
   have bg:=par_big hn0 hn2 hd0 hd2
   have c1:=fun W=>ramount_w N a1 a2 W
   have c2:=fun W=>ramount_w D b1 b2 W
   have c3:=fun W=>lz_w N.natAbs hn0 (by omega) W
   have f1:IntKind.u64.wrap ((N.natAbs:Int)*2^shiftN N.natAbs)=((topN N.natAbs:Nat):Int):=by
     have e1:(N.natAbs:Int)*2^shiftN N.natAbs=((topN N.natAbs:Nat):Int):=by unfold topN;simp
     rw [e1,IntKind.wrap_u64];omega
   have hE:parE N.natAbs D.natAbs=-((shiftN N.natAbs:Nat):Int)-((parS N.natAbs D.natAbs:Nat):Int):=rfl
   have s1:=shift_63 N.natAbs
   have s2:parS N.natAbs D.natAbs≤63:=shift_63 _
   have hM:parM N.natAbs D.natAbs=markN (topN N.natAbs*2^parS N.natAbs D.natAbs/D.natAbs) (decide (topN N.natAbs*2^parS N.natAbs D.natAbs%D.natAbs≠0)):=rfl
   have hS:parS N.natAbs D.natAbs=shiftN (topN N.natAbs/D.natAbs):=rfl
   have hz:shiftN N.natAbs=63-N.natAbs.log2:=rfl
   rw [←hz] at c3
   clear hz
   generalize parE N.natAbs D.natAbs=E at *
   generalize parM N.natAbs D.natAbs=M at *
   generalize parS N.natAbs D.natAbs=mo at *
   generalize topN N.natAbs=tp at *
   generalize shiftN N.natAbs=up at *
   generalize N.natAbs=n at *
   generalize D.natAbs=d at *
   obtain⟨qh,ql,Q⟩:=sg_ex (((tp*18446744073709551616+0)/d:Nat):Int)
   have c4:=fun W=>wby_w tp 0 d qh ql t2 (by decide) hd0 (by omega) Q W
   have q0:(tp*18446744073709551616+0)/d<340282366920938463463374607431768211456:=Nat.lt_of_le_of_lt (Nat.div_le_self _ _) (by omega)
   have Qn:=Q.nat (Int.natCast_nonneg _) (big_cast q0)
   have Qn':qh*18446744073709551616+ql=(tp*18446744073709551616+0)/d:=Int.ofNat.inj Qn
   obtain⟨k1,k2, -⟩:=Q
   have dm:=Nat.div_add_mod (tp*18446744073709551616+0) d
   have dl:=Nat.mod_lt (tp*18446744073709551616+0) hd0
   rw [←Qn'] at dm
   have hqh:qh=tp/d:=by
     have e1:(qh*18446744073709551616+ql)/18446744073709551616=qh:=by omega
     rw [Qn',Nat.add_zero,Nat.div_div_eq_div_mul,Nat.mul_comm d,←Nat.div_div_eq_div_mul,Nat.mul_div_cancel _ (by decide)] at e1
     exact e1.symm
   generalize (tp*18446744073709551616+0)%d=rs at *
   obtain⟨p1,p2⟩:=parts_math (mo:=mo) hd0 (show tp*18446744073709551616=(qh*18446744073709551616+ql)*d+rs by rw [Nat.mul_comm _ d];exact (dm.trans (Nat.add_zero _)).symm) dl (by omega)
   have qz:qh≠0:=by
     rw [hqh]
     have:=Nat.div_pos (show d≤tp by omega) hd0
     omega
   have c5:=fun W=>lz_w qh qz k1 W
   have hz:mo=63-qh.log2:=by rw [hS,hqh];rfl
   rw [←hz] at c5
   have tb:=topN_bounds qz k1
   have te:topN qh=qh*2^mo:=by unfold topN;rw [show shiftN qh=mo by rw [hS,hqh]]
   rw [te] at tb
   have lo:ql/2^(64-mo)<2^mo:=by
     refine (Nat.div_lt_iff_lt_mul (Nat.two_pow_pos _)).2 ?_
     rw [←Nat.pow_add,show mo+(64-mo)=64 by omega]
     exact k2
   have or1:qh*2^mo ||| ql/2^(64-mo)=qh*2^mo+ql/2^(64-mo):=by
     have:=Nat.two_pow_add_eq_or_of_lt lo qh
     rw [Nat.mul_comm (2^mo) qh] at this
     exact this.symm
   have or2:=u64_or_nat (qh*2^mo) (ql/2^(64-mo)) tb.2 (by omega)
   rw [or1,p1] at or2
   refine parts_core N D E n d up tp qh ql rs mo (qh*2^mo) (ql/2^(64-mo)) (tp*2^mo/d) (ql*2^mo%18446744073709551616) M (decide (N<0)) c1 c2 c3 c4 c5 (by simpa using hn0) (by omega) (by omega) f1 ?_ ?_ or2 ?_ ?_ hE rfl w
   · rw [IntKind.wrap_u64]
     have e1:(qh:Int)*2^mo=((qh*2^mo:Nat):Int):=by simp
     rw [e1];omega
   · have:((2:Int)^(64-mo))=((2^(64-mo):Nat):Int):=by simp
     rw [this,←Int.natCast_ediv]
   · rw [IntKind.wrap_u64]
     have e1:(ql:Int)*2^mo=((ql*2^mo:Nat):Int):=by simp
     rw [e1];omega
   · show (_∧_∧_)∨(_∧_)
     by_cases z:tp*2^mo%d=0
     · obtain⟨z1,z2⟩:=p2.2 z
       refine Or.inl ⟨z1,z2, ?_⟩
       rw [hM,z];rfl
     · refine Or.inr ⟨fun q=>z (p2.1 q), ?_⟩
       rw [show (1:Int)=((1:Nat):Int) from rfl,u64_or_nat _ 1 bg.2 (by decide),or_one,hM,decide_eq_true z]
       rfl
end Go.Proofs.YtgocelaghggpmaaDoor
