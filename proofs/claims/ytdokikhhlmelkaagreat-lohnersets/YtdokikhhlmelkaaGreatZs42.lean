/- What is left of a bounded interval beside its middle is bounded. Rows of floats that may be written, whatever they hold; Go's own operators always answer a float. -/
import Derived.Test.YtdokikhhlmelkaaGreatZs39
import Derived.Test.YtdokikhhlmelkaaGreatZs07
import Derived.Test.YtdokikhhlmelkaaGreatZs34
import Derived.Laws.CopyOwn
namespace Go.Proofs.YtdokikhhlmelkaaGreat
open Go.ChangeShapes Go.WideShapes Go.ChangeAt Go.RowKit
theorem val_small {r:Nat} (h:r≤9007199254740992):val r=r:=by
 have q:=val_grid (u:=0) (k:=r) h (Or.inl rfl)
 simpa using q
theorem half_even (r:Nat) (h:9007199254740992≤r):∃k,k≤r∧val r=2*val k:=by
 obtain⟨u,k,hk1,hk2,e⟩:∃u k,4503599627370496≤k∧k≤9007199254740992∧r=(u+1)*4503599627370496+k:=⟨r/4503599627370496-2,4503599627370496+r%4503599627370496,by omega,by omega,by omega⟩
 refine⟨u*4503599627370496+k,by omega, ?_⟩
 rw [e,val_grid hk2 (Or.inr hk1),val_grid hk2 (Or.inr hk1),Nat.pow_succ]
 generalize 2^u=p
 rw [Nat.mul_comm p 2,Nat.mul_left_comm]
theorem half_floor (r:Nat):∃k,k≤r∧2*val k≤val r∧val r≤2*val k+1:=by
 by_cases h:r<9007199254740992
 · refine⟨r/2,by omega, ?_⟩
   rw [val_small (show r/2≤_ by omega),val_small (show r≤_ by omega)]
   omega
 · obtain⟨k,h1,h2⟩:=half_even r (by omega)
   exact⟨k,h1,by omega,by omega⟩
theorem half_ceil (r:Nat):∃k,k≤r∧val r≤2*val k∧2*val k≤val r+1:=by
 by_cases h:r<9007199254740992
 · refine⟨(r+1)/2,by omega, ?_⟩
   rw [val_small (show (r+1)/2≤_ by omega),val_small (show r≤_ by omega)]
   omega
 · obtain⟨k,h1,h2⟩:=half_even r (by omega)
   exact⟨k,h1,by omega,by omega⟩
theorem half_floorV (i:Int):∃f:Int,2*V f≤V i∧V i≤2*V f+1∧(f≤i∨f≤0):=by
 rcases Int.lt_or_le i 0 with h | h
 · obtain⟨r,hr⟩:=Int.eq_ofNat_of_zero_le (show 0≤-i by omega)
   have e:i=-(r:Int):=by omega
   subst e
   obtain⟨k,h1,h2,h3⟩:=half_ceil r
   refine⟨-(k:Int), ?_, ?_,Or.inr (by omega)⟩
   · rw [V_negnat,V_negnat];omega
   · rw [V_negnat,V_negnat];omega
 · obtain⟨r,rfl⟩:=Int.eq_ofNat_of_zero_le h
   obtain⟨k,h1,h2,h3⟩:=half_floor r
   refine⟨(k:Int), ?_, ?_,Or.inl (by omega)⟩
   · rw [V_nat,V_nat];omega
   · rw [V_nat,V_nat];omega
theorem two_val {u:Nat} (hu:u=1075):V (key 4611686018427387904)=((2^u:Nat):Int):=by
 have k:key 4611686018427387904=((4611686018427387904:Nat):Int):=by decide
 rw [k,V_nat]
 obtain⟨t,ht⟩:∃t:Nat,t=1023:=⟨_,rfl⟩
 have e:4611686018427387904=t*4503599627370496+4503599627370496:=by omega
 rw [e,val_grid (by omega) (Or.inr (by omega)),show 4503599627370496=2^52 from rfl,←Nat.pow_add,show 52+t=u by omega]
theorem half_near_down {a:Nat} (ha:a<18446744073709551616) (fa:finB a=true):V (key a)-1≤2*V (key (divF a 4611686018427387904 (-1))):=by
 obtain⟨u,hu⟩:∃u:Nat,u=1075:=⟨_,rfl⟩
 have h:=div_pos_down hu ha (b:=4611686018427387904) (by omega) fa (by decide) (by decide)
 have ev:=two_val hu
 have hp:0<2^u:=Nat.two_pow_pos u
 have g:=fin_key ha fa
 clear hu
 rw [ev] at h
 generalize 2^u=p at *
 generalize key (divF a 4611686018427387904 (-1))=D at *
 obtain⟨f,f1,f2,f3⟩:=half_floorV (key a)
 rcases Int.lt_or_le (2*V D) (V (key a)-1) with c | c
 · exfalso
   have lt:D<f:=by
     rcases Int.lt_or_le D f with q | q
     · exact q
     · have:=V_mono_le q;omega
   rcases h.up with q | q
   · have:=h.top;omega
   · refine q ?_
     have:=V_mono_le (show D+1≤f by omega)
     show 2*V (D+1)*((((p:Int)).toNat:Nat):Int)≤V (key a)*(p:Int)
     rw [Int.toNat_natCast]
     exact Int.mul_le_mul_of_nonneg_right (by omega) (by omega)
 · exact c
theorem half_near {a:Nat} (ha:a<18446744073709551616) (fa:finB a=true):V (key a)-1≤2*V (key (halfF a))∧2*V (key (halfF a))≤V (key a)+1:=by
 have s:=div_sides (a:=a) (b:=4611686018427387904) ha (by omega) fa (by decide) (by decide)
 have u:=half_up ha fa
 have d:=half_near_down ha fa
 have e:=half_near_down (negB_lt ha) (by rw [finB_negB ha];exact fa)
 rw [key_negB ha,V_neg] at e
 have s1:=V_mono_le s.1.le
 have s2:=V_mono_le s.2.1.le
 have u1:=congrArg V u
 rw [V_neg] at u1
 unfold halfF
 omega
theorem sum_upto {x y:Nat} (hx:x<18446744073709551616) (hy:y<18446744073709551616) (fx:finB x=true) (fy:finB y=true) (k:Int) (k1:-9218868437227405311≤k) (h:V (key x)+V (key y)≤V k):key (addF x y 1)≤k:=by
 have m:=add_mirror (negB_lt hx) (negB_lt hy)
 rw [negB_negB hx,negB_negB hy] at m
 have d:=addF_down (negB_lt hx) (negB_lt hy) (by rw [finB_negB hx];exact fx) (by rw [finB_negB hy];exact fy)
 rw [key_negB hx,key_negB hy,V_neg,V_neg] at d
 generalize key (addF (negB x) (negB y) (-1))=l at *
 rw [m]
 rcases Int.lt_or_le l (-k) with c | c
 · exfalso
   rcases d.up with q | q
   · omega
   · refine q ?_
     have v:=V_mono_le (show l+1≤-k by omega)
     rw [V_neg] at v
     show 2*V (l+1)*((1:Nat):Int)≤2*(-V (key x)+-V (key y))
     omega
 · omega
theorem sum_over {x y:Nat} (hx:x<18446744073709551616) (hy:y<18446744073709551616) (fx:finB x=true) (fy:finB y=true):-9218868437227405311≤key (addF x y 1)∧(key (addF x y 1)=9218868437227405312∨V (key x)+V (key y)≤V (key (addF x y 1))):=by
 have m:=add_mirror (negB_lt hx) (negB_lt hy)
 rw [negB_negB hx,negB_negB hy] at m
 have d:=addF_down (negB_lt hx) (negB_lt hy) (by rw [finB_negB hx];exact fx) (by rw [finB_negB hy];exact fy)
 rw [key_negB hx,key_negB hy,V_neg,V_neg] at d
 generalize key (addF (negB x) (negB y) (-1))=l at *
 rw [m]
 have t:=d.top
 refine⟨by omega, ?_⟩
 rcases d.low with q | q
 · left;omega
 · right
   have q:2*V l*((1:Nat):Int)≤2*(-V (key x)+-V (key y)):=q
   rw [V_neg]
   omega
theorem pow_place (d:Nat) (h:1≤d):∃k,val k≤d∧d+1≤2*val k:=by
 have h1:=Nat.log2_self_le (show d≠0 by omega)
 have h2:=Nat.lt_log2_self (n:=d)
 generalize d.log2=j at *
 have e:∃k,val k=2^j:=by
   rcases Nat.lt_or_ge j 52 with c | c
   · refine⟨2^j,val_small ?_⟩
     have:=Nat.pow_le_pow_right (show 0<2 by omega) (show j≤52 by omega)
     omega
   · refine⟨(j-52)*4503599627370496+4503599627370496, ?_⟩
     rw [val_grid (by omega) (Or.inr (by omega)),show 4503599627370496=2^52 from rfl,←Nat.pow_add,show 52+(j-52)=j by omega]
 obtain⟨k,e⟩:=e
 rw [Nat.pow_succ] at h2
 exact⟨k,by omega,by omega⟩
theorem top_half:V 9218868437227405311=2*V 9214364837600034815:=by
 obtain⟨t,ht⟩:∃t:Nat,t=2044:=⟨_,rfl⟩
 rw [show (9218868437227405311:Int)=((9218868437227405311:Nat):Int) from rfl,show (9214364837600034815:Int)=((9214364837600034815:Nat):Int) from rfl,V_nat,V_nat]
 have e1:9218868437227405311=(t+1)*4503599627370496+9007199254740991:=by omega
 have e2:9214364837600034815=t*4503599627370496+9007199254740991:=by omega
 rw [e1,e2,val_grid (by omega) (Or.inr (by omega)),val_grid (by omega) (Or.inr (by omega)),Nat.pow_succ]
 generalize 2^t=p
 omega
theorem room_up {x y:Nat} (hx:x<18446744073709551616) (hy:y<18446744073709551616) (fx:finB x=true) (fy:finB y=true) (A M:Int) (a1:A≤2*M) (h1:2*V (key x)≤1-A) (h2:V (key y)≤M):V (key (addF x y 1))≤2*M-A:=by
 by_cases c:A=2*M
 · have q:=sum_upto hx hy fx fy 0 (by omega) (by rw [V_zero];omega)
   have:=V_npos q
   omega
 · obtain⟨d,hd⟩:=Int.eq_ofNat_of_zero_le (show 0≤2*M-A by omega)
   obtain⟨k,e1,e2⟩:=pow_place d (by omega)
   have vk:=V_nat k
   have q:=sum_upto hx hy fx fy (k:Int) (by omega) (by omega)
   have:=V_mono_le q
   omega
theorem mid_pure {kl kh km kM kd ku T:Int} (tl:-T≤V kl) (th:V kh≤T) (mlo:kl≤km) (mhi:km≤kh) (hm:km=if kM<kl then kl else if kh<kM then kh else kM) (sd1:kd≤kM) (sd2:kM≤ku) (r1:V kl<0→V ku≤T+V kl) (r2:0<V kh→V kh-T≤V kd):-T≤V kl-V km∧V kh-V km≤T:=by
 have v1:=V_mono_le mlo
 have v2:=V_mono_le mhi
 constructor
 · by_cases c1:0≤V kl
   · omega
   by_cases c2:V km≤0
   · omega
   have mM:km≤kM:=by
     rw [hm] at c2 ⊢
     split
     · next q=>rw [if_pos q] at c2;omega
     · split <;> omega
   have a:=V_mono_le (Int.le_trans mM sd2)
   have r:=r1 (by omega)
   omega
 · by_cases c1:V kh≤0
   · omega
   by_cases c2:0≤V km
   · omega
   have mM:kM≤km:=by
     rw [hm] at c2 ⊢
     split
     · omega
     · next q =>
       split
       · next q2=>rw [if_neg q,if_pos q2] at c2;omega
       · omega
   have a:=V_mono_le (Int.le_trans sd1 mM)
   have r:=r2 (by omega)
   omega
theorem sum_turned {x y:Nat} (hx:x<18446744073709551616) (hy:y<18446744073709551616) (fx:finB x=true) (fy:finB y=true):key (addF x y 1)≤key (addF y x 1):=by
 have w:=sum_over hy hx fy fx
 rcases w.2 with w2 | w2
 · have f:=(addF_facts x y 1)
   have:=key_range f.2.2 f.1
   omega
 · exact sum_upto hx hy fx fy _ w.1 (by omega)
theorem mid_room {lo hi:Nat} (hl:lo<18446744073709551616) (hh:hi<18446744073709551616) (fl:finB lo=true) (fh:finB hi=true) (hle:key lo≤key hi) (m:Int) (hm:m=if key (addF (halfF lo) (halfF hi) 0)<key lo then key lo else if key hi<key (addF (halfF lo) (halfF hi) 0) then key hi else key (addF (halfF lo) (halfF hi) 0)) :
   -V 9218868437227405311≤V (key lo)-V m∧V (key hi)-V m≤V 9218868437227405311:=by
 have g1:=fin_key hl fl
 have g2:=fin_key hh fh
 have tl:=V_mono_le g1.1
 have th:=V_mono_le g2.2
 have tl2:=V_mono_le g1.2
 have th2:=V_mono_le g2.1
 rw [show (-9218868437227405311:Int)=-(9218868437227405311:Int) from rfl,V_neg] at tl th2
 have TH:=top_half
 have n1:=half_near hl fl
 have n2:=half_near hh fh
 obtain⟨-,p1,p2⟩:=half_facts hl fl
 obtain⟨-,q1,q2⟩:=half_facts hh fh
 have mir:=add_mirror p1 q1
 have s:=addR_sides p1 q1
 rw [addR_fin (-1) p2 q2,addR_fin 0 p2 q2,addR_fin 1 p2 q2] at s
 generalize halfF lo=x at *
 generalize halfF hi=y at *
 have sd:key (addF x y (-1))≤key (addF x y 0)∧key (addF x y 0)≤key (addF x y 1):=by
   rcases s with ⟨q, -⟩ | ⟨d,n,u,e1,e2,e3,ok⟩
   · cases q
   · have e1:=Option.some.inj e1
     have e2:=Option.some.inj e2
     have e3:=Option.some.inj e3
     rw [e1,e2,e3]
     exact⟨ok.2.2.2.1,ok.2.2.2.2.1⟩
 clear s
 have nx:finB (negB x)=true:=by rw [finB_negB p1];exact p2
 have ny:finB (negB y)=true:=by rw [finB_negB q1];exact q2
 have r1:=fun (A:Int) a b c=>room_up p1 q1 p2 q2 A (V 9214364837600034815) a b c
 have r2:=fun (A:Int) a b c=>room_up (negB_lt q1) (negB_lt p1) ny nx A (V 9214364837600034815) a b c
 have cm:=V_mono_le (sum_turned (negB_lt p1) (negB_lt q1) nx ny)
 rw [mir,V_neg] at cm
 rw [key_negB p1,key_negB q1,V_neg,V_neg] at r2
 clear mir nx ny
 generalize key (addF x y (-1))=kd at *
 generalize key (addF x y 1)=ku at *
 generalize key (addF x y 0)=kM at *
 generalize key (addF (negB y) (negB x) 1)=kn at *
 generalize V 9214364837600034815=H at *
 generalize V 9218868437227405311=T at *
 generalize key x=kx at *
 generalize key y=ky at *
 generalize key lo=kl at *
 generalize key hi=kh at *
 have mb:kl≤m∧m≤kh:=by rw [hm];split <;> (try split) <;> omega
 refine mid_pure tl th mb.1 mb.2 hm sd.1 sd.2 (fun c=>?_) (fun c=>?_)
 · have:=r1 (-V kl) (by omega) (by omega) (by omega)
   omega
 · have:=r2 (V kh) (by omega) (by omega) (by omega)
   omega
theorem down_fin {x y:Nat} (hx:x<18446744073709551616) (hy:y<18446744073709551616) (fx:finB x=true) (fy:finB y=true) (h:-V 9218868437227405311≤V (key x)+V (key y)):finB (addF x y (-1))=true:=by
 have d:=addF_down hx hy fx fy
 have f:=addF_facts x y (-1)
 cases q:finB (addF x y (-1))
 · exfalso
   have k:=(key_inf f.2.2 f.1).1 q
   generalize key (addF x y (-1))=l at *
   have t:=d.top
   rcases d.up with u | u
   · omega
   · refine u ?_
     have e:l+1=-9218868437227405311:=by omega
     rw [e,V_neg]
     show 2 * -V 9218868437227405311*((1:Nat):Int)≤2*(V (key x)+V (key y))
     omega
 · rfl
theorem up_fin {x y:Nat} (hx:x<18446744073709551616) (hy:y<18446744073709551616) (fx:finB x=true) (fy:finB y=true) (h:V (key x)+V (key y)≤V 9218868437227405311):finB (addF x y 1)=true:=by
 have w:=sum_upto hx hy fx fy 9218868437227405311 (by omega) h
 have v:=(sum_over hx hy fx fy).1
 have f:=addF_facts x y 1
 cases q:finB (addF x y 1)
 · exfalso
   have k:=(key_inf f.2.2 f.1).1 q
   omega
 · rfl
theorem fin_inf {x:Nat} (h:finB x=true):infB x=false:=by
 unfold finB at h
 have h:=of_decide_eq_true h
 unfold infB
 exact decide_eq_false (by omega)
theorem bd_fin {p:Nat×Nat} (h:bdB p=true):Some2 p.1 p.2∧finB p.1=true∧finB p.2=true:=by
 have S:=hs_iff.1 (bd_hs h)
 unfold bdB at h
 simp only [Bool.and_eq_true,Bool.not_eq_true'] at h
 have F:∀{x:Nat},nanB x=false→infB x=false→finB x=true:=fun {x} a b=>by
   have q:=nofin_eq x
   rw [a,b] at q
   cases c:finB x
   · rw [c] at q;cases q
   · rfl
 exact⟨S,F S.nl h.2.1,F S.nh h.2.2⟩
def leftQ (p:Nat×Nat):Nat×Nat:=addP p.1 p.2 (negP (makeP (midP p.1 p.2) (midP p.1 p.2))).1 (negP (makeP (midP p.1 p.2) (midP p.1 p.2))).2
theorem middle_facts {p:Nat×Nat} (h1:p.1<18446744073709551616) (h2:p.2<18446744073709551616) (h:bdB p=true) :
   midP p.1 p.2<18446744073709551616∧finB (midP p.1 p.2)=true∧midP p.1 p.2≠9223372036854775808∧-V 9218868437227405311≤V (key p.1)-V (key (midP p.1 p.2))∧V (key p.2)-V (key (midP p.1 p.2))≤V 9218868437227405311:=by
 obtain⟨S,f1,f2⟩:=bd_fin h
 obtain⟨e1,e2, -⟩:=mid_ends h1 h2 S
 have k1:=fin_key h1 f1
 have k2:=fin_key h2 f2
 have i1:eqB p.1 (infI (-1))=false:=by unfold eqB;rw [key_down,decide_eq_false (show ¬key p.1=-9218868437227405312 by omega),Bool.and_false]
 have i2:eqB p.2 (infI 1)=false:=by unfold eqB;rw [key_up,decide_eq_false (show ¬key p.2=9218868437227405312 by omega),Bool.and_false]
 rw [i1,if_neg (by simp)] at e1
 rw [i2,if_neg (by simp)] at e2
 have f:=midM_facts p.1 p.2
 have r:=mid_room h1 h2 f1 f2 S.le (key (midP p.1 p.2))
 have em:midM p.1 p.2=addF (halfF p.1) (halfF p.2) 0:=by unfold midM;rw [e1,e2]
 have ep:midP p.1 p.2=if key (midM p.1 p.2)<key p.1 then p.1 else if key p.2<key (midM p.1 p.2) then p.2 else midM p.1 p.2:=by
   unfold midP
   rw [hs_iff.2 S,if_pos rfl,e1,e2]
 rw [←em] at r
 clear em
 generalize midM p.1 p.2=M at *
 generalize midP p.1 p.2=m at *
 have hc:(key M<key p.1∧m=p.1)∨(¬key M<key p.1∧key p.2<key M∧m=p.2)∨(¬key M<key p.1∧¬key p.2<key M∧m=M):=by
   by_cases c1:key M<key p.1
   · rw [if_pos c1] at ep;exact Or.inl ⟨c1,ep⟩
   · rw [if_neg c1] at ep
     by_cases c2:key p.2<key M
     · rw [if_pos c2] at ep;exact Or.inr (Or.inl ⟨c1,c2,ep⟩)
     · rw [if_neg c2] at ep;exact Or.inr (Or.inr ⟨c1,c2,ep⟩)
 clear ep e1 e2 i1 i2
 rcases hc with ⟨c1,rfl⟩ | ⟨c1,c2,rfl⟩ | ⟨c1,c2,rfl⟩
 · exact⟨h1,f1,S.zl,r (by rw [if_pos c1])⟩
 · exact⟨h2,f2,S.zh,r (by rw [if_neg c1,if_pos c2])⟩
 · refine⟨f.2.2, ?_,f.2.1,r (by rw [if_neg c1,if_neg c2])⟩
   cases q:finB m
   · exfalso
     have:=(key_inf f.2.2 f.1).1 q
     omega
   · rfl
theorem left_bd {p:Nat×Nat} (h1:p.1<18446744073709551616) (h2:p.2<18446744073709551616) (h:bdB p=true):bdB (leftQ p)=true∧(leftQ p).1<18446744073709551616∧(leftQ p).2<18446744073709551616:=by
 obtain⟨S,f1,f2⟩:=bd_fin h
 obtain⟨hm,fm,zm,r1,r2⟩:=middle_facts h1 h2 h
 unfold leftQ
 generalize midP p.1 p.2=m at *
 have km:=fin_key hm fm
 have Sm:Some2 m m:=⟨fin_not_nan fm,fin_not_nan fm,Int.le_refl _,by omega,by omega,zm,zm⟩
 have em:makeP m m=(m,m):=make_is Sm
 have en:negP (m,m)=mirrorP (m,m):=by unfold negP;rw [hs_iff.2 Sm,if_pos rfl]
 obtain⟨T,t1,t2,t3,t4⟩:=mirror_some hm hm Sm
 rw [em,en]
 generalize mirrorP (m,m)=q at *
 have F:∀{x:Nat},x<18446744073709551616→nanB x=false→key x=-key m→finB x=true:=fun {x} a b c=>by
   cases e:finB x
   · have:=(key_inf a b).1 e;omega
   · rfl
 have g1:=F t3 T.nl t1
 have g2:=F t4 T.nh t2
 obtain⟨l,u,a1,a2,SA,l1,l2⟩:=add_some h1 h2 t3 t4 S T
 have el:addP p.1 p.2 q.1 q.2=(l,u):=by
   unfold addP
   rw [hs_iff.2 S,hs_iff.2 T,a1,a2]
   rfl
 rw [el]
 refine⟨?_,l1,l2⟩
 have b1:addF p.1 q.1 (-1)=l:=by rw [addR_fin (-1) f1 g1] at a1;exact Option.some.inj a1
 have b2:addF p.2 q.2 1=u:=by rw [addR_fin 1 f2 g2] at a2;exact Option.some.inj a2
 have d1:=down_fin h1 t3 f1 g1 (by rw [t1,V_neg];omega)
 have d2:=up_fin h2 t4 f2 g2 (by rw [t2,V_neg];omega)
 rw [b1] at d1
 rw [b2] at d2
 unfold bdB rightB
 rw [hs_iff.2 SA,fin_inf d1,fin_inf d2,Bool.or_true]
 rfl
def Flo (w:World) (g m:Nat):Prop:=∃(cs:Array Value) (t:TypeId),w.heap[g]?=some (.cells cs t (0,0))∧cs.size=m∧∀i,i<m→∃x,cs[i]?=some (.float .f64 x)∧x<18446744073709551616
theorem Out.block {w w2:World} {g n:Nat} {f:Nat→Value} (h:Out w g n f) (e:w2.heap[g]?=w.heap[g]?) (hs:w.heap.size≤w2.heap.size):Out w2 g n f :=
 ⟨Nat.lt_of_lt_of_le h.1 hs,fun i hi=>⟨(World.cell?_of_block e).trans (h.2 i hi).1,(World.frozen?_of_block e).trans (h.2 i hi).2⟩⟩
end Go.Proofs.YtdokikhhlmelkaaGreat
