/- What a norm tells: the amounts of rational numbers that a table of intervals holds; below 1 where room is left. An interval times a power of two holds the number times that power. -/
import Derived.Test.YtfdomcnaaadedaaZs27
import Derived.Test.YtfdomcnaaadedaaZs35
import Derived.Test.YtfdomcnaaadedaaZs29
namespace Go.Proofs.Ytfdomcnaaadedaa
open Go.ChangeShapes Go.WideShapes Go.ChangeAt Go.RowKit
def UpQ (a:Nat) (x:Rat):Prop:=a=9218868437227405312∨x≤vq (a:Int)
theorem am_hq {a:Nat} {x:Rat} (h:Am a) (h0:0≤x) (h1:UpQ a x):Hq (0,a) x:=by
 have k0:key 0=0:=by decide
 have kx:=key_am h
 have hn:=h.num
 have hl:=h.lt
 unfold Am at h
 refine⟨by omega,hl, ?_,Or.inr (by rw [k0,vq_zero];exact h0), ?_⟩
 · have n0:nanB 0=false:=by decide
   exact⟨n0,hn,by rw [k0,kx];omega,by rw [k0];omega,by rw [kx];omega,by simp,by show a≠_;omega⟩
 · show LoQ (-key a) (-x)
   rw [kx]
   rcases h1 with c | c
   · exact Or.inl (by omega)
   · refine Or.inr ?_
     rw [vq_neg]
     grind
theorem add_up {a b u:Nat} {x y:Rat} (ha:Am a) (hb:Am b) (x0:0≤x) (y0:0≤y) (X:UpQ a x) (Y:UpQ b y) (e:addR a b 1=some u) (hu:Am u):UpQ u (x+y):=by
 have A:=am_hq ha x0 X
 have B:=am_hq hb y0 Y
 have H:=hq_add A B
 have e0:addR 0 0 (-1)=some 0:=by decide
 have q:addP 0 a 0 b=(0,u):=by unfold addP;rw [hs_iff.2 A.S,hs_iff.2 B.S,e0,e];rfl
 have H2:Hq (addP 0 a 0 b) (x+y):=H
 rw [q] at H2
 have h:=H2.hi
 rw [show key (0,u).2=(u:Int) from key_am hu] at h
 rcases h with c | c
 · exact Or.inl (by omega)
 · refine Or.inr ?_
   rw [vq_neg] at c
   grind
theorem key_mod {a:Nat} (ha:a<18446744073709551616):-((a%9223372036854775808:Nat):Int)≤key a∧key a≤((a%9223372036854775808:Nat):Int):=by
 unfold key
 split <;> omega
theorem mod_am {a:Nat} (ha:nanB a=false):Am (a%9223372036854775808):=by
 unfold nanB at ha
 simp at ha
 exact ha
theorem hq_mag {p:Nat×Nat} {x:Rat} (X:Hq p x):UpQ (magP p.1 p.2) (absQ x):=by
 have a1:=mod_am X.S.nl
 have a2:=mod_am X.S.nh
 have e:magP p.1 p.2=if p.1%9223372036854775808<p.2%9223372036854775808 then p.2%9223372036854775808 else p.1%9223372036854775808:=by
   unfold magP
   rw [if_pos (hs_iff.2 X.S),maxW_am a1 a2]
 obtain⟨k1, -⟩:=key_mod X.l1
 obtain⟨-,k2⟩:=key_mod X.l2
 have g1:p.1%9223372036854775808≤magP p.1 p.2:=by rw [e];split <;> omega
 have g2:p.2%9223372036854775808≤magP p.1 p.2:=by rw [e];split <;> omega
 have am:Am (magP p.1 p.2):=mag_am
 have hlo:=X.lo
 have hhi:=X.hi
 clear e
 unfold Am at a1 a2 am
 generalize magP p.1 p.2=m at *
 generalize p.1%9223372036854775808=c at *
 generalize p.2%9223372036854775808=d at *
 by_cases hm:m=9218868437227405312
 · exact Or.inl hm
 refine Or.inr ?_
 rw [absQ_le]
 refine⟨?_, ?_⟩
 · rcases hhi with h | h
   · omega
   · rw [vq_neg] at h
     have:=vq_le (show key p.2≤(m:Int) by omega)
     grind
 · rcases hlo with h | h
   · omega
   · have:=vq_le (show -(m:Int)≤key p.1 by omega)
     rw [vq_neg] at this
     grind
theorem sumQ_nonneg {f:Nat→Rat} {n:Nat} (h:∀i,i<n→0≤f i):0≤sumQ f n:=by
 have:=sumQ_le (f:=fun _=>0) (g:=f) (n:=n) h
 rw [sumQ_zero] at this
 exact this
theorem sum_up (X:Nat→Nat×Nat) (x:Nat→Rat):∀n,(∀j,j<n→Hq (X j) (x j))→UpQ (sumP X n) (sumQ (fun j=>absQ (x j)) n):=by
 intro n
 induction n with
 | zero =>
   intro _
   refine Or.inr ?_
   show (0:Rat)≤vq ((0:Nat):Int)
   rw [show ((0:Nat):Int)=0 from rfl,vq_zero]
   exact Rat.le_refl
 | succ n ih =>
   intro h
   obtain⟨a,e⟩:=sum_am X n
   exact add_up a mag_am (sumQ_nonneg fun i _=>absQ_nonneg _) (absQ_nonneg _) (ih fun j hj=>h j (by omega)) (hq_mag (h n (by omega))) e (sum_am X (n+1)).1
theorem norm_sum (RL:Nat→Nat) (X:Nat→Nat→Nat×Nat):∀r i,i<r→sumP (X i) (RL i)≤normP RL X r:=by
 intro r
 induction r with
 | zero=>intro i hi;omega
 | succ r ih =>
   intro i hi
   show _≤if normP RL X r<sumP (X r) (RL r) then sumP (X r) (RL r) else normP RL X r
   by_cases c:i=r
   · subst c;split <;> omega
   · have:=ih i (by omega)
     split <;> omega
theorem norm_room {RL:Nat→Nat} {X:Nat→Nat→Nat×Nat} {x:Nat→Nat→Rat} {n v:Nat} (h:∀i,i<n→∀j,j<RL i→Hq (X i j) (x i j))
   (e:addR 4607182418800017408 (negB (normP RL X n)) (-1)=some v) (hv:0<key v):∀i,i<n→sumQ (fun c=>absQ (x i c)) (RL i)<vq 4607182418800017408:=by
 intro i hi
 have am:=norm_am RL X n
 have s:=norm_sum RL X n i hi
 have su:=sum_up (X i) (x i) (RL i) (h i hi)
 have k1:key 4607182418800017408=4607182418800017408:=by decide
 have kn:key (negB (normP RL X n))=-(normP RL X n:Int):=by rw [key_negB am.lt,key_am am]
 have nn:nanB (negB (normP RL X n))=false:=by rw [nanB_negB am.lt];exact am.num
 have ln:=negB_lt am.lt
 generalize normP RL X n=m at *
 generalize negB m=m' at *
 unfold Am at am
 have n1:nanB 4607182418800017408=false:=by decide
 have L:=add_lo (a:=4607182418800017408) (b:=m') (x:=vq 4607182418800017408) (by omega) ln n1 nn (by rw [k1];omega) (by rw [kn];omega) (Or.inr (by rw [k1];exact Rat.le_refl)) (y:=- vq (m:Int)) (Or.inr (by rw [kn,vq_neg];exact Rat.le_refl)) e
 have hm:m≠9218868437227405312:=by
   intro c
   have:=addR_bot2 (a:=4607182418800017408) (b:=m') (by omega) ln n1 nn (by rw [kn];omega) e
   omega
 rcases L with c | c
 · omega
 have p1:=vq_le (show (1:Int)≤key v by omega)
 have v1:vq 1=iuQ:=by
   unfold vq
   rw [show V 1=1 by decide]
   grind
 have i0:=iuQ_pos
 rcases su with d | d
 · omega
 have p2:=vq_le (show ((sumP (X i) (RL i):Nat):Int)≤(m:Int) by omega)
 rw [v1] at p1
 grind
theorem vq_one:vq 4607182418800017408=1:=by
 unfold vq
 have:V 4607182418800017408=(unitN:Int):=by
   unfold unitN expN
   decide +kernel
 rw [this]
 exact iuQ_one
def pwU (e:Int):Nat:=2^e.toNat
def twQ (e:Int):Rat:=((pwU e:Int):Rat)*((pwU (-e):Int):Rat)⁻¹
theorem pwU_pos (e:Int):0<pwU e:=Nat.two_pow_pos _
theorem pwUQ_pos (e:Int):(0:Rat)<((pwU e:Int):Rat):=Rat.intCast_pos.2 (by have:=pwU_pos e;omega)
theorem twQ_pos (e:Int):0<twQ e:=Rat.mul_pos (pwUQ_pos e) (Rat.inv_pos.2 (pwUQ_pos (-e)))
theorem pwU_inv (e:Int):((pwU e:Int):Rat)*((pwU e:Int):Rat)⁻¹=1:=Rat.mul_inv_cancel _ (by have:=pwUQ_pos e;grind)
def sgI (g:Bool) (n:Nat):Int:=if g then -(n:Int) else (n:Int)
theorem power_down {g:Bool} {m:Nat} {E:Int} (a b:Nat) (hab:(b:Int)-a=E+1075) (hm:m<18446744073709551616) (he:-4096≤E∧E≤4096) :
   KDown (exQ (sgI g (m*2^b)) (2^a)) (key (roundN g m E (-1))):=by
 have z:m=0→m*2^b=0:=fun h=>by rw [h,Nat.zero_mul]
 have ns:∀C:Cut,(∀h,C.le h↔h*2^a≤m*2^b)→(∀h,C.eq h↔h*2^a=m*2^b)→Near m E C:=fun C h1 h2=>⟨a,b,hab,Or.inl fun h=>⟨h1 h,h2 h⟩⟩
 have pa:0<2^a:=Nat.two_pow_pos a
 generalize m*2^b=A at *
 generalize 2^a=D at *
 have hg:if g then sgI g A≤0 else 0≤sgI g A:=by unfold sgI;cases g <;> simp
 have ha:(sgI g A).natAbs=A:=by unfold sgI;cases g <;> simp
 generalize sgI g A=N at *
 refine round_down (exQ_ok N pa) hm he (fun h0=>?_) ?_ (fun _=>ns _ (fun h=>?_) (fun h=>?_))
 · have:N=0:=by have:=z h0;omega
   subst this
   exact⟨by simp [exQ],by simp [exQ]⟩
 · cases g
   · simpa [exQ] using hg
   · simpa [exQ] using hg
 · rw [(amt_Q hg h).1,ha]
 · rw [(amt_Q hg h).2,ha]
theorem rp_down {v:Nat} (hv:v<18446744073709551616) (fv:finB v=true) (e:Int) (he:-4096≤splitE v+e∧splitE v+e≤4096) :
   key (roundN (splitG v) (splitM v) (splitE v+e) (-1))=-9218868437227405312∨V (key (roundN (splitG v) (splitM v) (splitE v+e) (-1)))*(pwU (-e):Int)≤V (key v)*(pwU e:Int):=by
 obtain⟨b1,b2⟩:=splitE_bounds fv
 have hm:=splitM_lt v
 have sv:=signed_val hv fv
 have h:=power_down (g:=splitG v) (m:=splitM v) (E:=splitE v+e) (-e).toNat ((splitE v+1074).toNat+1+e.toNat) (by omega) (by omega) he
 rcases down_le h with c | c
 · exact Or.inl c
 · refine Or.inr ?_
   have e1:sgI (splitG v) (splitM v*2^((splitE v+1074).toNat+1+e.toNat))=2*(V (key v)*(pwU e:Int)):=by
     rw [sv]
     unfold sgI pwU
     rw [Nat.pow_add,Nat.pow_succ]
     generalize 2^(splitE v+1074).toNat=s
     generalize 2^e.toNat=t
     generalize splitM v=m
     have:((m*(s*2*t):Nat):Int)=2*(((m*s:Nat):Int)*(t:Int)):=by
       have:m*(s*2*t)=2*(m*s*t):=by
         rw [←Nat.mul_assoc,←Nat.mul_assoc,Nat.mul_right_comm (m*s) 2 t,Nat.mul_comm]
       rw [this]
       simp
     cases splitG v
     · simp only [Bool.false_eq_true,if_false]
       rw [this]
     · simp only [if_true]
       rw [this,Int.neg_mul,Int.mul_neg]
   have e2:((2^(-e).toNat:Nat):Int)=(pwU (-e):Int):=rfl
   rw [e1,e2,Int.mul_assoc] at c
   omega
theorem up_twQ {a b:Int} {e:Int} (h:a*(pwU (-e):Int)≤b*(pwU e:Int)):(a:Rat)*iuQ≤(b:Rat)*iuQ*twQ e:=by
 have i0:=iuQ_pos
 have q:=Rat.inv_pos.2 (pwUQ_pos (-e))
 have e1:=pwU_inv (-e)
 have h2:=Rat.mul_le_mul_of_nonneg_right (Rat.intCast_le_intCast.2 h) (Rat.mul_nonneg (Rat.le_of_lt i0) (Rat.le_of_lt q))
 rw [Rat.intCast_mul,Rat.intCast_mul] at h2
 unfold twQ
 generalize ((pwU (-e):Int):Rat)=c at *
 generalize ((pwU e:Int):Rat)=d at *
 generalize c⁻¹=c' at *
 generalize (a:Rat)=A at *
 generalize (b:Rat)=B at *
 generalize iuQ=i at *
 have e2:A*c*(i*c')=A*i:=by grind
 have e3:B*d*(i*c')=B*i*(d*c'):=by grind
 rw [e2,e3] at h2
 exact h2
theorem pwU_le {a b:Int} (h:a≤b):pwU a≤pwU b:=Nat.pow_le_pow_right (by omega) (by omega)
theorem twQ_le {a b:Int} (h:a≤b):twQ a≤twQ b:=by
 have h1:((pwU a:Int):Rat)≤((pwU b:Int):Rat):=Rat.intCast_le_intCast.2 (by have:=pwU_le h;omega)
 have h2:((pwU (-b):Int):Rat)≤((pwU (-a):Int):Rat):=Rat.intCast_le_intCast.2 (by have:=pwU_le (show -b≤-a by omega);omega)
 have a0:=pwUQ_pos a
 have b0:=pwUQ_pos (-b)
 have a1:=Rat.inv_pos.2 (pwUQ_pos (-a))
 have b1:=Rat.inv_pos.2 (pwUQ_pos (-b))
 have ia:=pwU_inv (-a)
 have ib:=pwU_inv (-b)
 unfold twQ
 generalize ((pwU a:Int):Rat)=x at *
 generalize ((pwU b:Int):Rat)=y at *
 generalize ((pwU (-a):Int):Rat)=u at *
 generalize ((pwU (-b):Int):Rat)=t at *
 generalize u⁻¹=u' at *
 generalize t⁻¹=t' at *
 have h3:u'≤t':=by
   have:=Rat.mul_le_mul_of_nonneg_right h2 (Rat.mul_nonneg (Rat.le_of_lt a1) (Rat.le_of_lt b1))
   have e1:t*(u'*t')=u':=by grind
   have e2:u*(u'*t')=t':=by grind
   rw [e1,e2] at this
   exact this
 exact prod_two (Rat.le_of_lt a0) (Rat.le_of_lt a1) h1 h3
def expU:Nat:=2098
def topU:Nat:=2^expU
theorem V_inf:V 9218868437227405312=(topU:Int):=by
 unfold topU expU
 decide +kernel
theorem V_bound {k:Int} (h1:-9218868437227405312≤k) (h2:k≤9218868437227405312):-(topU:Int)≤V k∧V k≤(topU:Int):=by
 have a:=V_mono_le h1
 have b:=V_mono_le h2
 rw [V_neg,V_inf] at a
 rw [V_inf] at b
 exact⟨a,b⟩
theorem top_pw {e:Int} (h:2099≤e):topU<pwU e:=Nat.pow_lt_pow_right (by omega) (show expU<e.toNat by unfold expU;omega)
theorem pwU_neg {e:Int} (h:e≤0):pwU e=1:=by
 unfold pwU
 rw [show e.toNat=0 by omega]
theorem round_clamp (g:Bool) (m:Nat) (e d:Int):roundN g m e d=roundN g m (clampN e) d:=by
 unfold roundN
 rw [show clampN (clampN e)=clampN e by unfold clampN;omega]
theorem rp_lo {v:Nat} (hv:v<18446744073709551616) (fv:finB v=true) (e:Int):LoQ (key (rpF v e (-1))) (vq (key v)*twQ e):=by
 obtain⟨b1,b2⟩:=splitE_bounds fv
 have hm:=splitM_lt v
 have kf:=roundN_facts (splitG v) (splitM v) (splitE v+e) (-1) (by omega)
 have lv:=(key_range hv (fin_not_nan fv)).1
 have uv:=(key_range hv (fin_not_nan fv)).2
 have lk:=(key_range kf.2.2 kf.1).1
 have uk:=(key_range kf.2.2 kf.1).2
 have tw:=twQ_pos e
 unfold rpF
 rw [if_pos fv]
 have cl:=round_clamp (splitG v) (splitM v) (splitE v+e) (-1)
 by_cases c1:splitE v+e < -4096
 · have ec:clampN (splitE v+e)=splitE v+(-4096-splitE v):=by unfold clampN;omega
   rw [ec] at cl
   have h:=rp_down hv fv (-4096-splitE v) (by omega)
   rw [←cl] at h
   rcases h with h | h
   · exact Or.inl h
   · refine Or.inr ?_
     rcases Int.le_total 0 (key v) with s | s
     · have hp:=top_pw (e:=-(-4096-splitE v)) (by omega)
       rw [pwU_neg (e:=-4096-splitE v) (by omega)] at h
       have vb:=(V_bound lv uv).2
       have k0:V (key (roundN (splitG v) (splitM v) (splitE v+e) (-1)))≤0:=by
         generalize V (key (roundN (splitG v) (splitM v) (splitE v+e) (-1)))=K at *
         generalize pwU (-(-4096-splitE v))=P at *
         rcases Int.le_total K 0 with c | c
         · exact c
         · by_cases c0:K=0
           · omega
           have:(1:Int)*(P:Int)≤K*(P:Int):=Int.mul_le_mul_of_nonneg_right (by omega) (by omega)
           omega
       have k1:vq (key (roundN (splitG v) (splitM v) (splitE v+e) (-1)))≤0:=by
         have:=Rat.mul_le_mul_of_nonneg_right (Rat.intCast_le_intCast.2 k0) (Rat.le_of_lt iuQ_pos)
         unfold vq
         grind
       exact Rat.le_trans k1 (Rat.mul_nonneg (vq_nonneg s) (Rat.le_of_lt tw))
     · have h2:vq (key (roundN (splitG v) (splitM v) (splitE v+e) (-1)))≤vq (key v)*twQ (-4096-splitE v):=up_twQ h
       have h3:=twQ_le (show e≤-4096-splitE v by omega)
       have h4:=Rat.mul_le_mul_of_nonneg_left h3 (show 0≤-(vq (key v)) by have:=vq_npos s;grind)
       grind
 by_cases c2:4096<splitE v+e
 · have ec:clampN (splitE v+e)=splitE v+(4096-splitE v):=by unfold clampN;omega
   rw [ec] at cl
   have h:=rp_down hv fv (4096-splitE v) (by omega)
   rw [←cl] at h
   rcases h with h | h
   · exact Or.inl h
   · rcases Int.lt_or_le (key v) 0 with s | s
     · exfalso
       have hp:=top_pw (e:=4096-splitE v) (by omega)
       rw [pwU_neg (e:=-(4096-splitE v)) (by omega)] at h
       have vb:=(V_bound lk uk).1
       have s2:=V_lt0 s
       generalize V (key (roundN (splitG v) (splitM v) (splitE v+e) (-1)))=K at *
       generalize pwU (4096-splitE v)=P at *
       generalize V (key v)=X at *
       have:X*(P:Int)≤(-1)*(P:Int):=Int.mul_le_mul_of_nonneg_right (by omega) (by omega)
       omega
     · refine Or.inr ?_
       have h2:vq (key (roundN (splitG v) (splitM v) (splitE v+e) (-1)))≤vq (key v)*twQ (4096-splitE v):=up_twQ h
       have h3:=twQ_le (show 4096-splitE v≤e by omega)
       have h4:=Rat.mul_le_mul_of_nonneg_left h3 (vq_nonneg s)
       grind
 rcases rp_down hv fv e (by omega) with h | h
 · exact Or.inl h
 · exact Or.inr (up_twQ h)
theorem rp_top {v:Nat} (fv:finB v=true) (e:Int):key (rpF v e (-1))≤9218868437227405311:=by
 have hm:=splitM_lt v
 unfold rpF
 rw [if_pos fv,round_clamp]
 have cb:-4096≤clampN (splitE v+e)∧clampN (splitE v+e)≤4096:=by unfold clampN;omega
 generalize clampN (splitE v+e)=E at *
 exact (power_down (g:=splitG v) (m:=splitM v) (E:=E) 5000 (E+6075).toNat (by omega) (by omega) cb).top
theorem rp_facts {v:Nat} (nv:nanB v=false) (zv:v≠9223372036854775808) (e d:Int):nanB (rpF v e d)=false∧rpF v e d≠9223372036854775808:=by
 have hm:=splitM_lt v
 have kf:=roundN_facts (splitG v) (splitM v) (splitE v+e) d (by omega)
 unfold rpF
 split
 · exact⟨kf.1,kf.2.1⟩
 · exact⟨nv,zv⟩
theorem rp_mirror {v:Nat} (hv:v<18446744073709551616) (e:Int):key (rpF v e 1)=-key (rpF (negB v) e (-1)):=by
 have hm:=splitM_lt v
 unfold rpF
 rw [finB_negB hv]
 cases f:finB v
 · simp only [Bool.false_eq_true,if_false]
   rw [key_negB hv,Int.neg_neg]
 · simp only [if_true]
   rw [splitM_negB hv,splitE_negB hv]
   by_cases z:splitM v=0
   · have r0:∀g d,roundN g 0 (splitE v+e) d=0:=fun g d=>by unfold roundN;rw [if_pos rfl]
     rw [z,r0,r0]
     decide
   · have:=round_mirror (!splitG v) (splitM v) (splitE v+e) (by omega)
     rw [Bool.not_not] at this
     rw [splitG_negB hv z,this]
theorem rp_loN {v:Nat} {x:Rat} (hv:v<18446744073709551616) (nv:nanB v=false) (kv:key v<9218868437227405312) (X:LoQ (key v) x) (e:Int):LoQ (key (rpF v e (-1))) (x*twQ e)∧key (rpF v e (-1))<9218868437227405312:=by
 cases f:finB v
 · have r:rpF v e (-1)=v:=by unfold rpF;rw [f];rfl
   rw [r]
   refine⟨?_,kv⟩
   rcases (key_inf hv nv).1 f with c | c
   · omega
   · exact Or.inl c
 · refine⟨?_,by have:=rp_top f e;omega⟩
   rcases X with c | c
   · have:=(key_inf hv nv).2 (Or.inr c)
     rw [f] at this
     cases this
   · exact (rp_lo hv f e).less (Rat.mul_le_mul_of_nonneg_right c (Rat.le_of_lt (twQ_pos e)))
theorem vq_lt {k l:Int} (h:k<l):vq k<vq l:=Rat.mul_lt_mul_of_pos_right (Rat.intCast_lt_intCast.2 (V_mono h)) iuQ_pos
theorem hq_tp {p:Nat×Nat} {x:Rat} (X:Hq p x) (e:Int):Hq (tpP p e) (x*twQ e):=by
 obtain⟨l,t⟩:=rp_loN X.l1 X.S.nl X.S.lt X.lo e
 have kh:=key_negB X.l2
 have g2:=X.S.gt
 obtain⟨u,b⟩:=rp_loN (v:=negB p.2) (x:=-x) (negB_lt X.l2) (by rw [nanB_negB X.l2];exact X.S.nh) (by omega) (by rw [kh];exact X.hi) e
 have m:=rp_mirror X.l2 e
 obtain⟨n1,z1⟩:=rp_facts X.S.nl X.S.zl e (-1)
 obtain⟨n2,z2⟩:=rp_facts X.S.nh X.S.zh e 1
 have l1:=rpF_lt X.l1 e (-1)
 have l2:=rpF_lt X.l2 e 1
 have k1:=key_range l1 n1
 have k2:=key_range l2 n2
 rw [show key (rpF (negB p.2) e (-1))=-key (rpF p.2 e 1) by omega] at u b
 rw [show -x*twQ e=-(x*twQ e) by grind] at u
 clear m
 unfold tpP
 refine⟨l1,l2,⟨n1,n2, ?_,t, ?_,z1,z2⟩,l,u⟩
 · show key (rpF p.1 e (-1))≤key (rpF p.2 e 1)
   rcases l with c | c
   · omega
   · rcases u with d | d
     · omega
     · rcases Int.lt_or_le (key (rpF p.2 e 1)) (key (rpF p.1 e (-1))) with o | o
       · have:=vq_lt o
         rw [vq_neg] at d
         grind
       · exact o
 · show _<key (rpF p.2 e 1)
   omega
end Go.Proofs.Ytfdomcnaaadedaa
