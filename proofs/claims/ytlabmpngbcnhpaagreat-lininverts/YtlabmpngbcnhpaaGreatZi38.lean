/- An interval times a power of two holds the number times that power. A matrix of floats, scaled: what its intervals hold. -/
import Derived.Test.YtlabmpngbcnhpaaGreatZi37
import Derived.Test.YtlabmpngbcnhpaaGreatZi28
import Derived.Test.YtlabmpngbcnhpaaGreatZi33
import Derived.Test.YtlabmpngbcnhpaaGreatZi34
namespace Go.Proofs.YtlabmpngbcnhpaaGreat
open Go.ChangeShapes Go.WideShapes Go.ChangeAt Go.RowKit
def pwU (e:Int):Nat:=2^e.toNat
def twQ (e:Int):Rat:=((pwU e:Int):Rat)*((pwU (-e):Int):Rat)⁻¹
theorem pwU_pos (e:Int):0<pwU e:=Nat.two_pow_pos _
theorem pwUQ_pos (e:Int):(0:Rat)<((pwU e:Int):Rat):=Rat.intCast_pos.2 (by have:=pwU_pos e;omega)
theorem twQ_pos (e:Int):0<twQ e:=Rat.mul_pos (pwUQ_pos e) (Rat.inv_pos.2 (pwUQ_pos (-e)))
theorem pwU_inv (e:Int):((pwU e:Int):Rat)*((pwU e:Int):Rat)⁻¹=1:=Rat.mul_inv_cancel _ (by have:=pwUQ_pos e;grind)
def sgI (g:Bool) (n:Nat):Int:=if g then -(n:Int) else (n:Int)
theorem power_down {g:Bool} {m:Nat} {E:Int} (a b:Nat) (hab:(b:Int)-a=E+1075) (hm:m<18446744073709551616) (he:-4096≤E∧E≤4096) :
   KDown (exQ (sgI g (m*2^b)) (2^a)) (key (roundN g m E (-1))):=by
 have z:m=0→m*2^b=0:=fun h=>by rw [h,Nat.zero_mul]
 have ns:∀C:Cut,(∀h,C.le h↔h*2^a≤m*2^b)→(∀h,C.eq h↔h*2^a=m*2^b)→Near m E C:=fun C h1 h2=>⟨a,b,hab,Or.inl fun h=>⟨h1 h,h2 h⟩⟩
 have pa:0<2^a:=Nat.two_pow_pos a
 generalize m*2^b=A at *
 generalize 2^a=D at *
 have hg:if g then sgI g A≤0 else 0≤sgI g A:=by unfold sgI;cases g <;> simp
 have ha:(sgI g A).natAbs=A:=by unfold sgI;cases g <;> simp
 generalize sgI g A=N at *
 refine round_down (exQ_ok N pa) hm he (fun h0=>?_) ?_ (fun _=>ns _ (fun h=>?_) (fun h=>?_))
 · have:N=0:=by have:=z h0;omega
   subst this
   exact⟨by simp [exQ],by simp [exQ]⟩
 · cases g
   · simpa [exQ] using hg
   · simpa [exQ] using hg
 · rw [(amt_Q hg h).1,ha]
 · rw [(amt_Q hg h).2,ha]
theorem rp_down {v:Nat} (hv:v<18446744073709551616) (fv:finB v=true) (e:Int) (he:-4096≤splitE v+e∧splitE v+e≤4096) :
   key (roundN (splitG v) (splitM v) (splitE v+e) (-1))=-9218868437227405312∨V (key (roundN (splitG v) (splitM v) (splitE v+e) (-1)))*(pwU (-e):Int)≤V (key v)*(pwU e:Int):=by
 obtain⟨b1,b2⟩:=splitE_bounds fv
 have hm:=splitM_lt v
 have sv:=signed_val hv fv
 have h:=power_down (g:=splitG v) (m:=splitM v) (E:=splitE v+e) (-e).toNat ((splitE v+1074).toNat+1+e.toNat) (by omega) (by omega) he
 rcases down_le h with c | c
 · exact Or.inl c
 · refine Or.inr ?_
   have e1:sgI (splitG v) (splitM v*2^((splitE v+1074).toNat+1+e.toNat))=2*(V (key v)*(pwU e:Int)):=by
     rw [sv]
     unfold sgI pwU
     rw [Nat.pow_add,Nat.pow_succ]
     generalize 2^(splitE v+1074).toNat=s
     generalize 2^e.toNat=t
     generalize splitM v=m
     have:((m*(s*2*t):Nat):Int)=2*(((m*s:Nat):Int)*(t:Int)):=by
       have:m*(s*2*t)=2*(m*s*t):=by
         rw [←Nat.mul_assoc,←Nat.mul_assoc,Nat.mul_right_comm (m*s) 2 t,Nat.mul_comm]
       rw [this]
       simp
     cases splitG v
     · simp only [Bool.false_eq_true,if_false]
       rw [this]
     · simp only [if_true]
       rw [this,Int.neg_mul,Int.mul_neg]
   have e2:((2^(-e).toNat:Nat):Int)=(pwU (-e):Int):=rfl
   rw [e1,e2,Int.mul_assoc] at c
   omega
theorem up_twQ {a b:Int} {e:Int} (h:a*(pwU (-e):Int)≤b*(pwU e:Int)):(a:Rat)*iuQ≤(b:Rat)*iuQ*twQ e:=by
 have i0:=iuQ_pos
 have q:=Rat.inv_pos.2 (pwUQ_pos (-e))
 have e1:=pwU_inv (-e)
 have h2:=Rat.mul_le_mul_of_nonneg_right (Rat.intCast_le_intCast.2 h) (Rat.mul_nonneg (Rat.le_of_lt i0) (Rat.le_of_lt q))
 rw [Rat.intCast_mul,Rat.intCast_mul] at h2
 unfold twQ
 generalize ((pwU (-e):Int):Rat)=c at *
 generalize ((pwU e:Int):Rat)=d at *
 generalize c⁻¹=c' at *
 generalize (a:Rat)=A at *
 generalize (b:Rat)=B at *
 generalize iuQ=i at *
 have e2:A*c*(i*c')=A*i:=by grind
 have e3:B*d*(i*c')=B*i*(d*c'):=by grind
 rw [e2,e3] at h2
 exact h2
theorem pwU_le {a b:Int} (h:a≤b):pwU a≤pwU b:=Nat.pow_le_pow_right (by omega) (by omega)
theorem twQ_le {a b:Int} (h:a≤b):twQ a≤twQ b:=by
 have h1:((pwU a:Int):Rat)≤((pwU b:Int):Rat):=Rat.intCast_le_intCast.2 (by have:=pwU_le h;omega)
 have h2:((pwU (-b):Int):Rat)≤((pwU (-a):Int):Rat):=Rat.intCast_le_intCast.2 (by have:=pwU_le (show -b≤-a by omega);omega)
 have a0:=pwUQ_pos a
 have b0:=pwUQ_pos (-b)
 have a1:=Rat.inv_pos.2 (pwUQ_pos (-a))
 have b1:=Rat.inv_pos.2 (pwUQ_pos (-b))
 have ia:=pwU_inv (-a)
 have ib:=pwU_inv (-b)
 unfold twQ
 generalize ((pwU a:Int):Rat)=x at *
 generalize ((pwU b:Int):Rat)=y at *
 generalize ((pwU (-a):Int):Rat)=u at *
 generalize ((pwU (-b):Int):Rat)=t at *
 generalize u⁻¹=u' at *
 generalize t⁻¹=t' at *
 have h3:u'≤t':=by
   have:=Rat.mul_le_mul_of_nonneg_right h2 (Rat.mul_nonneg (Rat.le_of_lt a1) (Rat.le_of_lt b1))
   have e1:t*(u'*t')=u':=by grind
   have e2:u*(u'*t')=t':=by grind
   rw [e1,e2] at this
   exact this
 exact prod_two (Rat.le_of_lt a0) (Rat.le_of_lt a1) h1 h3
def expU:Nat:=2098
def topU:Nat:=2^expU
theorem V_inf:V 9218868437227405312=(topU:Int):=by
 unfold topU expU
 decide +kernel
theorem V_bound {k:Int} (h1:-9218868437227405312≤k) (h2:k≤9218868437227405312):-(topU:Int)≤V k∧V k≤(topU:Int):=by
 have a:=V_mono_le h1
 have b:=V_mono_le h2
 rw [V_neg,V_inf] at a
 rw [V_inf] at b
 exact⟨a,b⟩
theorem top_pw {e:Int} (h:2099≤e):topU<pwU e:=Nat.pow_lt_pow_right (by omega) (show expU<e.toNat by unfold expU;omega)
theorem pwU_neg {e:Int} (h:e≤0):pwU e=1:=by
 unfold pwU
 rw [show e.toNat=0 by omega]
theorem round_clamp (g:Bool) (m:Nat) (e d:Int):roundN g m e d=roundN g m (clampN e) d:=by
 unfold roundN
 rw [show clampN (clampN e)=clampN e by unfold clampN;omega]
theorem rp_lo {v:Nat} (hv:v<18446744073709551616) (fv:finB v=true) (e:Int):LoQ (key (rpF v e (-1))) (vq (key v)*twQ e):=by
 obtain⟨b1,b2⟩:=splitE_bounds fv
 have hm:=splitM_lt v
 have kf:=roundN_facts (splitG v) (splitM v) (splitE v+e) (-1) (by omega)
 have lv:=(key_range hv (fin_not_nan fv)).1
 have uv:=(key_range hv (fin_not_nan fv)).2
 have lk:=(key_range kf.2.2 kf.1).1
 have uk:=(key_range kf.2.2 kf.1).2
 have tw:=twQ_pos e
 unfold rpF
 rw [if_pos fv]
 have cl:=round_clamp (splitG v) (splitM v) (splitE v+e) (-1)
 by_cases c1:splitE v+e < -4096
 · have ec:clampN (splitE v+e)=splitE v+(-4096-splitE v):=by unfold clampN;omega
   rw [ec] at cl
   have h:=rp_down hv fv (-4096-splitE v) (by omega)
   rw [←cl] at h
   rcases h with h | h
   · exact Or.inl h
   · refine Or.inr ?_
     rcases Int.le_total 0 (key v) with s | s
     · have hp:=top_pw (e:=-(-4096-splitE v)) (by omega)
       rw [pwU_neg (e:=-4096-splitE v) (by omega)] at h
       have vb:=(V_bound lv uv).2
       have k0:V (key (roundN (splitG v) (splitM v) (splitE v+e) (-1)))≤0:=by
         generalize V (key (roundN (splitG v) (splitM v) (splitE v+e) (-1)))=K at *
         generalize pwU (-(-4096-splitE v))=P at *
         rcases Int.le_total K 0 with c | c
         · exact c
         · by_cases c0:K=0
           · omega
           have:(1:Int)*(P:Int)≤K*(P:Int):=Int.mul_le_mul_of_nonneg_right (by omega) (by omega)
           omega
       have k1:vq (key (roundN (splitG v) (splitM v) (splitE v+e) (-1)))≤0:=by
         have:=Rat.mul_le_mul_of_nonneg_right (Rat.intCast_le_intCast.2 k0) (Rat.le_of_lt iuQ_pos)
         unfold vq
         grind
       exact Rat.le_trans k1 (Rat.mul_nonneg (vq_nonneg s) (Rat.le_of_lt tw))
     · have h2:vq (key (roundN (splitG v) (splitM v) (splitE v+e) (-1)))≤vq (key v)*twQ (-4096-splitE v):=up_twQ h
       have h3:=twQ_le (show e≤-4096-splitE v by omega)
       have h4:=Rat.mul_le_mul_of_nonneg_left h3 (show 0≤-(vq (key v)) by have:=vq_npos s;grind)
       grind
 by_cases c2:4096<splitE v+e
 · have ec:clampN (splitE v+e)=splitE v+(4096-splitE v):=by unfold clampN;omega
   rw [ec] at cl
   have h:=rp_down hv fv (4096-splitE v) (by omega)
   rw [←cl] at h
   rcases h with h | h
   · exact Or.inl h
   · rcases Int.lt_or_le (key v) 0 with s | s
     · exfalso
       have hp:=top_pw (e:=4096-splitE v) (by omega)
       rw [pwU_neg (e:=-(4096-splitE v)) (by omega)] at h
       have vb:=(V_bound lk uk).1
       have s2:=V_lt0 s
       generalize V (key (roundN (splitG v) (splitM v) (splitE v+e) (-1)))=K at *
       generalize pwU (4096-splitE v)=P at *
       generalize V (key v)=X at *
       have:X*(P:Int)≤(-1)*(P:Int):=Int.mul_le_mul_of_nonneg_right (by omega) (by omega)
       omega
     · refine Or.inr ?_
       have h2:vq (key (roundN (splitG v) (splitM v) (splitE v+e) (-1)))≤vq (key v)*twQ (4096-splitE v):=up_twQ h
       have h3:=twQ_le (show 4096-splitE v≤e by omega)
       have h4:=Rat.mul_le_mul_of_nonneg_left h3 (vq_nonneg s)
       grind
 rcases rp_down hv fv e (by omega) with h | h
 · exact Or.inl h
 · exact Or.inr (up_twQ h)
theorem rp_top {v:Nat} (fv:finB v=true) (e:Int):key (rpF v e (-1))≤9218868437227405311:=by
 have hm:=splitM_lt v
 unfold rpF
 rw [if_pos fv,round_clamp]
 have cb:-4096≤clampN (splitE v+e)∧clampN (splitE v+e)≤4096:=by unfold clampN;omega
 generalize clampN (splitE v+e)=E at *
 exact (power_down (g:=splitG v) (m:=splitM v) (E:=E) 5000 (E+6075).toNat (by omega) (by omega) cb).top
theorem rp_facts {v:Nat} (nv:nanB v=false) (zv:v≠9223372036854775808) (e d:Int):nanB (rpF v e d)=false∧rpF v e d≠9223372036854775808:=by
 have hm:=splitM_lt v
 have kf:=roundN_facts (splitG v) (splitM v) (splitE v+e) d (by omega)
 unfold rpF
 split
 · exact⟨kf.1,kf.2.1⟩
 · exact⟨nv,zv⟩
theorem rp_mirror {v:Nat} (hv:v<18446744073709551616) (e:Int):key (rpF v e 1)=-key (rpF (negB v) e (-1)):=by
 have hm:=splitM_lt v
 unfold rpF
 rw [finB_negB hv]
 cases f:finB v
 · simp only [Bool.false_eq_true,if_false]
   rw [key_negB hv,Int.neg_neg]
 · simp only [if_true]
   rw [splitM_negB hv,splitE_negB hv]
   by_cases z:splitM v=0
   · have r0:∀g d,roundN g 0 (splitE v+e) d=0:=fun g d=>by unfold roundN;rw [if_pos rfl]
     rw [z,r0,r0]
     decide
   · have:=round_mirror (!splitG v) (splitM v) (splitE v+e) (by omega)
     rw [Bool.not_not] at this
     rw [splitG_negB hv z,this]
theorem rp_loN {v:Nat} {x:Rat} (hv:v<18446744073709551616) (nv:nanB v=false) (kv:key v<9218868437227405312) (X:LoQ (key v) x) (e:Int):LoQ (key (rpF v e (-1))) (x*twQ e)∧key (rpF v e (-1))<9218868437227405312:=by
 cases f:finB v
 · have r:rpF v e (-1)=v:=by unfold rpF;rw [f];rfl
   rw [r]
   refine⟨?_,kv⟩
   rcases (key_inf hv nv).1 f with c | c
   · omega
   · exact Or.inl c
 · refine⟨?_,by have:=rp_top f e;omega⟩
   rcases X with c | c
   · have:=(key_inf hv nv).2 (Or.inr c)
     rw [f] at this
     cases this
   · exact (rp_lo hv f e).less (Rat.mul_le_mul_of_nonneg_right c (Rat.le_of_lt (twQ_pos e)))
theorem vq_lt {k l:Int} (h:k<l):vq k<vq l:=Rat.mul_lt_mul_of_pos_right (Rat.intCast_lt_intCast.2 (V_mono h)) iuQ_pos
theorem hq_tp {p:Nat×Nat} {x:Rat} (X:Hq p x) (e:Int):Hq (tpP p e) (x*twQ e):=by
 obtain⟨l,t⟩:=rp_loN X.l1 X.S.nl X.S.lt X.lo e
 have kh:=key_negB X.l2
 have g2:=X.S.gt
 obtain⟨u,b⟩:=rp_loN (v:=negB p.2) (x:=-x) (negB_lt X.l2) (by rw [nanB_negB X.l2];exact X.S.nh) (by omega) (by rw [kh];exact X.hi) e
 have m:=rp_mirror X.l2 e
 obtain⟨n1,z1⟩:=rp_facts X.S.nl X.S.zl e (-1)
 obtain⟨n2,z2⟩:=rp_facts X.S.nh X.S.zh e 1
 have l1:=rpF_lt X.l1 e (-1)
 have l2:=rpF_lt X.l2 e 1
 have k1:=key_range l1 n1
 have k2:=key_range l2 n2
 rw [show key (rpF (negB p.2) e (-1))=-key (rpF p.2 e 1) by omega] at u b
 rw [show -x*twQ e=-(x*twQ e) by grind] at u
 clear m
 unfold tpP
 refine⟨l1,l2,⟨n1,n2, ?_,t, ?_,z1,z2⟩,l,u⟩
 · show key (rpF p.1 e (-1))≤key (rpF p.2 e 1)
   rcases l with c | c
   · omega
   · rcases u with d | d
     · omega
     · rcases Int.lt_or_le (key (rpF p.2 e 1)) (key (rpF p.1 e (-1))) with o | o
       · have:=vq_lt o
         rw [vq_neg] at d
         grind
       · exact o
 · show _<key (rpF p.2 e 1)
   omega
theorem fltB_fin {N:Nat} {RL:Nat→Nat} {X:Nat→Nat→Nat} (h:fltB N RL X=true) {r c:Nat} (hr:r<N) (hc:c<RL r):finB (X r c)=true:=by
 unfold fltB at h
 have h1:=(Bool.and_eq_true_iff.1 h).1
 have h2:=List.all_eq_true.1 h1 r (List.mem_range.2 hr)
 unfold rowFB at h2
 have h3:=(Bool.and_eq_true_iff.1 h2).2
 unfold finsB at h3
 exact List.all_eq_true.1 h3 c (List.mem_range.2 hc)
def scQ (P Q:Nat→Int) (i j r c:Nat):Rat:=if r<i∨(r=i∧c<j) then twQ (-(P r)-Q c) else 1
theorem scQ_next (P Q:Nat→Int) {i N r c:Nat} (hc:c<N):scQ P Q i N r c=scQ P Q (i+1) 0 r c:=by
 unfold scQ
 by_cases h:r<i∨(r=i∧c<N)
 · rw [if_pos h,if_pos (by omega)]
 · rw [if_neg h,if_neg (by omega)]
theorem scQ_other (P Q:Nat→Int) {i j r c:Nat} (h:¬(r=i∧c=j)):scQ P Q i j r c=scQ P Q i (j+1) r c:=by
 unfold scQ
 by_cases h2:r<i∨(r=i∧c<j)
 · rw [if_pos h2,if_pos (by omega)]
 · rw [if_neg h2,if_neg (by omega)]
theorem scQ_here (P Q:Nat→Int) (i j:Nat):scQ P Q i j i j=1∧scQ P Q i (j+1) i j=twQ (-(P i)-Q j):=by
 unfold scQ
 exact⟨if_neg (by omega),if_pos (by omega)⟩
theorem scQ_start (P Q:Nat→Int) (r c:Nat):scQ P Q 0 0 r c=1:=if_neg (by omega)
theorem scQ_end (P Q:Nat→Int) {N r c:Nat} (hr:r<N):scQ P Q N 0 r c=twQ (-(P r)-Q c):=if_pos (Or.inl hr)
set_option maxHeartbeats 4000000 in
theorem scaledH_w (A SR SC:Option Addr) (N C kr kc:Nat) (RA:Nat→Option Addr) (RL RC:Nat→Nat) (X:Nat→Nat→Nat) (P Q:Nat→Int) (hf:fltB N RL X=true) (hR:RL 0=N) (w:World) (V:Rfs w A N RA RL RC X) (U:Pws w SR N P) (T:Pws w SC N Q) :
   Calls Tryz.prog 13 #[.agg #[.slice SR N kr,.slice SC N kc],.slice A N C] w fun e w'=>∃g h F,e=.returned (.slice (some ⟨g,0,none⟩) N N)∧Grd w' g N N h F∧(∀r,r<N→∀c,c<N→Hq (F r c) (vq (key (X r c))*twQ (-(P r)-Q c)))∧Below w.heap.size w w':=by
 obtain⟨m1,m2,m3, -, -⟩:=fltB_parts hf
 obtain⟨sb,so,hSR, -⟩:=U 0 (by omega)
 obtain⟨tb,t0,hSC, -⟩:=T 0 (by omega)
 subst hSR
 subst hSC
 have cg:=fun w2 (hb:Below w.heap.size w w2)=>Points_new A N C RA RL RC X (by omega) hf w2 (V.keep hb)
 rw [hR] at cg
 have PW:Hid (∀r,r<N→∀c,c<N→Hq (ptsP X r c) (vq (key (X r c))*scQ P Q 0 0 r c)):=fun r hr c hc=>by
   rw [scQ_start,show vq (key (X r c))*1=vq (key (X r c)) by grind]
   have hc2:c<RL r:=by rw [m3 r hr,hR];exact hc
   exact hq_point (rfs_words V hr hc2) (fltB_fin hf hr hc2)
 clear m3 hf hR V
 go_enter Tryz.func13,Tryz.ntmps13
 go_wp2_with (go_at_call 14;refine (cg _ (by go_grown)).mono ?_;rintro _ w1 ⟨g,h,rfl,G0,hh,hb0⟩)
 have HX:Hid (Has2 w1 w.heap.size (.slice (some ⟨sb,so,none⟩) N kr) (.slice (some ⟨tb,t0,none⟩) N kc)):=Has2.keep ⟨by go_simp,by go_simp,by go_simp,by go_simp,by go_size⟩ hb0
 have HB:Below w.heap.size w w1:=later (by go_grown) hb0
 have HH:Hid (∀r,r<N→w.heap.size<h r):=fun r hr=>by have:=hh r hr;simp only [World.size_alloc] at this;omega
 clear hb0 hh cg
 go_loopg [13] N (fun G s13 wx=>Below w.heap.size w wx∧∃(i:Nat) (F:Nat→Nat→Nat×Nat),i+G=N∧s13=.int .i64 (i:Int)∧Grd wx g N N h F∧Hid (Has2 wx w.heap.size (.slice (some ⟨sb,so,none⟩) N kr) (.slice (some ⟨tb,t0,none⟩) N kc))∧Hid (∀r,r<N→∀c,c<N→Hq (F r c) (vq (key (X r c))*scQ P Q i 0 r c)))
 case atStart=>exact⟨HB,0,_,by omega,rfl,G0,HX,PW⟩
 case round =>
   clear HB G0 HX PW
   obtain⟨HB,i,F,hi,rfl,G0,HX,HF⟩:=hrel
   by_cases ci:i=N
   · subst ci
     go_wp2_with fail
     go_ret
     exact⟨g,h,F,rfl,G0,fun r hr c hc=>by rw [←scQ_end P Q hr];exact HF.out r hr c hc,HB⟩
   · have hlti:(i:Int)<(N:Int):=by omega
     obtain⟨g0, -⟩:=G0.out.2 i (by omega)
     go_wp2_with fail
     clear g0
     go_loopg [21] N (fun G s21 wy=>Below w.heap.size w wy∧∃(j:Nat) (F:Nat→Nat→Nat×Nat),j+G=N∧s21=.int .i64 (j:Int)∧Grd wy g N N h F∧Hid (Has2 wy w.heap.size (.slice (some ⟨sb,so,none⟩) N kr) (.slice (some ⟨tb,t0,none⟩) N kc))∧Hid (∀r,r<N→∀c,c<N→Hq (F r c) (vq (key (X r c))*scQ P Q i j r c)))
     case atStart=>exact⟨HB,0,F,by omega,rfl,G0,HX,HF⟩
     case round =>
       clear HB G0 HX HF F
       obtain⟨HB,j,F,hj,rfl,G0,HX,HF⟩:=hrel
       by_cases cj:j=N
       · subst cj
         go_wp2_with fail
         go_roundg (j-i-1)
         case measure=>omega
         case rel=>exact⟨HB,i+1,F,by omega,by go_num,G0,HX,fun r hr c hc=>by rw [←scQ_next P Q hc];exact HF.out r hr c hc⟩
       · have hltj:(j:Int)<(N:Int):=by omega
         obtain⟨i0,i1, -, -⟩:=id ((G0.row i (by omega)).2 j (by omega))
         have hq0:=HF.out i (by omega) j (by omega)
         rw [(scQ_here P Q i j).1,show vq (key (X i j))*1=vq (key (X i j)) by grind] at hq0
         have l1:=hq0.l1
         have l2:=hq0.l2
         obtain⟨b4,o4,hA4,lb4,u0,p1,p2⟩:=(U.keep HB) i (by omega)
         simp only [Option.some.injEq,Addr.mk.injEq,and_true] at hA4
         obtain⟨rfl,rfl⟩:=hA4
         obtain⟨b5,o5,hA5,lb5,y0,q1,q2⟩:=(T.keep HB) j (by omega)
         simp only [Option.some.injEq,Addr.mk.injEq,and_true] at hA5
         obtain⟨rfl,rfl⟩:=hA5
         have cc:=fun w=>tp_w (F i j).1 (F i j).2 (-(P i)-Q j) l1 l2 (by omega) (by omega) w
         have tl:Hid (Hq (tpP ((F i j).1,(F i j).2) (-(P i)-Q j)) (vq (key (X i j))*scQ P Q i (j+1) i j)):=by rw [(scQ_here P Q i j).2];exact hq_tp hq0 _
         clear hq0
         obtain⟨x,hx⟩:∃x,F i j=x:=⟨_,rfl⟩
         rw [hx] at i0 i1 cc tl l1 l2
         generalize tpP (x.1,x.2) (-(P i)-Q j)=z at *
         clear hx
         generalize P i=pi at cc u0 p1 p2
         generalize Q j=qj at cc y0 q1 q2
         go_upto_region 8 with fail
         have hbA:Below wr.heap.size wr (wr.alloc (Obj.cells #[.float .f64 x.1,.float .f64 x.2] 36)):=(Below.refl _ _).alloc (Nat.le_refl _) _
         have X2:Has2 (wr.alloc (Obj.cells #[.float .f64 x.1,.float .f64 x.2] 36)) wr.heap.size (.float .f64 x.1) (.float .f64 x.2):=⟨by go_simp,by go_simp,by go_simp,by go_simp,by go_size⟩
         replace u0:=keepsC hbA u0 lb4
         replace lb4:=Nat.lt_of_lt_of_le lb4 hbA.size
         replace y0:=keepsC hbA y0 lb5
         replace lb5:=Nat.lt_of_lt_of_le lb5 hbA.size
         replace HX:Hid (Has2 (wr.alloc (Obj.cells #[.float .f64 x.1,.float .f64 x.2] 36)) w.heap.size (.slice (some ⟨sb,so,none⟩) N kr) (.slice (some ⟨tb,t0,none⟩) N kc)):=HX.out.keep hbA
         replace G0:=G0.keep hbA
         replace HB:=later HB hbA
         clear i0 i1 hbA
         generalize wr.alloc (Obj.cells #[.float .f64 x.1,.float .f64 x.2] 36)=V1 at *
         generalize wr.heap.size=bx at *
         obtain⟨x0,x1, -, -,x4⟩:=HX.out
         obtain⟨g0, -⟩:=G0.out.2 i (by omega)
         have gl:=G0.out.1
         have k0:=fun n:Behind V1=>n.cell g0 gl
         have k1:=fun n:Behind V1=>n.cell X2.1 X2.2.2.2.2
         have k2:=fun n:Behind V1=>n.cell X2.2.1 X2.2.2.2.2
         have k4:=fun n:Behind V1=>n.cell u0 lb4
         have k5:=fun n:Behind V1=>n.cell y0 lb5
         have k6:=fun n:Behind V1=>n.cell x0 x4
         have k7:=fun n:Behind V1=>n.cell x1 x4
         refine tail_behind 19 (by kernel_rfl) (by kernel_rfl) ?_
         simp only [List.take_succ_cons,List.take_zero,List.drop_succ_cons,List.drop_zero]
         repeat (go_big_quiet_step (first
           | (go_at_call 40;with_reducible refine Behind.call (cc _))))
         refine wpQuiet_nil ?_
         rintro _ ⟨q,rfl⟩
         obtain⟨W,hb1⟩:=q
         dsimp only
         clear k0 k1 k2 k4 k5 k6 k7 g0 gl u0 y0 x0 x1 cc X2
         replace G0:=G0.keep hb1
         replace HB:=later HB hb1
         replace HX:Hid (Has2 W w.heap.size (.slice (some ⟨sb,so,none⟩) N kr) (.slice (some ⟨tb,t0,none⟩) N kc)):=HX.out.keep hb1
         clear hb1
         obtain⟨i0,i1,f0,f1⟩:=id ((G0.row i (by omega)).2 j (by omega))
         go_wp2_with fail
         go_roundg (N-j-1)
         case measure=>omega
         case rel =>
           have hhi:=HH.out i (by omega)
           refine⟨?_,j+1,_,by omega,by go_num,G0.set i j _ _ (by omega) (by omega),HX.out.block ?_ (by go_size),fun r hr c hc=>?_⟩
           · repeat' (first | (with_reducible exact HB) | (with_reducible refine Below.setCell ?_ ?_ _) | go_size | omega)
           · rw [Below.heap_setCell _ _ _ _ (by show w.heap.size≠h i;omega),Below.heap_setCell _ _ _ _ (by show w.heap.size≠h i;omega)]
           · by_cases e:r=i∧c=j
             · rw [if_pos e,e.1,e.2]
               exact tl.out
             · rw [if_neg e,←scQ_other P Q e]
               exact HF.out r hr c hc
end Go.Proofs.YtlabmpngbcnhpaaGreat
