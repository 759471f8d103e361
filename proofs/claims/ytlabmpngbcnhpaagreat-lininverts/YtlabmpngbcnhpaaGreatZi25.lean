/- Intervals hold rational numbers: sums, negatives, differences, products. Systems of linear equations over the rational numbers: fewer equations than unknowns have a solution that is not nought; a matrix with a near inverse has none. -/
import Derived.Test.YtlabmpngbcnhpaaGreatZi24
namespace Go.Proofs.YtlabmpngbcnhpaaGreat
open Go.ChangeShapes Go.WideShapes Go.ChangeAt Go.RowKit
def expN:Nat:=1074
def unitN:Nat:=2^expN
theorem unitN_pos:0<unitN:=Nat.two_pow_pos expN
def iuQ:Rat:=((unitN:Int):Rat)⁻¹
theorem unitQ_pos:(0:Rat)<((unitN:Int):Rat):=by
 have:=unitN_pos
 exact Rat.intCast_pos.2 (by omega)
theorem iuQ_pos:0<iuQ:=Rat.inv_pos.2 unitQ_pos
theorem iuQ_one:((unitN:Int):Rat)*iuQ=1:=Rat.mul_inv_cancel _ (by have:=unitQ_pos;grind)
def vq (k:Int):Rat:=(V k:Rat)*iuQ
theorem vq_le {k l:Int} (h:k≤l):vq k≤vq l:=Rat.mul_le_mul_of_nonneg_right (Rat.intCast_le_intCast.2 (V_mono_le h)) (Rat.le_of_lt iuQ_pos)
theorem vq_neg (k:Int):vq (-k)=- vq k:=by
 unfold vq
 rw [V_neg,Rat.intCast_neg]
 grind
theorem vq_zero:vq 0=0:=by
 unfold vq
 rw [V_zero]
 grind
theorem vq_nonneg {k:Int} (h:0≤k):0≤vq k:=by have:=vq_le h;rw [vq_zero] at this;exact this
theorem vq_npos {k:Int} (h:k≤0):vq k≤0:=by have:=vq_le h;rw [vq_zero] at this;exact this
def LoQ (k:Int) (x:Rat):Prop:=k=-9218868437227405312∨vq k≤x
theorem LoQ.mono {k l:Int} {x:Rat} (h:LoQ k x) (hl:l≤k) (hb:-9218868437227405312≤l):LoQ l x:=by
 rcases h with h | h
 · exact Or.inl (by omega)
 · exact Or.inr (Rat.le_trans (vq_le hl) h)
theorem LoQ.less {k:Int} {x y:Rat} (h:LoQ k x) (hy:x≤y):LoQ k y:=h.imp id (fun q=>Rat.le_trans q hy)
theorem down_le {N:Int} {D:Nat} {k:Int} (h:KDown (exQ N D) k):k=-9218868437227405312∨2*V k*(D:Int)≤N:=h.low
theorem add_loF {a b:Nat} (ha:a<18446744073709551616) (hb:b<18446744073709551616) (fa:finB a=true) (fb:finB b=true):LoQ (key (addF a b (-1))) (vq (key a)+vq (key b)):=by
 rcases down_le (addF_down ha hb fa fb) with h | h
 · exact Or.inl h
 · refine Or.inr ?_
   have h1:V (key (addF a b (-1)))≤V (key a)+V (key b):=by omega
   have h2:=Rat.mul_le_mul_of_nonneg_right (Rat.intCast_le_intCast.2 h1) (Rat.le_of_lt iuQ_pos)
   rw [Rat.intCast_add] at h2
   unfold vq
   grind
theorem mul_loF {a b r:Nat} (ha:a<18446744073709551616) (hb:b<18446744073709551616) (fa:finB a=true) (fb:finB b=true) (h:mulR a b (-1)=some r):LoQ (key r) (vq (key a)*vq (key b)):=by
 obtain⟨u,hu⟩:∃u:Nat,u=1073:=⟨_,rfl⟩
 rcases down_le (mulR_down hu ha hb fa fb h) with h | h
 · exact Or.inl h
 · refine Or.inr ?_
   have e:2*(2^u:Nat)=unitN:=by unfold unitN;rw [show expN=u+1 by rw [hu];rfl,Nat.pow_succ']
   have e2:((2^u:Nat):Int)*2=(unitN:Int):=by omega
   have h1:V (key r)*(unitN:Int)≤V (key a)*V (key b):=by
     rw [←e2]
     have:V (key r)*(((2^u:Nat):Int)*2)=2*V (key r)*((2^u:Nat):Int):=by
       rw [Int.mul_comm 2,Int.mul_assoc,Int.mul_comm ((2^u:Nat):Int) 2]
     omega
   clear e e2 hu
   have i0:=iuQ_pos
   have i1:=iuQ_one
   have h2:=Rat.mul_le_mul_of_nonneg_right (Rat.intCast_le_intCast.2 h1) (Rat.mul_nonneg (Rat.le_of_lt i0) (Rat.le_of_lt i0))
   rw [Rat.intCast_mul,Rat.intCast_mul] at h2
   unfold vq
   generalize (V (key r):Rat)=R at *
   generalize (V (key a):Rat)=A at *
   generalize (V (key b):Rat)=B at *
   generalize ((unitN:Int):Rat)=U at *
   generalize iuQ=i at *
   have e3:R*U*(i*i)=R*i:=by grind
   have e4:A*B*(i*i)=A*i*(B*i):=by grind
   rw [e3,e4] at h2
   exact h2
structure Hq (p:Nat×Nat) (x:Rat):Prop where
 l1:p.1<18446744073709551616
 l2:p.2<18446744073709551616
 S:Some2 p.1 p.2
 lo:LoQ (key p.1) x
 hi:LoQ (-key p.2) (-x)
theorem fin_two {a:Nat} (ha:a<18446744073709551616) (na:nanB a=false) (h1:key a≠9218868437227405312) (h2:key a≠-9218868437227405312):finB a=true:=by
 cases f:finB a
 · rcases (key_inf ha na).1 f with c | c
   · exact absurd c h1
   · exact absurd c h2
 · rfl
theorem add_lo {a b l:Nat} {x y:Rat} (ha:a<18446744073709551616) (hb:b<18446744073709551616) (na:nanB a=false) (nb:nanB b=false) (ka:key a<9218868437227405312) (kb:key b<9218868437227405312)
   (X:LoQ (key a) x) (Y:LoQ (key b) y) (e:addR a b (-1)=some l):LoQ (key l) (x+y):=by
 by_cases c1:key a=-9218868437227405312
 · rw [addR_bot ha na c1 e];exact Or.inl c1
 by_cases c2:key b=-9218868437227405312
 · exact Or.inl (addR_bot2 ha hb na nb c2 e)
 have fa:=fin_two ha na (by omega) c1
 have fb:=fin_two hb nb (by omega) c2
 rw [addR_fin (-1) fa fb] at e
 obtain rfl:=Option.some.inj e
 rcases X with X | X
 · exact absurd X c1
 rcases Y with Y | Y
 · exact absurd Y c2
 exact (add_loF ha hb fa fb).less (by grind)
theorem hq_add {p q:Nat×Nat} {x y:Rat} (X:Hq p x) (Y:Hq q y):Hq (addP p.1 p.2 q.1 q.2) (x+y):=by
 obtain⟨l,u,e1,e2,A,l1,l2⟩:=add_some X.l1 X.l2 Y.l1 Y.l2 X.S Y.S
 have e:addP p.1 p.2 q.1 q.2=(l,u):=by unfold addP;rw [hs_iff.2 X.S,hs_iff.2 Y.S,e1,e2];rfl
 rw [e]
 refine⟨l1,l2,A,add_lo X.l1 Y.l1 X.S.nl Y.S.nl X.S.lt Y.S.lt X.lo Y.lo e1, ?_⟩
 have m:=addR_mirror (negB_lt X.l2) (negB_lt Y.l2)
 rw [negB_negB X.l2,negB_negB Y.l2,e2] at m
 rcases m with ⟨_,m⟩ | ⟨v,t,m1,m2,m3,m4,m5⟩
 · cases m
 · obtain rfl:=Option.some.inj m2
   rw [m5,Int.neg_neg,show -(x+y)=-x+-y by grind]
   have k1:=X.S.gt
   have k2:=Y.S.gt
   exact add_lo (negB_lt X.l2) (negB_lt Y.l2) (by rw [nanB_negB X.l2];exact X.S.nh) (by rw [nanB_negB Y.l2];exact Y.S.nh) (by rw [key_negB X.l2];omega) (by rw [key_negB Y.l2];omega) (by rw [key_negB X.l2];exact X.hi) (by rw [key_negB Y.l2];exact Y.hi) m1
theorem hq_neg {p:Nat×Nat} {x:Rat} (X:Hq p x):Hq (negP (p.1,p.2)) (-x):=by
 have e:negP (p.1,p.2)=mirrorP (p.1,p.2):=by unfold negP;rw [if_pos (hs_iff.2 X.S)]
 obtain⟨S,k1,k2,l1,l2⟩:=mirror_some X.l1 X.l2 X.S
 rw [e]
 refine⟨l1,l2,S,by rw [k1];exact X.hi, ?_⟩
 rw [k2,Int.neg_neg,show - -x=x by grind]
 exact X.lo
theorem hq_sub {p q:Nat×Nat} {x y:Rat} (X:Hq p x) (Y:Hq q y):Hq (addP p.1 p.2 (negP (q.1,q.2)).1 (negP (q.1,q.2)).2) (x-y):=by
 rw [show x-y=x+-y by grind]
 exact hq_add X (hq_neg Y)
theorem corner {a b:Nat} {t:Rat} (ha:a<18446744073709551616) (hb:b<18446744073709551616) (na:nanB a=false) (nb:nanB b=false) (ka:key a≤0) (kb:0≤key b)
   (hf:finB a=true→finB b=true→vq (key a)*vq (key b)≤t) (hz:key a=0∨key b=0→0≤t):LoQ (key (mulV a b (-1))) t:=by
 have e:=mulV_is (-1) na nb
 by_cases f:(finB a&&finB b)=true
 · obtain⟨fa,fb⟩:=Bool.and_eq_true_iff.1 f
   exact (mul_loF ha hb fa fb e).less (hf fa fb)
 · have f':(finB a&&finB b)=false:=by simpa using f
   have p1:=V_npos ka
   have p2:=V_nonneg kb
   rcases mulR_inf ha hb na nb f' e (by have:=Int.mul_nonneg (show 0≤-V (key a) by omega) p2;rw [Int.neg_mul] at this;omega) with ⟨z,k⟩ | k
   · refine Or.inr ?_
     rw [k,vq_zero]
     refine hz ?_
     rcases Int.mul_eq_zero.1 z with c | c
     · exact Or.inl (V_inj0.1 c)
     · exact Or.inr (V_inj0.1 c)
   · exact Or.inl k
theorem corner_f {a b:Nat} {t:Rat} (ha:a<18446744073709551616) (hb:b<18446744073709551616) (fa:finB a=true) (fb:finB b=true) (h:vq (key a)*vq (key b)≤t):LoQ (key (mulV a b (-1))) t :=
 (mul_loF ha hb fa fb (mulV_is (-1) (fin_not_nan fa) (fin_not_nan fb))).less h
theorem mul_nn {a b:Rat} (h:0≤a) (k:0≤b):0≤a*b:=Rat.mul_nonneg h k
theorem prod_low {a d x y:Rat} (h1:a≤x) (h2:y≤d) (h3:a≤0) (h4:0≤y):a*d≤x*y:=by
 have q1:=mul_nn (show 0≤x-a by grind) h4
 have q2:=mul_nn (show 0≤-a by grind) (show 0≤d-y by grind)
 grind
theorem rat_anti {x:Rat} (h:0≤x) (k:x≤0):x=0:=Rat.le_antisymm k h
theorem prod_two {a b x y:Rat} (h1:0≤a) (h2:0≤b) (h3:a≤x) (h4:b≤y):a*b≤x*y:=by
 have q1:=mul_nn (show 0≤x-a by grind) (show 0≤y by grind)
 have q2:=mul_nn h1 (show 0≤y-b by grind)
 grind
theorem prod_neg {a b x y:Rat} (h1:a≤0) (h2:b≤0) (h3:x≤a) (h4:y≤b):a*b≤x*y:=by
 have:=prod_two (show 0≤-a by grind) (show 0≤-b by grind) (show -a≤-x by grind) (show -b≤-y by grind)
 grind
theorem prod_npos {x y:Rat} (h1:x≤0) (h2:y≤0):0≤x*y:=by
 have:=mul_nn (show 0≤-x by grind) (show 0≤-y by grind)
 grind
theorem lo_any {a b:Nat} (ha:a<18446744073709551616) (hb:b<18446744073709551616) (na:nanB a=false) (nb:nanB b=false) (ka:key a≤0) (kb:0≤key b):LoQ (key (mulV a b (-1))) 0 :=
 corner ha hb na nb ka kb (fun _ _=>by
   have:=mul_nn (show 0≤-vq (key a) by have:=vq_npos ka;grind) (vq_nonneg kb)
   grind) (fun _=>Rat.le_refl)
theorem low_holds {p q:Nat×Nat} {x y:Rat} (X:Hq p x) (Y:Hq q y):LoQ (lowK p.1 p.2 q.1 q.2) (x*y):=by
 obtain⟨f1,f2,f3,f4,f5,f6,f7⟩:=low_four X.l1 X.l2 Y.l1 Y.l2 X.S.nl X.S.nh Y.S.nl Y.S.nh X.S.le Y.S.le
 have kx:=X.S.le
 have ky:=Y.S.le
 have gx:=X.S.gt
 have gy:=Y.S.gt
 have lx:=X.S.lt
 have ly:=Y.S.lt
 have xh:key p.2≠9218868437227405312→x≤vq (key p.2):=fun c=>by
   rcases X.hi with h | h
   · omega
   · rw [vq_neg] at h;grind
 have yh:key q.2≠9218868437227405312→y≤vq (key q.2):=fun c=>by
   rcases Y.hi with h | h
   · omega
   · rw [vq_neg] at h;grind
 have xl:key p.1≠-9218868437227405312→vq (key p.1)≤x:=fun c=>by
   rcases X.lo with h | h
   · omega
   · exact h
 have yl:key q.1≠-9218868437227405312→vq (key q.1)≤y:=fun c=>by
   rcases Y.lo with h | h
   · omega
   · exact h
 have fin1:∀{a:Nat},a<18446744073709551616→finB a=true→key a≠9218868437227405312∧key a≠-9218868437227405312:=fun ha f=>by
   have:=fin_key ha f
   omega
 have xp:0≤key p.1→0≤x:=fun c=>Rat.le_trans (vq_nonneg c) (xl (by omega))
 have yp:0≤key q.1→0≤y:=fun c=>Rat.le_trans (vq_nonneg c) (yl (by omega))
 have xn:key p.2≤0→x≤0:=fun c=>Rat.le_trans (xh (by omega)) (vq_npos c)
 have yn:key q.2≤0→y≤0:=fun c=>Rat.le_trans (yh (by omega)) (vq_npos c)
 have cA:key q.1≤0→0≤key p.2→(0≤x→LoQ (key (mulV p.2 q.1 (-1))) (x*y)):=fun c1 c2 hx=>by
   rw [mulV_comm]
   refine corner Y.l1 X.l2 Y.S.nl X.S.nh c1 c2 (fun fa fb=>?_) (fun z=>?_)
   · rw [Rat.mul_comm x y]
     exact prod_low (yl (fin1 Y.l1 fa).2) (xh (fin1 X.l2 fb).1) (vq_npos c1) hx
   · rcases z with z | z
     · exact mul_nn hx (yp (by omega))
     · rw [rat_anti hx (xn (by omega)),Rat.zero_mul]
       exact Rat.le_refl
 have cB:key p.1≤0→0≤key q.2→(0≤y→LoQ (key (mulV p.1 q.2 (-1))) (x*y)):=fun c1 c2 hy=>by
   refine corner X.l1 Y.l2 X.S.nl Y.S.nh c1 c2 (fun fa fb=>?_) (fun z=>?_)
   · exact prod_low (xl (fin1 X.l1 fa).2) (yh (fin1 Y.l2 fb).1) (vq_npos c1) hy
   · rcases z with z | z
     · exact mul_nn (xp (by omega)) hy
     · rw [rat_anti hy (yn (by omega)),Rat.mul_zero]
       exact Rat.le_refl
 have bot:∀a b,a<18446744073709551616→b<18446744073709551616→nanB a=false→nanB b=false→-9218868437227405312≤key (mulV a b (-1)):=fun a b _ _ na nb=>(key_range (mulV_facts (-1) na nb).2 (mulV_facts (-1) na nb).1).1
 by_cases a1:0≤key p.1
 · have hx:=xp a1
   by_cases a2:key q.1<0
   · rw [f1 a1 a2]
     exact cA (by omega) (by omega) hx
   · rw [f2 a1 (by omega)]
     have hy:=yp (by omega)
     refine corner_f X.l1 Y.l1 (fin_two X.l1 X.S.nl (by omega) (by omega)) (fin_two Y.l1 Y.S.nl (by omega) (by omega)) ?_
     exact prod_two (vq_nonneg a1) (vq_nonneg (by omega)) (xl (by omega)) (yl (by omega))
 by_cases a3:key p.2≤0
 · have hx:=xn a3
   by_cases a4:0<key q.2
   · rw [f3 a3 a4]
     by_cases hy:0≤y
     · exact cB (by omega) (by omega) hy
     · refine (lo_any X.l1 Y.l2 X.S.nl Y.S.nh (by omega) (by omega)).less (prod_npos hx ?_)
       exact Rat.le_of_lt (Rat.not_le.1 hy)
   · rw [f4 a3 (by omega)]
     refine corner_f X.l2 Y.l2 (fin_two X.l2 X.S.nh (by omega) (by omega)) (fin_two Y.l2 Y.S.nh (by omega) (by omega)) ?_
     exact prod_neg (vq_npos a3) (vq_npos (by omega)) (xh (by omega)) (yh (by omega))
 have dA:key q.1≤0→LoQ (key (mulV p.2 q.1 (-1))) 0:=fun c=>by
   rw [mulV_comm]
   exact lo_any Y.l1 X.l2 Y.S.nl X.S.nh c (by omega)
 have dB:0≤key q.2→LoQ (key (mulV p.1 q.2 (-1))) 0:=fun c=>lo_any X.l1 Y.l2 X.S.nl Y.S.nh (by omega) c
 by_cases a5:0≤key q.1
 · rw [f5 (by omega) (by omega) a5]
   exact cB (by omega) (by omega) (yp a5)
 by_cases a6:key q.2≤0
 · rw [f6 (by omega) (by omega) a6]
   by_cases hx:0≤x
   · exact cA (by omega) (by omega) hx
   · exact (dA (by omega)).less (prod_npos (Rat.le_of_lt (Rat.not_le.1 hx)) (yn a6))
 rw [f7 (by omega) (by omega) (by omega) (by omega)]
 have b1:=bot p.1 q.2 X.l1 Y.l2 X.S.nl Y.S.nh
 have b2:=bot p.2 q.1 X.l2 Y.l1 X.S.nh Y.S.nl
 have m1:LoQ (key (mulV p.1 q.2 (-1))) (x*y)∨LoQ (key (mulV p.2 q.1 (-1))) (x*y):=by
   by_cases hy:0≤y
   · exact Or.inl (cB (by omega) (by omega) hy)
   · by_cases hx:0≤x
     · exact Or.inr (cA (by omega) (by omega) hx)
     · exact Or.inl ((dB (by omega)).less (prod_npos (Rat.le_of_lt (Rat.not_le.1 hx)) (Rat.le_of_lt (Rat.not_le.1 hy))))
 rcases m1 with m | m
 · exact m.mono (by omega) (by omega)
 · exact m.mono (by omega) (by omega)
theorem hq_mul {p q:Nat×Nat} {x y:Rat} (X:Hq p x) (Y:Hq q y):Hq (mulP p.1 p.2 q.1 q.2) (x*y):=by
 obtain⟨Z,k1,k2⟩:=mul_keys X.l1 X.l2 Y.l1 Y.l2 X.S Y.S
 have w:=mulP_lt X.l1 X.l2 Y.l1 Y.l2
 refine⟨w.1,w.2,Z,by rw [k1];exact low_holds X Y, ?_⟩
 have N:=hq_neg X
 have e:negP (p.1,p.2)=mirrorP (p.1,p.2):=by unfold negP;rw [if_pos (hs_iff.2 X.S)]
 have t:=low_holds N Y
 rw [k2,top_low X.l1 X.l2 X.S.nl X.S.nh Y.S.nl Y.S.nh,Int.neg_neg,show -(x*y)=-x*y by grind]
 have q1:lowK (negP (p.1,p.2)).1 (negP (p.1,p.2)).2 q.1 q.2=lowK (negB p.2) (negB p.1) q.1 q.2:=by
   obtain⟨v,H⟩:=held_some X.l1 X.l2 X.S
   rw [e]
   unfold mirrorP makeP
   have hs:hsB (pz (negB p.2)) (pz (negB p.1))=true:=by
     have:=N.S
     rw [e] at this
     unfold mirrorP makeP at this
     cases hh:hsB (pz (negB p.2)) (pz (negB p.1))
     · rw [hh] at this
       simp only [Bool.false_eq_true,if_false] at this
       exact absurd this.le (by decide)
     · rfl
   rw [hs]
   simp only [if_true]
   exact lowK_pz _ _ _ _
 rw [←q1]
 exact t
theorem hq_point {a:Nat} (ha:a<18446744073709551616) (fa:finB a=true):Hq (makeP a a) (vq (key a)):=by
 have n:=fin_not_nan fa
 have k:=fin_key ha fa
 have hs:hsB (pz a) (pz a)=true:=by
   refine hs_iff.2 ⟨by rw [nan_pz];exact n,by rw [nan_pz];exact n,Int.le_refl _,by rw [key_pz];omega,by rw [key_pz];omega,pz_ne a,pz_ne a⟩
 have e:makeP a a=(pz a,pz a):=by unfold makeP;rw [hs];rfl
 rw [e]
 refine⟨pz_lt ha,pz_lt ha,hs_iff.1 hs,Or.inr (by rw [key_pz];exact Rat.le_refl),Or.inr ?_⟩
 rw [key_pz,vq_neg]
 exact Rat.le_refl
def sumQ (f:Nat→Rat):Nat→Rat
 | 0=>0
 | n+1=>sumQ f n+f n
theorem sumQ_congr {f g:Nat→Rat} {n:Nat} (h:∀i,i<n→f i=g i):sumQ f n=sumQ g n:=by
 induction n with
 | zero=>rfl
 | succ n ih=>rw [sumQ,sumQ,ih (fun i hi=>h i (by omega)),h n (by omega)]
theorem sumQ_zero (n:Nat):sumQ (fun _=>0) n=0:=by
 induction n with
 | zero=>rfl
 | succ n ih=>rw [sumQ,ih];grind
theorem sumQ_add (f g:Nat→Rat) (n:Nat):sumQ (fun i=>f i+g i) n=sumQ f n+sumQ g n:=by
 induction n with
 | zero=>rw [sumQ,sumQ,sumQ];grind
 | succ n ih=>rw [sumQ,sumQ,sumQ,ih];grind
theorem sumQ_sub (f g:Nat→Rat) (n:Nat):sumQ (fun i=>f i-g i) n=sumQ f n-sumQ g n:=by
 induction n with
 | zero=>rw [sumQ,sumQ,sumQ];grind
 | succ n ih=>rw [sumQ,sumQ,sumQ,ih];grind
theorem sumQ_mul (c:Rat) (f:Nat→Rat) (n:Nat):sumQ (fun i=>c*f i) n=c*sumQ f n:=by
 induction n with
 | zero=>rw [sumQ,sumQ];grind
 | succ n ih=>rw [sumQ,sumQ,ih];grind
theorem sumQ_le {f g:Nat→Rat} {n:Nat} (h:∀i,i<n→f i≤g i):sumQ f n≤sumQ g n:=by
 induction n with
 | zero=>exact Rat.le_refl
 | succ n ih =>
   rw [sumQ,sumQ]
   have h1:=ih (fun i hi=>h i (by omega))
   have h2:=h n (by omega)
   grind
theorem sumQ_swap (f:Nat→Nat→Rat) (n m:Nat):sumQ (fun i=>sumQ (fun j=>f i j) m) n=sumQ (fun j=>sumQ (fun i=>f i j) n) m:=by
 induction n with
 | zero =>
   rw [sumQ]
   exact (sumQ_zero m).symm
 | succ n ih =>
   rw [sumQ,ih,←sumQ_add]
   rfl
theorem sumQ_one (f:Nat→Rat) {n k:Nat} (hk:k<n):sumQ (fun i=>if i=k then f i else 0) n=f k:=by
 induction n with
 | zero=>omega
 | succ n ih =>
   rw [sumQ]
   by_cases c:n=k
   · have:sumQ (fun i=>if i=k then f i else 0) n=0:=by
       rw [sumQ_congr (g:=fun _=>0) (fun i hi=>if_neg (by omega)),sumQ_zero]
     rw [this,if_pos c,c]
     grind
   · rw [ih (by omega),if_neg c]
     grind
def skipN (k i:Nat):Nat:=if i<k then i else i+1
theorem sumQ_skip (f:Nat→Rat) {n k:Nat} (hk:k≤n):sumQ f (n+1)=sumQ (fun i=>f (skipN k i)) n+f k:=by
 induction n with
 | zero =>
   have:k=0:=by omega
   subst this
   rfl
 | succ n ih =>
   by_cases c:k=n+1
   · subst c
     rw [sumQ]
     congr 1
     exact sumQ_congr fun i hi=>by rw [skipN,if_pos hi]
   · rw [sumQ,ih (by omega),sumQ,show f (skipN k n)=f (n+1) by rw [skipN,if_neg (by omega)]]
     grind
theorem fewer {m:Nat}:∀{n:Nat},m<n→∀A:Nat→Nat→Rat,∃v:Nat→Rat,(∃k,k<n∧v k≠0)∧∀r,r<m→sumQ (fun c=>A r c*v c) n=0:=by
 induction m with
 | zero =>
   intro n hn A
   exact⟨fun _=>1,⟨0,hn,by decide⟩,fun r hr=>by omega⟩
 | succ m ih =>
   intro n hn A
   obtain⟨n,rfl⟩:∃n',n=n'+1:=⟨n-1,by omega⟩
   by_cases c:∃k,k<n+1∧A m k≠0
   · obtain⟨k,hk,hA⟩:=c
     obtain⟨v,⟨j,hj,hv⟩,hz⟩:=ih (show m<n by omega) (fun r i=>A r (skipN k i)-A r k*(A m k)⁻¹*A m (skipN k i))
     let t:Rat:=- ((A m k)⁻¹*sumQ (fun i=>A m (skipN k i)*v i) n)
     let u:Nat→Rat:=fun c=>if c<k then v c else if c=k then t else v (c-1)
     have uk:u k=t:=by show (if k<k then v k else if k=k then t else v (k-1))=t;rw [if_neg (by omega),if_pos rfl]
     have us:∀i,u (skipN k i)=v i:=fun i=>by
       show (if skipN k i<k then v (skipN k i) else if skipN k i=k then t else v (skipN k i-1))=v i
       unfold skipN
       by_cases z:i<k
       · rw [if_pos z,if_pos z]
       · rw [if_neg z,if_neg (by omega),if_neg (by omega)]
         rfl
     have inv:A m k*(A m k)⁻¹=1:=Rat.mul_inv_cancel _ hA
     have all:∀r,sumQ (fun c=>A r c*u c) (n+1)=sumQ (fun i=>A r (skipN k i)*v i) n+A r k*t:=fun r=>by
       rw [sumQ_skip _ (show k≤n by omega),uk]
       congr 1
       exact sumQ_congr fun i _=>by rw [us]
     refine⟨u,⟨skipN k j,by unfold skipN;split <;> omega,by rw [us];exact hv⟩,fun r hr=>?_⟩
     rw [all]
     by_cases e:r=m
     · subst e
       show _+A r k * -((A r k)⁻¹*_)=0
       generalize sumQ (fun i=>A r (skipN k i)*v i) n=s
       grind
     · have h0:=hz r (by omega)
       have e1:sumQ (fun c=>(A r (skipN k c)-A r k*(A m k)⁻¹*A m (skipN k c))*v c) n=sumQ (fun i=>A r (skipN k i)*v i) n-A r k*(A m k)⁻¹*sumQ (fun i=>A m (skipN k i)*v i) n:=by
         rw [←sumQ_mul,←sumQ_sub]
         exact sumQ_congr fun i _=>by grind
       rw [e1] at h0
       show _+A r k * -((A m k)⁻¹*_)=0
       grind
   · obtain⟨v,hv,hz⟩:=ih (show m<n+1 by omega) A
     refine⟨v,hv,fun r hr=>?_⟩
     by_cases e:r=m
     · subst e
       rw [sumQ_congr (g:=fun _=>0) (fun i hi=>?_),sumQ_zero]
       have:A r i=0:=by
         by_cases z:A r i=0
         · exact z
         · exact absurd ⟨i,hi,z⟩ c
       rw [this]
       grind
     · exact hz r (by omega)
def absQ (x:Rat):Rat:=if x<0 then -x else x
theorem absQ_nonneg (x:Rat):0≤absQ x:=by unfold absQ;split <;> grind
theorem absQ_le {x y:Rat}:absQ x≤y↔x≤y∧-x≤y:=by unfold absQ;split <;> grind
theorem absQ_zero {x:Rat} (h:absQ x≤0):x=0:=by
 have:=absQ_le.1 h
 grind
theorem absQ_add (x y:Rat):absQ (x+y)≤absQ x+absQ y:=by unfold absQ;split <;> split <;> split <;> grind
theorem absQ_mul (x y:Rat):absQ (x*y)≤absQ x*absQ y:=by
 rw [absQ_le]
 have hx:=absQ_le.1 (Rat.le_refl (a:=absQ x))
 have hy:=absQ_le.1 (Rat.le_refl (a:=absQ y))
 have q1:=Rat.mul_nonneg (show 0≤absQ x-x by grind) (show 0≤absQ y+y by grind)
 have q2:=Rat.mul_nonneg (show 0≤absQ x+x by grind) (show 0≤absQ y-y by grind)
 have q3:=Rat.mul_nonneg (show 0≤absQ x-x by grind) (show 0≤absQ y-y by grind)
 have q4:=Rat.mul_nonneg (show 0≤absQ x+x by grind) (show 0≤absQ y+y by grind)
 generalize absQ x=a at *
 generalize absQ y=b at *
 constructor <;> grind
theorem sumQ_abs (f:Nat→Rat) (n:Nat):absQ (sumQ f n)≤sumQ (fun i=>absQ (f i)) n:=by
 induction n with
 | zero=>exact (by decide:absQ 0≤0)
 | succ n ih =>
   rw [sumQ,sumQ]
   have:=absQ_add (sumQ f n) (f n)
   grind
theorem greatest (v:Nat→Rat):∀n,0<n→∃i,i<n∧∀j,j<n→absQ (v j)≤absQ (v i):=by
 intro n
 induction n with
 | zero=>intro h;omega
 | succ n ih =>
   intro _
   by_cases c:n=0
   · subst c
     exact⟨0,by omega,fun j hj=>by rw [show j=0 by omega];exact Rat.le_refl⟩
   · obtain⟨i,hi,h⟩:=ih (by omega)
     by_cases d:absQ (v n)≤absQ (v i)
     · refine⟨i,by omega,fun j hj=>?_⟩
       by_cases e:j=n
       · rw [e];exact d
       · exact h j (by omega)
     · refine⟨n,by omega,fun j hj=>?_⟩
       by_cases e:j=n
       · rw [e];exact Rat.le_refl
       · have:=h j (by omega)
         grind
theorem shrinks {n:Nat} {E:Nat→Nat→Rat} (hE:∀i,i<n→sumQ (fun c=>absQ (E i c)) n<1) {v:Nat→Rat} (hv:∀i,i<n→v i=sumQ (fun c=>E i c*v c) n):∀i,i<n→v i=0:=by
 intro i hi
 obtain⟨k,hk,hg⟩:=greatest v n (by omega)
 have h1:=hv k hk
 have h2:absQ (v k)≤sumQ (fun c=>absQ (E k c*v c)) n:=by
   have:=sumQ_abs (fun c=>E k c*v c) n
   rw [←h1] at this
   exact this
 have h3:sumQ (fun c=>absQ (E k c*v c)) n≤sumQ (fun c=>absQ (v k)*absQ (E k c)) n:=sumQ_le fun c hc=>by
   have a:=absQ_mul (E k c) (v c)
   have b:=Rat.mul_nonneg (absQ_nonneg (E k c)) (show 0≤absQ (v k)-absQ (v c) by have:=hg c hc;grind)
   grind
 rw [sumQ_mul] at h3
 have h4:=hE k hk
 have h5:=absQ_nonneg (v k)
 have h6:absQ (v k)≤0:=by
   by_cases z:absQ (v k)≤0
   · exact z
   · have h7:=Rat.mul_pos (show 0<absQ (v k) by grind) (show 0<1-sumQ (fun c=>absQ (E k c)) n by grind)
     generalize sumQ (fun c=>absQ (E k c)) n=s at *
     generalize absQ (v k)=a at *
     grind
 exact absQ_zero (by have:=hg i hi;grind)
theorem regular {n:Nat} {R B:Nat→Nat→Rat} (hE:∀i,i<n→sumQ (fun c=>absQ ((if i=c then 1 else 0)-sumQ (fun k=>R i k*B k c) n)) n<1) {v:Nat→Rat} (hv:∀r,r<n→sumQ (fun c=>B r c*v c) n=0):∀i,i<n→v i=0:=by
 refine shrinks hE fun i hi=>?_
 have e1:sumQ (fun c=>((if i=c then 1 else 0)-sumQ (fun k=>R i k*B k c) n)*v c) n=sumQ (fun c=>if c=i then v c else 0) n-sumQ (fun c=>sumQ (fun k=>R i k*(B k c*v c)) n) n:=by
   rw [←sumQ_sub]
   refine sumQ_congr fun c _=>?_
   have:sumQ (fun k=>R i k*(B k c*v c)) n=sumQ (fun k=>R i k*B k c) n*v c:=by
     rw [Rat.mul_comm,←sumQ_mul]
     exact sumQ_congr fun k _=>by grind
   rw [this]
   by_cases z:i=c
   · rw [if_pos z,if_pos z.symm];grind
   · rw [if_neg z,if_neg (fun q=>z q.symm)];grind
 rw [e1,sumQ_one v hi,sumQ_swap]
 have e2:sumQ (fun k=>sumQ (fun c=>R i k*(B k c*v c)) n) n=0:=by
   rw [sumQ_congr (g:=fun _=>0) (fun k hk=>?_),sumQ_zero]
   rw [sumQ_mul,hv k hk]
   grind
 rw [e2]
 grind
end Go.Proofs.YtlabmpngbcnhpaaGreat
