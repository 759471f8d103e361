/- Intervals hold rational numbers: sums, negatives, differences, products. -/
import Derived.Test.YtdnpoacjamkhkaaJb32
namespace Go.Proofs.Ytdnpoacjamkhkaa
open Go.ChangeShapes Go.WideShapes Go.ChangeAt Go.RowKit
def expN:Nat:=1074
def unitN:Nat:=2^expN
theorem unitN_pos:0<unitN:=Nat.two_pow_pos expN
def iuQ:Rat:=((unitN:Int):Rat)⁻¹
theorem unitQ_pos:(0:Rat)<((unitN:Int):Rat):=by
 have:=unitN_pos
 exact Rat.intCast_pos.2 (by omega)
theorem iuQ_pos:0<iuQ:=Rat.inv_pos.2 unitQ_pos
theorem iuQ_one:((unitN:Int):Rat)*iuQ=1:=Rat.mul_inv_cancel _ (by have:=unitQ_pos;grind)
def vq (k:Int):Rat:=(V k:Rat)*iuQ
theorem vq_le {k l:Int} (h:k≤l):vq k≤vq l:=Rat.mul_le_mul_of_nonneg_right (Rat.intCast_le_intCast.2 (V_mono_le h)) (Rat.le_of_lt iuQ_pos)
theorem vq_neg (k:Int):vq (-k)=- vq k:=by
 unfold vq
 rw [V_neg,Rat.intCast_neg]
 grind
theorem vq_zero:vq 0=0:=by
 unfold vq
 rw [V_zero]
 grind
theorem vq_nonneg {k:Int} (h:0≤k):0≤vq k:=by have:=vq_le h;rw [vq_zero] at this;exact this
theorem vq_npos {k:Int} (h:k≤0):vq k≤0:=by have:=vq_le h;rw [vq_zero] at this;exact this
def LoQ (k:Int) (x:Rat):Prop:=k=-9218868437227405312∨vq k≤x
theorem LoQ.mono {k l:Int} {x:Rat} (h:LoQ k x) (hl:l≤k) (hb:-9218868437227405312≤l):LoQ l x:=by
 rcases h with h | h
 · exact Or.inl (by omega)
 · exact Or.inr (Rat.le_trans (vq_le hl) h)
theorem LoQ.less {k:Int} {x y:Rat} (h:LoQ k x) (hy:x≤y):LoQ k y:=h.imp id (fun q=>Rat.le_trans q hy)
theorem down_le {N:Int} {D:Nat} {k:Int} (h:KDown (exQ N D) k):k=-9218868437227405312∨2*V k*(D:Int)≤N:=h.low
theorem add_loF {a b:Nat} (ha:a<18446744073709551616) (hb:b<18446744073709551616) (fa:finB a=true) (fb:finB b=true):LoQ (key (addF a b (-1))) (vq (key a)+vq (key b)):=by
 rcases down_le (addF_down ha hb fa fb) with h | h
 · exact Or.inl h
 · refine Or.inr ?_
   have h1:V (key (addF a b (-1)))≤V (key a)+V (key b):=by omega
   have h2:=Rat.mul_le_mul_of_nonneg_right (Rat.intCast_le_intCast.2 h1) (Rat.le_of_lt iuQ_pos)
   rw [Rat.intCast_add] at h2
   unfold vq
   grind
theorem mul_loF {a b r:Nat} (ha:a<18446744073709551616) (hb:b<18446744073709551616) (fa:finB a=true) (fb:finB b=true) (h:mulR a b (-1)=some r):LoQ (key r) (vq (key a)*vq (key b)):=by
 obtain⟨u,hu⟩:∃u:Nat,u=1073:=⟨_,rfl⟩
 rcases down_le (mulR_down hu ha hb fa fb h) with h | h
 · exact Or.inl h
 · refine Or.inr ?_
   have e:2*(2^u:Nat)=unitN:=by unfold unitN;rw [show expN=u+1 by rw [hu];rfl,Nat.pow_succ']
   have e2:((2^u:Nat):Int)*2=(unitN:Int):=by omega
   have h1:V (key r)*(unitN:Int)≤V (key a)*V (key b):=by
     rw [←e2]
     have:V (key r)*(((2^u:Nat):Int)*2)=2*V (key r)*((2^u:Nat):Int):=by
       rw [Int.mul_comm 2,Int.mul_assoc,Int.mul_comm ((2^u:Nat):Int) 2]
     omega
   clear e e2 hu
   have i0:=iuQ_pos
   have i1:=iuQ_one
   have h2:=Rat.mul_le_mul_of_nonneg_right (Rat.intCast_le_intCast.2 h1) (Rat.mul_nonneg (Rat.le_of_lt i0) (Rat.le_of_lt i0))
   rw [Rat.intCast_mul,Rat.intCast_mul] at h2
   unfold vq
   generalize (V (key r):Rat)=R at *
   generalize (V (key a):Rat)=A at *
   generalize (V (key b):Rat)=B at *
   generalize ((unitN:Int):Rat)=U at *
   generalize iuQ=i at *
   have e3:R*U*(i*i)=R*i:=by grind
   have e4:A*B*(i*i)=A*i*(B*i):=by grind
   rw [e3,e4] at h2
   exact h2
structure Hq (p:Nat×Nat) (x:Rat):Prop where
 l1:p.1<18446744073709551616
 l2:p.2<18446744073709551616
 S:Some2 p.1 p.2
 lo:LoQ (key p.1) x
 hi:LoQ (-key p.2) (-x)
theorem fin_two {a:Nat} (ha:a<18446744073709551616) (na:nanB a=false) (h1:key a≠9218868437227405312) (h2:key a≠-9218868437227405312):finB a=true:=by
 cases f:finB a
 · rcases (key_inf ha na).1 f with c | c
   · exact absurd c h1
   · exact absurd c h2
 · rfl
theorem add_lo {a b l:Nat} {x y:Rat} (ha:a<18446744073709551616) (hb:b<18446744073709551616) (na:nanB a=false) (nb:nanB b=false) (ka:key a<9218868437227405312) (kb:key b<9218868437227405312)
   (X:LoQ (key a) x) (Y:LoQ (key b) y) (e:addR a b (-1)=some l):LoQ (key l) (x+y):=by
 by_cases c1:key a=-9218868437227405312
 · rw [addR_bot ha na c1 e];exact Or.inl c1
 by_cases c2:key b=-9218868437227405312
 · exact Or.inl (addR_bot2 ha hb na nb c2 e)
 have fa:=fin_two ha na (by omega) c1
 have fb:=fin_two hb nb (by omega) c2
 rw [addR_fin (-1) fa fb] at e
 obtain rfl:=Option.some.inj e
 rcases X with X | X
 · exact absurd X c1
 rcases Y with Y | Y
 · exact absurd Y c2
 exact (add_loF ha hb fa fb).less (by grind)
theorem hq_add {p q:Nat×Nat} {x y:Rat} (X:Hq p x) (Y:Hq q y):Hq (addP p.1 p.2 q.1 q.2) (x+y):=by
 obtain⟨l,u,e1,e2,A,l1,l2⟩:=add_some X.l1 X.l2 Y.l1 Y.l2 X.S Y.S
 have e:addP p.1 p.2 q.1 q.2=(l,u):=by unfold addP;rw [hs_iff.2 X.S,hs_iff.2 Y.S,e1,e2];rfl
 rw [e]
 refine⟨l1,l2,A,add_lo X.l1 Y.l1 X.S.nl Y.S.nl X.S.lt Y.S.lt X.lo Y.lo e1, ?_⟩
 have m:=addR_mirror (negB_lt X.l2) (negB_lt Y.l2)
 rw [negB_negB X.l2,negB_negB Y.l2,e2] at m
 rcases m with ⟨_,m⟩ | ⟨v,t,m1,m2,m3,m4,m5⟩
 · cases m
 · obtain rfl:=Option.some.inj m2
   rw [m5,Int.neg_neg,show -(x+y)=-x+-y by grind]
   have k1:=X.S.gt
   have k2:=Y.S.gt
   exact add_lo (negB_lt X.l2) (negB_lt Y.l2) (by rw [nanB_negB X.l2];exact X.S.nh) (by rw [nanB_negB Y.l2];exact Y.S.nh) (by rw [key_negB X.l2];omega) (by rw [key_negB Y.l2];omega) (by rw [key_negB X.l2];exact X.hi) (by rw [key_negB Y.l2];exact Y.hi) m1
theorem hq_neg {p:Nat×Nat} {x:Rat} (X:Hq p x):Hq (negP (p.1,p.2)) (-x):=by
 have e:negP (p.1,p.2)=mirrorP (p.1,p.2):=by unfold negP;rw [if_pos (hs_iff.2 X.S)]
 obtain⟨S,k1,k2,l1,l2⟩:=mirror_some X.l1 X.l2 X.S
 rw [e]
 refine⟨l1,l2,S,by rw [k1];exact X.hi, ?_⟩
 rw [k2,Int.neg_neg,show - -x=x by grind]
 exact X.lo
theorem corner {a b:Nat} {t:Rat} (ha:a<18446744073709551616) (hb:b<18446744073709551616) (na:nanB a=false) (nb:nanB b=false) (ka:key a≤0) (kb:0≤key b)
   (hf:finB a=true→finB b=true→vq (key a)*vq (key b)≤t) (hz:key a=0∨key b=0→0≤t):LoQ (key (mulV a b (-1))) t:=by
 have e:=mulV_is (-1) na nb
 by_cases f:(finB a&&finB b)=true
 · obtain⟨fa,fb⟩:=Bool.and_eq_true_iff.1 f
   exact (mul_loF ha hb fa fb e).less (hf fa fb)
 · have f':(finB a&&finB b)=false:=by simpa using f
   have p1:=V_npos ka
   have p2:=V_nonneg kb
   rcases mulR_inf ha hb na nb f' e (by have:=Int.mul_nonneg (show 0≤-V (key a) by omega) p2;rw [Int.neg_mul] at this;omega) with ⟨z,k⟩ | k
   · refine Or.inr ?_
     rw [k,vq_zero]
     refine hz ?_
     rcases Int.mul_eq_zero.1 z with c | c
     · exact Or.inl (V_inj0.1 c)
     · exact Or.inr (V_inj0.1 c)
   · exact Or.inl k
theorem corner_f {a b:Nat} {t:Rat} (ha:a<18446744073709551616) (hb:b<18446744073709551616) (fa:finB a=true) (fb:finB b=true) (h:vq (key a)*vq (key b)≤t):LoQ (key (mulV a b (-1))) t :=
 (mul_loF ha hb fa fb (mulV_is (-1) (fin_not_nan fa) (fin_not_nan fb))).less h
theorem mul_nn {a b:Rat} (h:0≤a) (k:0≤b):0≤a*b:=Rat.mul_nonneg h k
theorem prod_low {a d x y:Rat} (h1:a≤x) (h2:y≤d) (h3:a≤0) (h4:0≤y):a*d≤x*y:=by
 have q1:=mul_nn (show 0≤x-a by grind) h4
 have q2:=mul_nn (show 0≤-a by grind) (show 0≤d-y by grind)
 grind
theorem rat_anti {x:Rat} (h:0≤x) (k:x≤0):x=0:=Rat.le_antisymm k h
theorem prod_two {a b x y:Rat} (h1:0≤a) (h2:0≤b) (h3:a≤x) (h4:b≤y):a*b≤x*y:=by
 have q1:=mul_nn (show 0≤x-a by grind) (show 0≤y by grind)
 have q2:=mul_nn h1 (show 0≤y-b by grind)
 grind
theorem prod_neg {a b x y:Rat} (h1:a≤0) (h2:b≤0) (h3:x≤a) (h4:y≤b):a*b≤x*y:=by
 have:=prod_two (show 0≤-a by grind) (show 0≤-b by grind) (show -a≤-x by grind) (show -b≤-y by grind)
 grind
theorem prod_npos {x y:Rat} (h1:x≤0) (h2:y≤0):0≤x*y:=by
 have:=mul_nn (show 0≤-x by grind) (show 0≤-y by grind)
 grind
theorem lo_any {a b:Nat} (ha:a<18446744073709551616) (hb:b<18446744073709551616) (na:nanB a=false) (nb:nanB b=false) (ka:key a≤0) (kb:0≤key b):LoQ (key (mulV a b (-1))) 0 :=
 corner ha hb na nb ka kb (fun _ _=>by
   have:=mul_nn (show 0≤-vq (key a) by have:=vq_npos ka;grind) (vq_nonneg kb)
   grind) (fun _=>Rat.le_refl)
theorem low_holds {p q:Nat×Nat} {x y:Rat} (X:Hq p x) (Y:Hq q y):LoQ (lowK p.1 p.2 q.1 q.2) (x*y):=by
 obtain⟨f1,f2,f3,f4,f5,f6,f7⟩:=low_four X.l1 X.l2 Y.l1 Y.l2 X.S.nl X.S.nh Y.S.nl Y.S.nh X.S.le Y.S.le
 have kx:=X.S.le
 have ky:=Y.S.le
 have gx:=X.S.gt
 have gy:=Y.S.gt
 have lx:=X.S.lt
 have ly:=Y.S.lt
 have xh:key p.2≠9218868437227405312→x≤vq (key p.2):=fun c=>by
   rcases X.hi with h | h
   · omega
   · rw [vq_neg] at h;grind
 have yh:key q.2≠9218868437227405312→y≤vq (key q.2):=fun c=>by
   rcases Y.hi with h | h
   · omega
   · rw [vq_neg] at h;grind
 have xl:key p.1≠-9218868437227405312→vq (key p.1)≤x:=fun c=>by
   rcases X.lo with h | h
   · omega
   · exact h
 have yl:key q.1≠-9218868437227405312→vq (key q.1)≤y:=fun c=>by
   rcases Y.lo with h | h
   · omega
   · exact h
 have fin1:∀{a:Nat},a<18446744073709551616→finB a=true→key a≠9218868437227405312∧key a≠-9218868437227405312:=fun ha f=>by
   have:=fin_key ha f
   omega
 have xp:0≤key p.1→0≤x:=fun c=>Rat.le_trans (vq_nonneg c) (xl (by omega))
 have yp:0≤key q.1→0≤y:=fun c=>Rat.le_trans (vq_nonneg c) (yl (by omega))
 have xn:key p.2≤0→x≤0:=fun c=>Rat.le_trans (xh (by omega)) (vq_npos c)
 have yn:key q.2≤0→y≤0:=fun c=>Rat.le_trans (yh (by omega)) (vq_npos c)
 have cA:key q.1≤0→0≤key p.2→(0≤x→LoQ (key (mulV p.2 q.1 (-1))) (x*y)):=fun c1 c2 hx=>by
   rw [mulV_comm]
   refine corner Y.l1 X.l2 Y.S.nl X.S.nh c1 c2 (fun fa fb=>?_) (fun z=>?_)
   · rw [Rat.mul_comm x y]
     exact prod_low (yl (fin1 Y.l1 fa).2) (xh (fin1 X.l2 fb).1) (vq_npos c1) hx
   · rcases z with z | z
     · exact mul_nn hx (yp (by omega))
     · rw [rat_anti hx (xn (by omega)),Rat.zero_mul]
       exact Rat.le_refl
 have cB:key p.1≤0→0≤key q.2→(0≤y→LoQ (key (mulV p.1 q.2 (-1))) (x*y)):=fun c1 c2 hy=>by
   refine corner X.l1 Y.l2 X.S.nl Y.S.nh c1 c2 (fun fa fb=>?_) (fun z=>?_)
   · exact prod_low (xl (fin1 X.l1 fa).2) (yh (fin1 Y.l2 fb).1) (vq_npos c1) hy
   · rcases z with z | z
     · exact mul_nn (xp (by omega)) hy
     · rw [rat_anti hy (yn (by omega)),Rat.mul_zero]
       exact Rat.le_refl
 have bot:∀a b,a<18446744073709551616→b<18446744073709551616→nanB a=false→nanB b=false→-9218868437227405312≤key (mulV a b (-1)):=fun a b _ _ na nb=>(key_range (mulV_facts (-1) na nb).2 (mulV_facts (-1) na nb).1).1
 by_cases a1:0≤key p.1
 · have hx:=xp a1
   by_cases a2:key q.1<0
   · rw [f1 a1 a2]
     exact cA (by omega) (by omega) hx
   · rw [f2 a1 (by omega)]
     have hy:=yp (by omega)
     refine corner_f X.l1 Y.l1 (fin_two X.l1 X.S.nl (by omega) (by omega)) (fin_two Y.l1 Y.S.nl (by omega) (by omega)) ?_
     exact prod_two (vq_nonneg a1) (vq_nonneg (by omega)) (xl (by omega)) (yl (by omega))
 by_cases a3:key p.2≤0
 · have hx:=xn a3
   by_cases a4:0<key q.2
   · rw [f3 a3 a4]
     by_cases hy:0≤y
     · exact cB (by omega) (by omega) hy
     · refine (lo_any X.l1 Y.l2 X.S.nl Y.S.nh (by omega) (by omega)).less (prod_npos hx ?_)
       exact Rat.le_of_lt (Rat.not_le.1 hy)
   · rw [f4 a3 (by omega)]
     refine corner_f X.l2 Y.l2 (fin_two X.l2 X.S.nh (by omega) (by omega)) (fin_two Y.l2 Y.S.nh (by omega) (by omega)) ?_
     exact prod_neg (vq_npos a3) (vq_npos (by omega)) (xh (by omega)) (yh (by omega))
 have dA:key q.1≤0→LoQ (key (mulV p.2 q.1 (-1))) 0:=fun c=>by
   rw [mulV_comm]
   exact lo_any Y.l1 X.l2 Y.S.nl X.S.nh c (by omega)
 have dB:0≤key q.2→LoQ (key (mulV p.1 q.2 (-1))) 0:=fun c=>lo_any X.l1 Y.l2 X.S.nl Y.S.nh (by omega) c
 by_cases a5:0≤key q.1
 · rw [f5 (by omega) (by omega) a5]
   exact cB (by omega) (by omega) (yp a5)
 by_cases a6:key q.2≤0
 · rw [f6 (by omega) (by omega) a6]
   by_cases hx:0≤x
   · exact cA (by omega) (by omega) hx
   · exact (dA (by omega)).less (prod_npos (Rat.le_of_lt (Rat.not_le.1 hx)) (yn a6))
 rw [f7 (by omega) (by omega) (by omega) (by omega)]
 have b1:=bot p.1 q.2 X.l1 Y.l2 X.S.nl Y.S.nh
 have b2:=bot p.2 q.1 X.l2 Y.l1 X.S.nh Y.S.nl
 have m1:LoQ (key (mulV p.1 q.2 (-1))) (x*y)∨LoQ (key (mulV p.2 q.1 (-1))) (x*y):=by
   by_cases hy:0≤y
   · exact Or.inl (cB (by omega) (by omega) hy)
   · by_cases hx:0≤x
     · exact Or.inr (cA (by omega) (by omega) hx)
     · exact Or.inl ((dB (by omega)).less (prod_npos (Rat.le_of_lt (Rat.not_le.1 hx)) (Rat.le_of_lt (Rat.not_le.1 hy))))
 rcases m1 with m | m
 · exact m.mono (by omega) (by omega)
 · exact m.mono (by omega) (by omega)
theorem hq_mul {p q:Nat×Nat} {x y:Rat} (X:Hq p x) (Y:Hq q y):Hq (mulP p.1 p.2 q.1 q.2) (x*y):=by
 obtain⟨Z,k1,k2⟩:=mul_keys X.l1 X.l2 Y.l1 Y.l2 X.S Y.S
 have w:=mulP_lt X.l1 X.l2 Y.l1 Y.l2
 refine⟨w.1,w.2,Z,by rw [k1];exact low_holds X Y, ?_⟩
 have N:=hq_neg X
 have e:negP (p.1,p.2)=mirrorP (p.1,p.2):=by unfold negP;rw [if_pos (hs_iff.2 X.S)]
 have t:=low_holds N Y
 rw [k2,top_low X.l1 X.l2 X.S.nl X.S.nh Y.S.nl Y.S.nh,Int.neg_neg,show -(x*y)=-x*y by grind]
 have q1:lowK (negP (p.1,p.2)).1 (negP (p.1,p.2)).2 q.1 q.2=lowK (negB p.2) (negB p.1) q.1 q.2:=by
   obtain⟨v,H⟩:=held_some X.l1 X.l2 X.S
   rw [e]
   unfold mirrorP makeP
   have hs:hsB (pz (negB p.2)) (pz (negB p.1))=true:=by
     have:=N.S
     rw [e] at this
     unfold mirrorP makeP at this
     cases hh:hsB (pz (negB p.2)) (pz (negB p.1))
     · rw [hh] at this
       simp only [Bool.false_eq_true,if_false] at this
       exact absurd this.le (by decide)
     · rfl
   rw [hs]
   simp only [if_true]
   exact lowK_pz _ _ _ _
 rw [←q1]
 exact t
end Go.Proofs.Ytdnpoacjamkhkaa
