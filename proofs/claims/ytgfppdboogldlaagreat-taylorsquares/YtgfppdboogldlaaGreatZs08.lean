/- The walk of the statement IvalHolds, over what its callees tell. Plain facts: roots, rounded up; what is made of numbers lies between what is made of ends: the frame of it, and sums. Plain facts: what is made of numbers lies between what is made of ends: sums, negatives, products. The walk of Mul, of intervals that hold nought inside. -/
import Derived.Test.YtgfppdboogldlaaGreatZs06
import Derived.Test.YtgfppdboogldlaaGreatZs05
import Derived.Test.YtgfppdboogldlaaGreatZs07
namespace Go.Proofs.YtgfppdboogldlaaGreat
open Go.ChangeShapes Go.WideShapes Go.ChangeAt Go.RowKit
end Go.Proofs.YtgfppdboogldlaaGreat
namespace Go.Proofs.YtgfppdboogldlaaGreat
structure Le (r t:Nat):Prop where
 r1:r<18446744073709551616
 t1:t<18446744073709551616
 r2:nanB r=false
 t2:nanB t=false
 le:key r≤key t
def LeO (o p:Option Nat):Prop:=∃r t,o=some r∧p=some t∧Le r t
theorem Le.trans {a b c:Nat} (h:Le a b) (k:Le b c):Le a c:=⟨h.r1,k.t1,h.r2,k.t2,Int.le_trans h.le k.le⟩
theorem btw_of {oL oD oN oU oH:Option Nat} (s:SidesO oD oN oU) (lo:LeO oL oD) (hi:LeO oU oH):∃l v u,oL=some l∧oN=some v∧oH=some u∧Le l v∧Le v u:=by
 obtain⟨l,d,rfl,rfl,h1⟩:=lo
 obtain⟨w,u,rfl,rfl,h2⟩:=hi
 rcases s with ⟨c, -, -⟩ | ⟨d',n,u',e1,rfl,e3,ok⟩
 · cases c
 · obtain rfl:d=d':=by injection e1
   obtain rfl:w=u':=by injection e3
   obtain⟨⟨nd,nn,nu⟩, -,⟨ld,ln,lu⟩,k1,k2, -⟩:=ok
   exact⟨l,n,u,rfl,rfl,rfl,h1.trans ⟨ld,ln,nd,nn,k1⟩,Le.trans ⟨ln,lu,nn,nu,k2⟩ h2⟩
structure Held (lo hi v:Nat):Prop where
 hl:lo<18446744073709551616
 hh:hi<18446744073709551616
 hv:v<18446744073709551616
 nl:nanB lo=false
 nh:nanB hi=false
 fv:finB v=true
 kl:key lo≤key v
 kh:key v≤key hi
 zl:lo≠9223372036854775808
 zh:hi≠9223372036854775808
 hs:hsB lo hi=true
theorem addR_low {p q c d:Nat} (hp:p<18446744073709551616) (hq:q<18446744073709551616) (hc:c<18446744073709551616) (hd:d<18446744073709551616) (np:nanB p=false) (nq:nanB q=false) (fc:finB c=true) (fd:finB d=true)
   (h1:key p≤key c) (h2:key q≤key d):LeO (addR p q (-1)) (addR c d (-1)):=by
 have ec:addR c d (-1)=some (addF c d (-1)):=by unfold addR;simp only [fin_not_nan fc,fin_not_nan fd,fc,fd,Bool.or_self,Bool.and_self,Bool.false_eq_true,if_false,if_true]
 have fs:=sumM_lt (splitG c) (splitM c) (splitE c) (splitG d) (splitM d) (splitE d) (splitM_lt c) (splitM_lt d)
 have ff:nanB (addF c d (-1))=false∧addF c d (-1)≠9223372036854775808∧addF c d (-1)<18446744073709551616:=roundN_facts _ _ _ _ fs
 have kc:=fin_key hc fc
 have kd:=fin_key hd fd
 have kb:=(addF_down hc hd fc fd).bot
 by_cases f:(finB p&&finB q)=true
 · obtain⟨fp,fq⟩:=Bool.and_eq_true_iff.1 f
   have ep:addR p q (-1)=some (addF p q (-1)):=by unfold addR;simp only [np,nq,fp,fq,Bool.or_self,Bool.and_self,Bool.false_eq_true,if_false,if_true]
   have gs:=sumM_lt (splitG p) (splitM p) (splitE p) (splitG q) (splitM q) (splitE q) (splitM_lt p) (splitM_lt q)
   have gg:nanB (addF p q (-1))=false∧addF p q (-1)≠9223372036854775808∧addF p q (-1)<18446744073709551616:=roundN_facts _ _ _ _ gs
   exact⟨_,_,ep,ec,gg.2.2,ff.2.2,gg.1,ff.1,add_mono hp hq hc hd fp fq fc fd h1 h2⟩
 · have f':(finB p&&finB q)=false:=by simpa using f
   have low:∀{x:Nat},x<18446744073709551616→nanB x=false→key x≤9218868437227405311→finB x=false→key x=-9218868437227405312∧signB x=true:=fun {x} hx nx kx fx=>by
     have e:key x=-9218868437227405312:=by rcases (key_inf hx nx).1 fx with c | c <;> omega
     refine⟨e, ?_⟩
     unfold key at e
     unfold signB
     simp only [decide_eq_true_eq]
     split at e <;> omega
   cases fp:finB p
   · obtain⟨k1,s1⟩:=low hp np (by omega) fp
     cases fq:finB q
     · obtain⟨k2,s2⟩:=low hq nq (by omega) fq
       refine⟨p,_, ?_,ec,hp,ff.2.2,np,ff.1,by omega⟩
       unfold addR
       simp only [np,nq,fp,fq,s1,s2,Bool.or_self,Bool.and_self,Bool.false_eq_true,if_false,Bool.not_false,bne_self_eq_false,Bool.and_false]
     · refine⟨p,_, ?_,ec,hp,ff.2.2,np,ff.1,by omega⟩
       unfold addR
       simp only [np,nq,fp,fq,Bool.or_self,Bool.and_true,Bool.false_eq_true,if_false,Bool.not_true,Bool.and_false,Bool.false_and]
   · have fq:finB q=false:=by rw [fp] at f';simpa using f'
     obtain⟨k2,s2⟩:=low hq nq (by omega) fq
     refine⟨q,_, ?_,ec,hq,ff.2.2,nq,ff.1,by omega⟩
     unfold addR
     simp only [np,nq,fp,fq,Bool.or_self,Bool.and_false,Bool.false_eq_true,if_false,Bool.not_true,Bool.false_and,if_true]
theorem LeO.mirror {o p o' p':Option Nat} (h:LeO o p) (m1:Mirror o o') (m2:Mirror p p') (b1:∀r,o'=some r→r<18446744073709551616) (b2:∀r,p'=some r→r<18446744073709551616):LeO p' o':=by
 obtain⟨r,t,rfl,rfl,l⟩:=h
 rcases m1 with ⟨c, -⟩ | ⟨x,y,e1,rfl,n1,n2,k1⟩
 · cases c
 rcases m2 with ⟨c, -⟩ | ⟨x',y',e1',rfl,n1',n2',k1'⟩
 · cases c
 obtain rfl:r=x:=by injection e1
 obtain rfl:t=x':=by injection e1'
 exact⟨y',y,rfl,rfl,b2 _ rfl,b1 _ rfl,n2',n2,by have:=l.le;omega⟩
end Go.Proofs.YtgfppdboogldlaaGreat
namespace Go.Proofs.YtgfppdboogldlaaGreat
theorem key_pz (x:Nat):key (pz x)=key x:=by unfold pz;split <;> simp_all [key]
theorem nan_pz (x:Nat):nanB (pz x)=nanB x:=by unfold pz;split <;> simp_all [nanB]
theorem pz_ne (x:Nat):pz x≠9223372036854775808:=by unfold pz;split <;> omega
structure Enc (m1 m2 D U:Nat):Prop where
 l1:m1<18446744073709551616
 l2:m2<18446744073709551616
 n1:nanB m1=false
 n2:nanB m2=false
 z1:m1≠9223372036854775808
 z2:m2≠9223372036854775808
 k1:key m1≤key D
 k2:key U≤key m2
theorem enc_make {p q D U:Nat} (hp:p<18446744073709551616) (hq:q<18446744073709551616) (np:nanB p=false) (nq:nanB q=false) (h1:key p≤key D) (h2:key U≤key q) (h3:key D≤key U) (h4:key D≤9218868437227405311) (h5:-9218868437227405311≤key U) :
   Enc (makeP p q).1 (makeP p q).2 D U:=by
 have e:hsB (pz p) (pz q)=true:=by
   unfold hsB mz
   rw [nan_pz,nan_pz,key_pz,key_pz,np,nq]
   have a1:key p≤key q:=by omega
   have a2:key p<9218868437227405312:=by omega
   have a3:-9218868437227405312<key q:=by omega
   simp [a1,a2,a3,pz_ne]
 unfold makeP
 rw [if_pos e]
 exact⟨pz_lt hp,pz_lt hq,by rw [nan_pz];exact np,by rw [nan_pz];exact nq,pz_ne _,pz_ne _,by rw [key_pz];exact h1,by rw [key_pz];exact h2⟩
theorem enc_mirror {m1 m2 D U D' U':Nat} (h:Enc m1 m2 D U) (e1:key D'=- key U) (e2:key U'=- key D) (h3:key D≤key U) (h4:key D≤9218868437227405311) (h5:-9218868437227405311≤key U) :
   Enc (mirrorP (m1,m2)).1 (mirrorP (m1,m2)).2 D' U':=by
 unfold mirrorP
 have k1:=h.k1
 have k2:=h.k2
 exact enc_make (negB_lt h.l2) (negB_lt h.l1) (by rw [nanB_negB h.l2];exact h.n2) (by rw [nanB_negB h.l1];exact h.n1) (by rw [key_negB h.l2];omega) (by rw [key_negB h.l1];omega) (by omega) (by omega) (by omega)
theorem held_neg {lo hi v:Nat} (h:Held lo hi v):Held (mirrorP (lo,hi)).1 (mirrorP (lo,hi)).2 (negB v)∧key (mirrorP (lo,hi)).1=- key hi∧key (mirrorP (lo,hi)).2=- key lo:=by
 have kv:=fin_key h.hv h.fv
 have a1:=h.kl
 have a2:=h.kh
 have e:hsB (pz (negB hi)) (pz (negB lo))=true:=by
   unfold hsB mz
   rw [nan_pz,nan_pz,key_pz,key_pz,nanB_negB h.hh,nanB_negB h.hl,h.nl,h.nh,key_negB h.hh,key_negB h.hl]
   have a1:-key hi≤-key lo:=by omega
   have a2:-key hi<9218868437227405312:=by omega
   have a3:-9218868437227405312 < -key lo:=by omega
   simp [a1,a2,a3,pz_ne]
 unfold mirrorP makeP
 rw [if_pos e]
 refine⟨⟨pz_lt (negB_lt h.hh),pz_lt (negB_lt h.hl),negB_lt h.hv,by rw [nan_pz,nanB_negB h.hh];exact h.nh,by rw [nan_pz,nanB_negB h.hl];exact h.nl,by rw [finB_negB h.hv];exact h.fv, ?_, ?_,pz_ne _,pz_ne _,e⟩, ?_, ?_⟩
 · rw [key_pz,key_negB h.hh,key_negB h.hv];omega
 · rw [key_pz,key_negB h.hl,key_negB h.hv];omega
 · rw [key_pz,key_negB h.hh]
 · rw [key_pz,key_negB h.hl]
theorem addR_lt {a b r:Nat} {d:Int} (ha:a<18446744073709551616) (hb:b<18446744073709551616) (h:addR a b d=some r):r<18446744073709551616:=by
 unfold addR at h
 split at h
 · cases h
 · split at h
   · injection h with h
     rw [←h]
     exact (roundN_facts _ _ _ _ (sumM_lt (splitG a) (splitM a) (splitE a) (splitG b) (splitM b) (splitE b) (splitM_lt a) (splitM_lt b))).2.2
   · split at h
     · cases h
     · injection h with h
       rw [←h]
       split
       · exact hb
       · exact ha
theorem add_btw {xl xh yl yh a b:Nat} (X:Held xl xh a) (Y:Held yl yh b):∃l v u,addR xl yl (-1)=some l∧addR a b 0=some v∧addR xh yh 1=some u∧Le l v∧Le v u:=by
 have lo:=addR_low X.hl Y.hl X.hv Y.hv X.nl Y.nl X.fv Y.fv X.kl Y.kl
 have hi:=addR_low (negB_lt X.hh) (negB_lt Y.hh) (negB_lt X.hv) (negB_lt Y.hv) (by rw [nanB_negB X.hh];exact X.nh) (by rw [nanB_negB Y.hh];exact Y.nh) (by rw [finB_negB X.hv];exact X.fv) (by rw [finB_negB Y.hv];exact Y.fv)
   (by rw [key_negB X.hh,key_negB X.hv];have:=X.kh;omega) (by rw [key_negB Y.hh,key_negB Y.hv];have:=Y.kh;omega)
 have m1:=addR_mirror (negB_lt X.hh) (negB_lt Y.hh)
 have m2:=addR_mirror (negB_lt X.hv) (negB_lt Y.hv)
 rw [negB_negB X.hh,negB_negB Y.hh] at m1
 rw [negB_negB X.hv,negB_negB Y.hv] at m2
 exact btw_of (addR_sides X.hv Y.hv) lo (hi.mirror m1 m2 (fun r h=>addR_lt X.hh Y.hh h) (fun r h=>addR_lt X.hv Y.hv h))
theorem mulV_facts {a b:Nat} (d:Int) (na:nanB a=false) (nb:nanB b=false):nanB (mulV a b d)=false∧mulV a b d<18446744073709551616:=by
 have e:=mulV_is d na nb
 unfold mulR at e
 rw [na,nb] at e
 simp only [Bool.or_self,Bool.false_eq_true,if_false] at e
 split at e
 · injection e with e;rw [←e];decide
 · rename_i z
   split at e
   · injection e with e
     rw [←e]
     have z':(isZ a || isZ b)=false:=by simpa using z
     have z2:=Bool.or_eq_false_iff.1 z'
     have h1:=splitM_lt a
     have h2:=splitM_lt b
     have f:=roundN_facts (splitG a != splitG b) (prodM (splitM a) (splitM b)) (prodE (splitM a) (splitE a) (splitM b) (splitE b)) d (prodM_lt (splitM_zero z2.1) (splitM_zero z2.2) (by omega) (by omega))
     exact⟨f.1,f.2.2⟩
   · injection e with e
     rw [←e]
     exact⟨(infW_facts _).1,(infW_facts _).2.2.1⟩
theorem mulV_le {p q a b:Nat} (hp:p<18446744073709551616) (hq:q<18446744073709551616) (ha:a<18446744073709551616) (hb:b<18446744073709551616) (np:nanB p=false) (nq:nanB q=false) (fa:finB a=true) (fb:finB b=true)
   (h:V (key p)*V (key q)≤V (key a)*V (key b)) (hi:(finB p&&finB q)=false→V (key p)*V (key q)≤0):key (mulV p q (-1))≤key (mulV a b (-1)) :=
 mul_le hp hq ha hb np nq fa fb (mulV_is _ np nq) (mulV_is _ (fin_not_nan fa) (fin_not_nan fb)) h hi
theorem mulV_mirror {a b:Nat} (ha:a<18446744073709551616) (na:nanB a=false) (nb:nanB b=false):key (mulV (negB a) b 1)=- key (mulV a b (-1)):=by
 have m:=mulR_mirror (a:=a) (b:=b) ha
 rw [mulV_is (-1) na nb,mulV_is 1 (by rw [nanB_negB ha];exact na) nb] at m
 rcases m with ⟨c, -⟩ | ⟨x,y,e1,e2, -, -,k⟩
 · cases c
 · injection e1 with e1
   injection e2 with e2
   rw [e1,e2];exact k
theorem mulV_mirror' {a b:Nat} (ha:a<18446744073709551616) (na:nanB a=false) (nb:nanB b=false):key (mulV a b 1)=- key (mulV (negB a) b (-1)):=by
 have:=mulV_mirror (negB_lt ha) (by rw [nanB_negB ha];exact na) nb
 rw [negB_negB ha] at this
 exact this
theorem mulR_commd (a b:Nat) (d:Int):mulR a b d=mulR b a d:=by
 unfold mulR mulF prodM prodE
 rw [Bool.or_comm (nanB b) (nanB a),Bool.and_comm (finB b) (finB a),Bool.or_comm (isZ b) (isZ a),Nat.mul_comm (topN (splitM b)) (topN (splitM a)),Int.add_comm (splitE b-shiftN (splitM b)) (splitE a-shiftN (splitM a))]
 have e1:(splitG b != splitG a)=(splitG a != splitG b):=by cases splitG a <;> cases splitG b <;> rfl
 have e2:(signB b != signB a)=(signB a != signB b):=by cases signB a <;> cases signB b <;> rfl
 rw [e1,e2]
theorem mulV_comm (a b:Nat) (d:Int):mulV a b d=mulV b a d:=by unfold mulV;rw [mulR_commd]
theorem mulV_sides {a b:Nat} (ha:a<18446744073709551616) (hb:b<18446744073709551616) (fa:finB a=true) (fb:finB b=true) :
   Le (mulV a b (-1)) (mulV a b 0)∧Le (mulV a b 0) (mulV a b 1)∧key (mulV a b (-1))≤9218868437227405311∧-9218868437227405311≤key (mulV a b 1):=by
 have na:=fin_not_nan fa
 have nb:=fin_not_nan fb
 have s:=mulR_sides a b
 rw [mulV_is (-1) na nb,mulV_is 0 na nb,mulV_is 1 na nb] at s
 have t1:=mul_top ha hb fa fb (mulV_is (-1) na nb)
 have t2:=mul_top (negB_lt ha) hb (by rw [finB_negB ha];exact fa) fb (mulV_is (-1) (by rw [nanB_negB ha];exact na) nb)
 have t3:=mulV_mirror' ha na nb
 rcases s with ⟨c, -, -⟩ | ⟨d,n,u,e1,e2,e3,ok⟩
 · cases c
 · injection e1 with e1
   injection e2 with e2
   injection e3 with e3
   obtain⟨⟨nd,nn,nu⟩, -,⟨ld,ln,lu⟩,k1,k2, -⟩:=ok
   rw [e1] at t1 ⊢
   rw [e3] at t3 ⊢
   rw [e2]
   exact⟨⟨ld,ln,nd,nn,k1⟩,⟨ln,lu,nn,nu,k2⟩,t1,by omega⟩
theorem lt0 {x:Nat} (hn:nanB x=false):ltB x 0=decide (key x<0):=by
 unfold ltB
 have h0:nanB 0=false:=by decide
 have k0:key 0=0:=rfl
 rw [hn,h0,k0];simp
theorem lp_le {t fl fh a b:Nat} (ht:t<18446744073709551616) (h1:fl<18446744073709551616) (h2:fh<18446744073709551616) (ha:a<18446744073709551616) (hb:b<18446744073709551616) (nt:nanB t=false) (n1:nanB fl=false) (n2:nanB fh=false) (fa:finB a=true) (fb:finB b=true)
   (k0:0≤key fl) (kt:key t≤key a) (k1:key fl≤key b) (k2:key b≤key fh):Le (lpP t fl fh) (mulV a b (-1)):=by
 have na:=fin_not_nan fa
 have nb:=fin_not_nan fb
 have fa':=fin_key ha fa
 have fb':=fin_key hb fb
 have fm:=mulV_facts (-1) na nb
 have v0:=V_nonneg k0
 have vt:=V_mono_le kt
 have v1:=V_mono_le k1
 have v2:=V_mono_le k2
 unfold lpP
 rw [lt0 nt]
 by_cases c:key t<0
 · have e:(if decide (key t<0)=true then mulD t fh else mulD t fl)=mulV t fh (-1):=by simp [c];rfl
   rw [e]
   have fm2:=mulV_facts (-1) nt n2
   have vt0:=V_lt0 c
   have neg:V (key t)*V (key fh)≤0:=Int.mul_nonpos_of_nonpos_of_nonneg (by omega) (by omega)
   refine⟨fm2.2,fm.2,fm2.1,fm.1,mulV_le ht h2 ha hb nt n2 fa fb ?_ (fun _=>neg)⟩
   generalize V (key t)=T at *
   generalize V (key fh)=FH at *
   generalize V (key fl)=FL at *
   generalize V (key a)=A at *
   generalize V (key b)=B at *
   rcases Int.lt_or_le A 0 with ca | ca
   · have s1:T*FH≤A*FH:=Int.mul_le_mul_of_nonneg_right vt (by omega)
     have s2:A*FH≤A*B:=Int.mul_le_mul_of_nonpos_left (by omega) v2
     omega
   · have s1:0≤A*B:=Int.mul_nonneg ca (by omega)
     omega
 · have e:(if decide (key t<0)=true then mulD t fh else mulD t fl)=mulV t fl (-1):=by simp [c];rfl
   rw [e]
   have fm2:=mulV_facts (-1) nt n1
   have vt0:=V_nonneg (show 0≤key t by omega)
   have ft:finB t=true:=by
     cases h:finB t
     · rcases (key_inf ht nt).1 h with d | d <;> omega
     · rfl
   have fl':finB fl=true:=by
     cases h:finB fl
     · rcases (key_inf h1 n1).1 h with d | d <;> omega
     · rfl
   refine⟨fm2.2,fm.2,fm2.1,fm.1,mulV_le ht h1 ha hb nt n1 fa fb ?_ (fun h=>by rw [ft,fl'] at h;cases h)⟩
   exact Int.mul_le_mul vt v1 v0 (by omega)
theorem stretch_enc {xl xh fl fh a b:Nat} (X:Held xl xh a) (F:Held fl fh b) (k0:0≤key fl):Enc (makeP (lpP xl fl fh) (negB (lpP (negB xh) fl fh))).1 (makeP (lpP xl fl fh) (negB (lpP (negB xh) fl fh))).2 (mulV a b (-1)) (mulV a b 1):=by
 obtain⟨s1,s2,s3,s4⟩:=mulV_sides X.hv F.hv X.fv F.fv
 have l1:=lp_le X.hl F.hl F.hh X.hv F.hv X.nl F.nl F.nh X.fv F.fv k0 X.kl F.kl F.kh
 have l2:=lp_le (negB_lt X.hh) F.hl F.hh (negB_lt X.hv) F.hv (by rw [nanB_negB X.hh];exact X.nh) F.nl F.nh (by rw [finB_negB X.hv];exact X.fv) F.fv k0 (by rw [key_negB X.hh,key_negB X.hv];have:=X.kh;omega) F.kl F.kh
 have m:=mulV_mirror' X.hv (fin_not_nan X.fv) (fin_not_nan F.fv)
 have q1:=l2.le
 have q2:=s1.le
 have q3:=s2.le
 exact enc_make l1.r1 (negB_lt l2.r1) l1.r2 (by rw [nanB_negB l2.r1];exact l2.r2) l1.le (by rw [key_negB l2.r1];omega) (by omega) s3 s4
end Go.Proofs.YtgfppdboogldlaaGreat
namespace Go.Proofs.YtgfppdboogldlaaGreat
open Go.ChangeShapes Go.WideShapes Go.ChangeAt Go.RowKit
set_option maxHeartbeats 1000000 in
theorem mul_e (xl xh yl yh m1 m2:Nat) (oM:Nat→Nat→Int→Nat) (h1:xl<18446744073709551616) (h2:xh<18446744073709551616) (h3:yl<18446744073709551616) (h4:yh<18446744073709551616) (n1:nanB xl=false) (n2:nanB xh=false) (n3:nanB yl=false) (n4:nanB yh=false) (c0:∀b W,b<W.heap.size→W.cell? ⟨b,0,none⟩=some (.float .f64 xl)→W.cell? ⟨b,1,none⟩=some (.float .f64 xh)→W.cell? ⟨b,2,none⟩=some (.float .f64 yl)→W.cell? ⟨b,3,none⟩=some (.float .f64 yh)→Calls Tryz.prog 114 #[.slice (some ⟨b,0,none⟩) 2 2] W fun e w'=>e=.returned (.bool false)∧Below W.heap.size W w')
   (g_xl:(FloatKind.f64.format.order xl 0==some .gt || FloatKind.f64.format.order xl 0==some .eq)=false) (l_xh:(FloatKind.f64.format.order xh 0==some .lt || FloatKind.f64.format.order xh 0==some .eq)=false) (g_yl:(FloatKind.f64.format.order yl 0==some .gt || FloatKind.f64.format.order yl 0==some .eq)=false) (l_yh:(FloatKind.f64.format.order yh 0==some .lt || FloatKind.f64.format.order yh 0==some .eq)=false)
   (cM:∀a b d,a<18446744073709551616→b<18446744073709551616→nanB a=false→nanB b=false→∀w,Calls Tryz.prog 164 #[.float .f64 a,.float .f64 b,.int .i64 d] w fun e w'=>e=.returned (.float .f64 (oM a b d))∧Below w.heap.size w w') (hmin:∀ts t w,(Builtin.min_ ts t #[.float .f64 (oM xl yh (-1)),.float .f64 (oM xh yl (-1))]).run Tryz.prog w=.ok (.float .f64 m1) w) (hmax:∀ts t w,(Builtin.max_ ts t #[.float .f64 (oM xl yl 1),.float .f64 (oM xh yh 1)]).run Tryz.prog w=.ok (.float .f64 m2) w) (w:World) :
   Calls Tryz.prog 149 #[.agg #[.float .f64 xl,.float .f64 xh],.agg #[.float .f64 yl,.float .f64 yh]] w fun e w'=>e=.returned (.agg #[.float .f64 m1,.float .f64 m2])∧Below w.heap.size w w':=by
 go_enter Tryz.func149,Tryz.ntmps149
 go_upto_region 11 with
  (go_at_call 114;refine (c0 (w.heap.size+1+1+1) _ (by go_size) (by go_simp) (by go_simp) (by go_simp) (by go_simp)).mono ?_;rintro _ w1 ⟨rfl,hb1⟩
   have R:Has2 w1 (w.heap.size+1+1) (.float .f64 0) (.float .f64 0):=Has2.keep ⟨by go_simp,by go_simp,by go_simp,by go_simp,by go_size⟩ hb1
   have X:Has2 w1 w.heap.size (.float .f64 xl) (.float .f64 xh):=Has2.keep ⟨by go_simp,by go_simp,by go_simp,by go_simp,by go_size⟩ hb1
   have Y:Has2 w1 (w.heap.size+1) (.float .f64 yl) (.float .f64 yh):=Has2.keep ⟨by go_simp,by go_simp,by go_simp,by go_simp,by go_size⟩ hb1
   have HB:Below w.heap.size w w1:=later (by go_grown) hb1
   have x0:=X.1;have x1:=X.2.1;have y0:=Y.1;have y1:=Y.2.1)
 clear hb1 c0
 have ne1:w.heap.size+1+1≠w.heap.size:=by omega
 have ne2:w.heap.size≠w.heap.size+1+1:=by omega
 have X:Has2 w1.drew w.heap.size (.float .f64 xl) (.float .f64 xh):=X
 have Y:Has2 w1.drew (w.heap.size+1) (.float .f64 yl) (.float .f64 yh):=Y
 have R:Has2 w1.drew (w.heap.size+1+1) (.float .f64 0) (.float .f64 0):=R
 have HB:Below w.heap.size w w1.drew:=HB.drew
 go_region_held3 (fun w'=>w'.cell? ⟨w.heap.size,0,none⟩=some (.float .f64 xl)∧w'.cell? ⟨w.heap.size,1,none⟩=some (.float .f64 xh)∧w'.cell? ⟨w.heap.size+1,0,none⟩=some (.float .f64 yl)∧w'.cell? ⟨w.heap.size+1,1,none⟩=some (.float .f64 yh)) (first | exact⟨X.1,X.2.1,Y.1,Y.2.1⟩ | go_keep)
   (first | (go_at_call 164;refine (cM _ _ _ (by assumption) (by assumption) (by assumption) (by assumption) _).mono ?_;rintro _ w2 ⟨rfl,hb1⟩;replace X:=X.keep hb1;replace Y:=Y.keep hb1;replace R:=R.keep hb1;replace HB:=later HB hb1;clear hb1;have d0:=R.1;have d1:=R.2.1;have d2:=R.2.2.1;have d3:=R.2.2.2.1;have d4:=R.2.2.2.2))
 all_goals
   go_wp2_with fail
   refine bodyPost_ret (v:=.agg #[.float .f64 m1,.float .f64 m2]) (by simp [results,Tryz.results149,go_sem, *]) rfl ⟨rfl, ?_⟩
   repeat' (first | (with_reducible exact HB) | (with_reducible refine Below.setCell ?_ ?_ _) | go_size)
end Go.Proofs.YtgfppdboogldlaaGreat
