/- Plain facts for IvalSums: the reference's hulls, meets, negatives and the ends of sums are the program's, word for word. Plain facts for IvalProducts and IvalGrows: a product rounded down rises with a factor where the other is not below nought, infinite factors too. Mul's ends are the least and the greatest of the four products of ends. Plain facts on the digits of whole numbers, 32 bits each, the lowest first. -/
import Derived.Test.YtgfppdboogldlaaGreatZs12
namespace Go.Proofs.YtgfppdboogldlaaGreat
open Go.ChangeShapes Go.WideShapes Go.ChangeAt Go.RowKit
theorem key_one {a b:Nat} (za:a≠9223372036854775808) (zb:b≠9223372036854775808) (h:key a=key b):a=b:=by
 unfold key at h
 split at h <;> split at h <;> omega
theorem lt_is {a b:Nat} (na:nanB a=false) (nb:nanB b=false):ltB a b=decide (key a<key b):=by
 unfold ltB
 rw [na,nb]
 rfl
theorem up_ne:infI 1≠9223372036854775808:=by decide
theorem dn_ne:infI (-1)≠9223372036854775808:=by decide
theorem key_dn:key (infI (-1))=-9218868437227405312:=by decide
def rendsP (lo hi:Nat):Nat×Nat:=makeP (if ltB 9218868437227405311 lo then 9218868437227405311 else lo) (if ltB hi 18442240474082181119 then 18442240474082181119 else hi)
theorem make_is {lo hi:Nat} (S:Some2 lo hi):makeP lo hi=(lo,hi):=by
 unfold makeP
 have a:pz lo=lo:=by unfold pz;rw [if_neg S.zl]
 have b:pz hi=hi:=by unfold pz;rw [if_neg S.zh]
 rw [a,b,hs_iff.2 S,if_pos rfl]
theorem rends_is {lo hi:Nat} (S:Some2 lo hi):rendsP lo hi=(lo,hi):=by
 unfold rendsP
 have k1:key 9218868437227405311=9218868437227405311:=by decide
 have k2:key 18442240474082181119=-9218868437227405311:=by decide
 have:=S.lt
 have:=S.gt
 rw [lt_is (by decide) S.nl,lt_is S.nh (by decide),k1,k2,if_neg (by simp;omega),if_neg (by simp;omega)]
 exact make_is S
theorem add_under {p q c d:Nat} (hp:p<18446744073709551616) (hq:q<18446744073709551616) (hc:c<18446744073709551616) (hd:d<18446744073709551616) (np:nanB p=false) (nq:nanB q=false) (fc:finB c=true) (fd:finB d=true) (h1:key p≤key c) (h2:key q≤key d) :
   ∃r,addR p q (-1)=some r∧r<18446744073709551616∧key r<9218868437227405312:=by
 obtain⟨r,t,e1,e2,h⟩:=addR_low hp hq hc hd np nq fc fd h1 h2
 rw [addR_fin (-1) fc fd] at e2
 injection e2 with e2
 have k:=(addF_down hc hd fc fd).top
 rw [e2] at k
 have:=h.le
 exact⟨r,e1,h.r1,by omega⟩
theorem add_some {xl xh yl yh:Nat} (h1:xl<18446744073709551616) (h2:xh<18446744073709551616) (h3:yl<18446744073709551616) (h4:yh<18446744073709551616) (S:Some2 xl xh) (T:Some2 yl yh):∃l u,addR xl yl (-1)=some l∧addR xh yh 1=some u∧Some2 l u∧l<18446744073709551616∧u<18446744073709551616:=by
 obtain⟨a,X⟩:=held_some h1 h2 S
 obtain⟨b,Y⟩:=held_some h3 h4 T
 obtain⟨l,v,u,e1,e2,e3,p,q⟩:=add_btw X Y
 refine⟨l,u,e1,e3,⟨p.r2,q.t2,Int.le_trans p.le q.le, ?_, ?_,addR_nz e1,addR_nz e3⟩,p.r1,q.t1⟩
 · obtain⟨r,f1, -,f2⟩:=add_under h1 h3 X.hv Y.hv S.nl T.nl X.fv Y.fv X.kl Y.kl
   rw [e1] at f1
   injection f1 with f1
   rw [f1]
   exact f2
 · have kx:=X.kh
   have ky:=Y.kh
   obtain⟨r,f1, -,f2⟩:=add_under (negB_lt h2) (negB_lt h4) (negB_lt X.hv) (negB_lt Y.hv) (by rw [nanB_negB h2];exact S.nh) (by rw [nanB_negB h4];exact T.nh) (by rw [finB_negB X.hv];exact X.fv) (by rw [finB_negB Y.hv];exact Y.fv)
     (by rw [key_negB h2,key_negB X.hv];omega) (by rw [key_negB h4,key_negB Y.hv];omega)
   have m:=addR_mirror (negB_lt h2) (negB_lt h4)
   rw [negB_negB h2,negB_negB h4,f1,e3] at m
   rcases m with ⟨c, -⟩ | ⟨x,y,g1,g2, -, -,k⟩
   · cases c
   · injection g1 with g1
     injection g2 with g2
     rw [←g1,←g2] at k
     omega
theorem key_range {x:Nat} (hx:x<18446744073709551616) (n:nanB x=false):-9218868437227405312≤key x∧key x≤9218868437227405312:=by
 have h1:¬9218868437227405312<x%9223372036854775808:=by simpa [nanB] using n
 unfold key
 split <;> omega
theorem key_infW (g:Bool):key (infW g)=if g then -9218868437227405312 else 9218868437227405312:=by cases g <;> decide
theorem mulV_zl {a b:Nat} (d:Int) (na:nanB a=false) (nb:nanB b=false) (z:isZ a=true):mulV a b d=0:=by
 unfold mulV mulR
 rw [na,nb,z]
 rfl
theorem mulV_zr {a b:Nat} (d:Int) (na:nanB a=false) (nb:nanB b=false) (z:isZ b=true):mulV a b d=0:=by
 unfold mulV mulR
 rw [na,nb,z]
 cases isZ a <;> rfl
theorem mulV_inf {a b:Nat} (d:Int) (na:nanB a=false) (nb:nanB b=false) (za:isZ a=false) (zb:isZ b=false) (h:(finB a&&finB b)=false):mulV a b d=infW (signB a != signB b):=by
 unfold mulV mulR
 rw [na,nb,za,zb,h]
 rfl
theorem mul_rise {p a q:Nat} (hp:p<18446744073709551616) (ha:a<18446744073709551616) (hq:q<18446744073709551616) (np:nanB p=false) (na:nanB a=false) (nq:nanB q=false) (k0:0≤key q) (h:key p≤key a) :
   key (mulV p q (-1))≤key (mulV a q (-1)):=by
 have fp:=mulV_facts (-1) np nq
 have fa:=mulV_facts (-1) na nq
 have rp:=key_range fp.2 fp.1
 have ra:=key_range fa.2 fa.1
 cases zq:isZ q
 case true =>
   rw [mulV_zr (-1) np nq zq,mulV_zr (-1) na nq zq]
   exact Int.le_refl _
 case false =>
 have kq:key q≠0:=fun c=>by rw [(key_zero hq).2 c] at zq;cases zq
 have sq:=sign_key hq zq
 rw [decide_eq_false (by omega:¬key q<0)] at sq
 by_cases f:(finB p&&finB q)=true∧(finB a&&finB q)=true
 · obtain⟨f1,f3⟩:=Bool.and_eq_true_iff.1 f.1
   obtain⟨f2, -⟩:=Bool.and_eq_true_iff.1 f.2
   refine mulV_le hp hq ha hq np nq f2 f3 ?_ (fun c=>by rw [f.1] at c;cases c)
   exact Int.mul_le_mul_of_nonneg_right (V_mono_le h) (V_nonneg k0)
 · cases zp:isZ p
   case true =>
     have kp:=(key_zero hp).1 zp
     rw [mulV_zl (-1) np nq zp]
     cases za:isZ a
     case true=>rw [mulV_zl (-1) na nq za];exact Int.le_refl _
     case false =>
       have ka:key a≠0:=fun c=>by rw [(key_zero ha).2 c] at za;cases za
       have sa:=sign_key ha za
       rw [decide_eq_false (by omega:¬key a<0)] at sa
       have k0':key 0=0:=rfl
       cases g:(finB a&&finB q)
       · rw [mulV_inf (-1) na nq za zq g,sa,sq,key_infW,k0']
         decide
       · exfalso
         apply f
         refine⟨?_,g⟩
         have fpz:finB p=true:=by
           cases c:finB p
           · rcases (key_inf hp np).1 c with d | d <;> omega
           · rfl
         rw [fpz,(Bool.and_eq_true_iff.1 g).2];rfl
   case false =>
     have kp:key p≠0:=fun c=>by rw [(key_zero hp).2 c] at zp;cases zp
     have sp:=sign_key hp zp
     cases g:(finB p&&finB q)
     · rw [mulV_inf (-1) np nq zp zq g,sp,sq,key_infW] at rp ⊢
       by_cases c:key p<0
       · simp only [c,decide_true]
         exact ra.1
       · simp only [c,decide_false]
         have ka:key a≠0:=by omega
         have za:=isZ_pos ha ka
         have sa:=sign_key ha za
         rw [decide_eq_false (by omega:¬key a<0)] at sa
         have ga:(finB a&&finB q)=false:=by
           cases fq:finB q
           · rw [Bool.and_false]
           · have fpf:finB p=false:=by rw [fq,Bool.and_true] at g;exact g
             have fa2:finB a=false:=by
               rw [key_inf ha na]
               have:=key_range ha na
               rcases (key_inf hp np).1 fpf with d | d <;> omega
             rw [fa2];rfl
         rw [mulV_inf (-1) na nq za zq ga,sa,sq,key_infW]
         decide
     · have ga:(finB a&&finB q)=false:=by
         cases c:(finB a&&finB q)
         · rfl
         · exact absurd ⟨g,c⟩ f
       obtain⟨g1,g2⟩:=Bool.and_eq_true_iff.1 g
       have fa2:finB a=false:=by rw [g2,Bool.and_true] at ga;exact ga
       have kf:=fin_key hp g1
       have ka:key a=9218868437227405312:=by rcases (key_inf ha na).1 fa2 with d | d <;> omega
       have za:=isZ_pos ha (by omega:key a≠0)
       have sa:=sign_key ha za
       rw [decide_eq_false (by omega:¬key a<0)] at sa
       rw [mulV_inf (-1) na nq za zq ga,sa,sq,key_infW]
       exact rp.2
theorem mul_up {a b:Nat} (ha:a<18446744073709551616) (na:nanB a=false) (nb:nanB b=false):key (mulV (negB a) b 1)=- key (mulV a b (-1)):=by
 have nn:nanB (negB a)=false:=by rw [nanB_negB ha];exact na
 have m:=mulR_mirror (b:=b) ha
 rw [mulV_is (-1) na nb,mulV_is 1 nn nb] at m
 rcases m with ⟨c, -⟩ | ⟨x,y,g1,g2, -, -,k⟩
 · cases c
 · injection g1 with g1
   injection g2 with g2
   rw [g1,g2]
   exact k
theorem mul_two {a b:Nat} (ha:a<18446744073709551616) (hb:b<18446744073709551616) (na:nanB a=false) (nb:nanB b=false):key (mulV (negB a) (negB b) (-1))=key (mulV a b (-1)):=by
 have nn:nanB (negB a)=false:=by rw [nanB_negB ha];exact na
 have nm:nanB (negB b)=false:=by rw [nanB_negB hb];exact nb
 have m1:=mul_up ha na nb
 have m2:=mul_up (negB_lt hb) nm nn
 rw [negB_negB hb,mulV_comm b,mulV_comm (negB b)] at m2
 omega
theorem mul_fall {p a q:Nat} (hp:p<18446744073709551616) (ha:a<18446744073709551616) (hq:q<18446744073709551616) (np:nanB p=false) (na:nanB a=false) (nq:nanB q=false) (k0:key q≤0) (h:key p≤key a) :
   key (mulV a q (-1))≤key (mulV p q (-1)):=by
 have r:=mul_rise (negB_lt ha) (negB_lt hp) (negB_lt hq) (by rw [nanB_negB ha];exact na) (by rw [nanB_negB hp];exact np) (by rw [nanB_negB hq];exact nq) (by rw [key_negB hq];omega) (by rw [key_negB ha,key_negB hp];omega)
 rw [mul_two ha hq na nq,mul_two hp hq np nq] at r
 exact r
def lowK (xl xh yl yh:Nat):Int:=min (min (key (mulV xl yl (-1))) (key (mulV xl yh (-1)))) (min (key (mulV xh yl (-1))) (key (mulV xh yh (-1))))
def topK (xl xh yl yh:Nat):Int:=max (max (key (mulV xl yl 1)) (key (mulV xl yh 1))) (max (key (mulV xh yl 1)) (key (mulV xh yh 1)))
theorem low_four {xl xh yl yh:Nat} (h1:xl<18446744073709551616) (h2:xh<18446744073709551616) (h3:yl<18446744073709551616) (h4:yh<18446744073709551616) (n1:nanB xl=false) (n2:nanB xh=false) (n3:nanB yl=false) (n4:nanB yh=false) (kx:key xl≤key xh) (ky:key yl≤key yh) :
   (0≤key xl→key yl<0→lowK xl xh yl yh=key (mulV xh yl (-1)))∧(0≤key xl→0≤key yl→lowK xl xh yl yh=key (mulV xl yl (-1))) ∧
   (key xh≤0→0<key yh→lowK xl xh yl yh=key (mulV xl yh (-1)))∧(key xh≤0→key yh≤0→lowK xl xh yl yh=key (mulV xh yh (-1))) ∧
   (key xl<0→0<key xh→0≤key yl→lowK xl xh yl yh=key (mulV xl yh (-1)))∧(key xl<0→0<key xh→key yh≤0→lowK xl xh yl yh=key (mulV xh yl (-1))) ∧
   (key xl<0→0<key xh→key yl<0→0<key yh→lowK xl xh yl yh=min (key (mulV xl yh (-1))) (key (mulV xh yl (-1)))):=by
 have r1:key yl<0∨key (mulV xl yl (-1))≤key (mulV xh yl (-1)):=by
   rcases Int.lt_or_le (key yl) 0 with c | c
   · exact Or.inl c
   · exact Or.inr (mul_rise h1 h2 h3 n1 n2 n3 c kx)
 have f1:0<key yl∨key (mulV xh yl (-1))≤key (mulV xl yl (-1)):=by
   rcases Int.lt_or_le 0 (key yl) with c | c
   · exact Or.inl c
   · exact Or.inr (mul_fall h1 h2 h3 n1 n2 n3 c kx)
 have r2:key yh<0∨key (mulV xl yh (-1))≤key (mulV xh yh (-1)):=by
   rcases Int.lt_or_le (key yh) 0 with c | c
   · exact Or.inl c
   · exact Or.inr (mul_rise h1 h2 h4 n1 n2 n4 c kx)
 have f2:0<key yh∨key (mulV xh yh (-1))≤key (mulV xl yh (-1)):=by
   rcases Int.lt_or_le 0 (key yh) with c | c
   · exact Or.inl c
   · exact Or.inr (mul_fall h1 h2 h4 n1 n2 n4 c kx)
 have r3:key xl<0∨key (mulV xl yl (-1))≤key (mulV xl yh (-1)):=by
   rw [mulV_comm xl yl,mulV_comm xl yh]
   rcases Int.lt_or_le (key xl) 0 with c | c
   · exact Or.inl c
   · exact Or.inr (mul_rise h3 h4 h1 n3 n4 n1 c ky)
 have f3:0<key xl∨key (mulV xl yh (-1))≤key (mulV xl yl (-1)):=by
   rw [mulV_comm xl yl,mulV_comm xl yh]
   rcases Int.lt_or_le 0 (key xl) with c | c
   · exact Or.inl c
   · exact Or.inr (mul_fall h3 h4 h1 n3 n4 n1 c ky)
 have r4:key xh<0∨key (mulV xh yl (-1))≤key (mulV xh yh (-1)):=by
   rw [mulV_comm xh yl,mulV_comm xh yh]
   rcases Int.lt_or_le (key xh) 0 with c | c
   · exact Or.inl c
   · exact Or.inr (mul_rise h3 h4 h2 n3 n4 n2 c ky)
 have f4:0<key xh∨key (mulV xh yh (-1))≤key (mulV xh yl (-1)):=by
   rw [mulV_comm xh yl,mulV_comm xh yh]
   rcases Int.lt_or_le 0 (key xh) with c | c
   · exact Or.inl c
   · exact Or.inr (mul_fall h3 h4 h2 n3 n4 n2 c ky)
 unfold lowK
 generalize key (mulV xl yl (-1))=A at *
 generalize key (mulV xl yh (-1))=C at *
 generalize key (mulV xh yl (-1))=D at *
 generalize key (mulV xh yh (-1))=E at *
 refine⟨?_, ?_, ?_, ?_, ?_, ?_, ?_⟩ <;> intros <;> omega
theorem top_low {xl xh yl yh:Nat} (h1:xl<18446744073709551616) (h2:xh<18446744073709551616) (n1:nanB xl=false) (n2:nanB xh=false) (n3:nanB yl=false) (n4:nanB yh=false) :
   topK xl xh yl yh=- lowK (negB xh) (negB xl) yl yh:=by
 have e:∀{a b:Nat},a<18446744073709551616→nanB a=false→nanB b=false→key (mulV a b 1)=- key (mulV (negB a) b (-1)):=fun {a b} ha na nb=>by
   have:=mul_up (negB_lt ha) (by rw [nanB_negB ha];exact na) nb
   rw [negB_negB ha] at this
   exact this
 unfold topK lowK
 rw [e h1 n1 n3,e h1 n1 n4,e h2 n2 n3,e h2 n2 n4]
 generalize key (mulV (negB xl) yl (-1))=A at *
 generalize key (mulV (negB xl) yh (-1))=C at *
 generalize key (mulV (negB xh) yl (-1))=D at *
 generalize key (mulV (negB xh) yh (-1))=E at *
 omega
theorem lowK_comm (xl xh yl yh:Nat):lowK xl xh yl yh=lowK yl yh xl xh:=by
 unfold lowK
 rw [mulV_comm yl xl,mulV_comm yl xh,mulV_comm yh xl,mulV_comm yh xh]
 generalize key (mulV xl yl (-1))=A at *
 generalize key (mulV xl yh (-1))=C at *
 generalize key (mulV xh yl (-1))=D at *
 generalize key (mulV xh yh (-1))=E at *
 omega
theorem topK_comm (xl xh yl yh:Nat):topK xl xh yl yh=topK yl yh xl xh:=by
 unfold topK
 rw [mulV_comm yl xl,mulV_comm yl xh,mulV_comm yh xl,mulV_comm yh xh]
 generalize key (mulV xl yl 1)=A at *
 generalize key (mulV xl yh 1)=C at *
 generalize key (mulV xh yl 1)=D at *
 generalize key (mulV xh yh 1)=E at *
 omega
theorem lpP_is (t fl fh:Nat) (nt:nanB t=false):lpP t fl fh=if key t<0 then mulV t fh (-1) else mulV t fl (-1):=by
 unfold lpP
 have h0:nanB 0=false:=by decide
 have k0:key 0=0:=rfl
 rw [lt_is nt h0,k0]
 by_cases c:key t<0
 · simp only [c,decide_true,if_true];rfl
 · simp only [c,decide_false,Bool.false_eq_true,if_false];rfl
theorem stretch_keys {tl th fl fh:Nat} (h1:tl<18446744073709551616) (h2:th<18446744073709551616) (h3:fl<18446744073709551616) (h4:fh<18446744073709551616) (n1:nanB tl=false) (n2:nanB th=false) (n3:nanB fl=false) (n4:nanB fh=false) (kt:key tl≤key th) (kf:key fl≤key fh) (k0:0≤key fl) :
   key (lpP tl fl fh)=lowK tl th fl fh∧- key (lpP (negB th) fl fh)=topK tl th fl fh:=by
 have n5:nanB (negB th)=false:=by rw [nanB_negB h2];exact n2
 have n6:nanB (negB tl)=false:=by rw [nanB_negB h1];exact n1
 have e1:=key_negB h1
 have e2:=key_negB h2
 constructor
 · obtain⟨a,b, -⟩:=low_four h3 h4 h1 h2 n3 n4 n1 n2 kf kt
   rw [lowK_comm tl,lpP_is tl fl fh n1]
   split
   · rename_i c
     rw [a k0 c,mulV_comm fh]
   · rename_i c
     rw [b k0 (by omega),mulV_comm fl]
 · obtain⟨a,b, -⟩:=low_four h3 h4 (negB_lt h2) (negB_lt h1) n3 n4 n5 n6 kf (by omega)
   rw [top_low h1 h2 n1 n2 n3 n4,lowK_comm (negB th),lpP_is (negB th) fl fh n5]
   split
   · rename_i c
     rw [a k0 c,mulV_comm fh]
   · rename_i c
     rw [b k0 (by omega),mulV_comm fl]
theorem make_keys {p q D U:Nat} (e:Enc (makeP p q).1 (makeP p q).2 D U) (h:key D≤9218868437227405311):key (makeP p q).1=key p∧key (makeP p q).2=key q:=by
 have k:=e.k1
 unfold makeP at k ⊢
 split at k
 · rename_i c
   rw [if_pos c]
   exact⟨key_pz p,key_pz q⟩
 · exfalso
   have:key (infI 1)≤key D:=k
   rw [key_up] at this
   omega
theorem mulV_pz {a:Nat} (b:Nat) (d:Int):mulV (pz a) b d=mulV a b d:=by
 unfold pz
 split
 · rename_i c
   subst c
   unfold mulV mulR
   have z1:isZ 0=true:=by decide
   have z2:isZ 9223372036854775808=true:=by decide
   have m1:nanB 0=false:=by decide
   have m2:nanB 9223372036854775808=false:=by decide
   rw [z1,z2,m1,m2]
   simp only [Bool.false_or,Bool.true_or,if_true]
 · rfl
theorem topK_pz (a b c d:Nat):topK (pz a) (pz b) c d=topK a b c d:=by unfold topK;simp only [mulV_pz]
theorem lowK_pz (a b c d:Nat):lowK (pz a) (pz b) c d=lowK a b c d:=by unfold lowK;simp only [mulV_pz]
theorem low_mirror {xl xh yl yh:Nat} (h1:xl<18446744073709551616) (h2:xh<18446744073709551616) (n1:nanB xl=false) (n2:nanB xh=false) (n3:nanB yl=false) (n4:nanB yh=false) :
   lowK xl xh yl yh=- topK yl yh (pz (negB xh)) (pz (negB xl))∧topK xl xh yl yh=- lowK yl yh (pz (negB xh)) (pz (negB xl)):=by
 have t:=top_low (negB_lt h2) (negB_lt h1) (by rw [nanB_negB h2];exact n2) (by rw [nanB_negB h1];exact n1) n3 n4
 rw [negB_negB h1,negB_negB h2] at t
 have u:=top_low h1 h2 n1 n2 n3 n4
 rw [topK_comm yl,topK_pz,t,lowK_comm yl,lowK_pz,u]
 exact⟨by omega,rfl⟩
theorem mirror_words {lo hi v:Nat} (h:Held lo hi v):mirrorP (lo,hi)=(pz (negB hi),pz (negB lo)):=by
 have k:=(held_neg h).1.hs
 unfold mirrorP makeP at k ⊢
 split
 · rfl
 · rename_i c
   rw [if_neg c] at k
   exact absurd (hs_iff.1 k) not_some_empty
theorem enc_some {m1 m2 D U:Nat} (e:Enc m1 m2 D U) (h:key D≤key U) (h1:key D≤9218868437227405311) (h2:-9218868437227405311≤key U):Some2 m1 m2:=by
 have k1:=e.k1
 have k2:=e.k2
 exact⟨e.n1,e.n2,by omega,by omega,by omega,e.z1,e.z2⟩
theorem mirror_keys {s1 s2 D U:Nat} (h1:s1<18446744073709551616) (h2:s2<18446744073709551616) (f:Enc (mirrorP (s1,s2)).1 (mirrorP (s1,s2)).2 D U) (h:key D≤9218868437227405311):key (mirrorP (s1,s2)).1=- key s2∧key (mirrorP (s1,s2)).2=- key s1:=by
 unfold mirrorP at f ⊢
 have v:=make_keys f h
 rw [v.1,v.2]
 exact⟨key_negB h2,key_negB h1⟩
theorem mul_ends {xl xh yl yh a b:Nat} (X:Held xl xh a) (Y:Held yl yh b):∃m1 m2,(∀w,Calls Tryz.prog 149 #[.agg #[.float .f64 xl,.float .f64 xh],.agg #[.float .f64 yl,.float .f64 yh]] w fun e w'=>e=.returned (.agg #[.float .f64 m1,.float .f64 m2])∧Below w.heap.size w w') ∧
   Some2 m1 m2∧m1<18446744073709551616∧m2<18446744073709551616∧key m1=lowK xl xh yl yh∧key m2=topK xl xh yl yh:=by
 have c0:=some2 X Y
 have na:=fin_not_nan X.fv
 have nb:=fin_not_nan Y.fv
 have g1:=ge0 X.hl X.nl
 have g2:=le0 X.hh X.nh
 have g3:=ge0 Y.hl Y.nl
 have g4:=le0 Y.hh Y.nh
 have kx:key xl≤key xh:=Int.le_trans X.kl X.kh
 have ky:key yl≤key yh:=Int.le_trans Y.kl Y.kh
 obtain⟨s1,s2,s3,s4⟩:=mulV_sides X.hv Y.hv X.fv Y.fv
 have s0:=Int.le_trans s1.le s2.le
 by_cases p1:0≤key xl
 · have e:=stretch_enc Y X p1
   rw [mulV_comm b a (-1),mulV_comm b a 1] at e
   obtain⟨k1,k2⟩:=make_keys e s3
   obtain⟨j1,j2⟩:=stretch_keys Y.hl Y.hh X.hl X.hh Y.nl Y.nh X.nl X.nh ky kx p1
   have nn:nanB (negB yh)=false:=by rw [nanB_negB Y.hh];exact Y.nh
   exact⟨_,_,fun w=>mul_a xl xh yl yh _ _ c0 (by rw [g1];simp [p1]) (fun w=>stretch_w yl yh xl xh Y.hl Y.hh X.hl X.hh Y.nl Y.nh X.nl X.nh w) w,enc_some e s0 s3 s4,e.l1,e.l2,
     by rw [k1,j1,lowK_comm],by rw [k2,key_negB (lpP_lt nn X.nl X.nh),j2,topK_comm]⟩
 · by_cases p2:key xh≤0
   · obtain⟨N,k1,k2⟩:=held_neg X
     have mw:=mirror_words X
     have e:=stretch_enc Y N (by omega)
     have u1:=mulV_mirror X.hv na nb
     have u2:=mulV_mirror' X.hv na nb
     obtain⟨t1,t2,t3,t4⟩:=mulV_sides Y.hv N.hv Y.fv N.fv
     have t1:=t1.le
     have t2:=t2.le
     have f:=enc_mirror (D':=mulV a b (-1)) (U':=mulV a b 1) e (by rw [mulV_comm b (negB a) 1];omega) (by rw [mulV_comm b (negB a) (-1)];omega) (by omega) t3 t4
     obtain⟨i1,i2⟩:=make_keys e t3
     obtain⟨j1,j2⟩:=stretch_keys Y.hl Y.hh N.hl N.hh Y.nl Y.nh N.nl N.nh ky (by omega) (by omega)
     have nn:nanB (negB yh)=false:=by rw [nanB_negB Y.hh];exact Y.nh
     rw [key_negB (lpP_lt nn N.nl N.nh),j2] at i2
     rw [j1] at i1
     obtain⟨l1,l2⟩:=low_mirror (yl:=yl) (yh:=yh) X.hl X.hh X.nl X.nh Y.nl Y.nh
     have a1:(mirrorP (xl,xh)).1=pz (negB xh):=by rw [mw]
     have a2:(mirrorP (xl,xh)).2=pz (negB xl):=by rw [mw]
     rw [←a1,←a2] at l1 l2
     obtain⟨v1,v2⟩:=mirror_keys e.l1 e.l2 f s3
     rw [i2,←l1] at v1
     rw [i1,←l2] at v2
     exact⟨_,_,fun w=>mul_b xl xh yl yh _ _ _ _ _ _ c0 (by rw [g1];simp [p1]) (by rw [g2];simp [p2]) (fun w=>mirror_w xl xh X.hl X.hh w) (fun w=>stretch_w yl yh _ _ Y.hl Y.hh N.hl N.hh Y.nl Y.nh N.nl N.nh w) (fun w=>mirror_w _ _ e.l1 e.l2 w) w,enc_some f s0 s3 s4,f.l1,f.l2,v1,v2⟩
   · by_cases p3:0≤key yl
     · have e:=stretch_enc X Y p3
       obtain⟨k1,k2⟩:=make_keys e s3
       obtain⟨j1,j2⟩:=stretch_keys X.hl X.hh Y.hl Y.hh X.nl X.nh Y.nl Y.nh kx ky p3
       have nn:nanB (negB xh)=false:=by rw [nanB_negB X.hh];exact X.nh
       exact⟨_,_,fun w=>mul_c xl xh yl yh _ _ c0 (by rw [g1];simp [p1]) (by rw [g2];simp [p2]) (by rw [g3];simp [p3]) (fun w=>stretch_w xl xh yl yh X.hl X.hh Y.hl Y.hh X.nl X.nh Y.nl Y.nh w) w,enc_some e s0 s3 s4,e.l1,e.l2,
         by rw [k1,j1],by rw [k2,key_negB (lpP_lt nn Y.nl Y.nh),j2]⟩
     · by_cases p4:key yh≤0
       · obtain⟨N,k1,k2⟩:=held_neg Y
         have mw:=mirror_words Y
         have e:=stretch_enc X N (by omega)
         have u1:=mulV_mirror Y.hv nb na
         have u2:=mulV_mirror' Y.hv nb na
         obtain⟨t1,t2,t3,t4⟩:=mulV_sides X.hv N.hv X.fv N.fv
         have t1:=t1.le
         have t2:=t2.le
         have f:=enc_mirror (D':=mulV a b (-1)) (U':=mulV a b 1) e (by rw [mulV_comm a (negB b) 1,mulV_comm a b (-1)];omega) (by rw [mulV_comm a (negB b) (-1),mulV_comm a b 1];omega) (by omega) t3 t4
         obtain⟨i1,i2⟩:=make_keys e t3
         obtain⟨j1,j2⟩:=stretch_keys X.hl X.hh N.hl N.hh X.nl X.nh N.nl N.nh kx (by omega) (by omega)
         have nn:nanB (negB xh)=false:=by rw [nanB_negB X.hh];exact X.nh
         rw [key_negB (lpP_lt nn N.nl N.nh),j2] at i2
         rw [j1] at i1
         obtain⟨l1,l2⟩:=low_mirror (yl:=xl) (yh:=xh) Y.hl Y.hh Y.nl Y.nh X.nl X.nh
         have a1:(mirrorP (yl,yh)).1=pz (negB yh):=by rw [mw]
         have a2:(mirrorP (yl,yh)).2=pz (negB yl):=by rw [mw]
         rw [←a1,←a2] at l1 l2
         obtain⟨v1,v2⟩:=mirror_keys e.l1 e.l2 f s3
         rw [i2,←l1] at v1
         rw [i1,←l2] at v2
         rw [lowK_comm] at v1
         rw [topK_comm] at v2
         exact⟨_,_,fun w=>mul_d xl xh yl yh _ _ _ _ _ _ c0 (by rw [g1];simp [p1]) (by rw [g2];simp [p2]) (by rw [g3];simp [p3]) (by rw [g4];simp [p4]) (fun w=>mirror_w yl yh Y.hl Y.hh w) (fun w=>stretch_w xl xh _ _ X.hl X.hh N.hl N.hh X.nl X.nh N.nl N.nh w) (fun w=>mirror_w _ _ e.l1 e.l2 w) w,enc_some f s0 s3 s4,f.l1,f.l2,v1,v2⟩
       · have f1:=mulV_facts (-1) X.nl Y.nh
         have f2:=mulV_facts (-1) X.nh Y.nl
         have f3:=mulV_facts 1 X.nl Y.nl
         have f4:=mulV_facts 1 X.nh Y.nh
         have q1:=minW_key (mulV xl yh (-1)) (mulV xh yl (-1))
         have q2:=maxW_key (mulV xl yl 1) (mulV xh yh 1)
         have k0:key 0=0:=rfl
         have n0:nanB 0=false:=by decide
         have z0:isZ 0=true:=by decide
         have nl:nanB (negB xl)=false:=by rw [nanB_negB X.hl];exact X.nl
         have nh:nanB (negB xh)=false:=by rw [nanB_negB X.hh];exact X.nh
         have el:=key_negB X.hl
         have eh:=key_negB X.hh
         have d1:=mul_rise X.hl (by omega:0<18446744073709551616) Y.hh X.nl n0 Y.nh (by omega) (by rw [k0];omega)
         rw [mulV_zl (-1) n0 Y.nh z0,k0] at d1
         have d2:=mul_rise Y.hl (by omega:0<18446744073709551616) (negB_lt X.hl) Y.nl n0 nl (by omega) (by rw [k0];omega)
         rw [mulV_zl (-1) n0 nl z0,k0,mulV_comm] at d2
         have m1:=mul_up (negB_lt X.hl) nl Y.nl
         have m2:=mul_up (negB_lt X.hh) nh Y.nh
         rw [negB_negB X.hl] at m1
         rw [negB_negB X.hh] at m2
         obtain⟨-, -, -, -, -, -,r⟩:=low_four X.hl X.hh Y.hl Y.hh X.nl X.nh Y.nl Y.nh kx ky
         obtain⟨-, -, -, -, -, -,r'⟩:=low_four (negB_lt X.hh) (negB_lt X.hl) Y.hl Y.hh nh nl Y.nl Y.nh (by omega) ky
         have r:=r (by omega) (by omega) (by omega) (by omega)
         have r':=r' (by omega) (by omega) (by omega) (by omega)
         have u:=top_low X.hl X.hh X.nl X.nh Y.nl Y.nh
         rw [r'] at u
         refine⟨_,_,fun w=>mul_e xl xh yl yh _ _ mulV X.hl X.hh Y.hl Y.hh X.nl X.nh Y.nl Y.nh c0 (by rw [g1];simp [p1]) (by rw [g2];simp [p2]) (by rw [g3];simp [p3]) (by rw [g4];simp [p4])
           (fun a b d ha hb na nb w=>mulV_w a b d ha hb na nb w) (fun ts t w=>min_f f1.2 f2.2 f1.1 f2.1 _ ts t w) (fun ts t w=>max_f f3.2 f4.2 f3.1 f4.1 _ ts t w) w,⟨pick_nan q1.2 f1.1 f2.1,pick_nan q2.2 f3.1 f4.1, ?_, ?_, ?_,pick_ne q1.2 (mulV_nz _ X.nl Y.nh) (mulV_nz _ X.nh Y.nl),pick_ne q2.2 (mulV_nz _ X.nl Y.nl) (mulV_nz _ X.nh Y.nh)⟩,pick_lt q1.2 f1.2 f2.2,pick_lt q2.2 f3.2 f4.2,by rw [q1.1,r], ?_⟩
         · rw [q1.1,q2.1];omega
         · rw [q1.1];omega
         · rw [q2.1];omega
         · rw [q2.1,u];omega
theorem min_four (A B C D U:Int) (h:A≤U):min D (min C (min B (min A U)))=min (min A B) (min C D):=by omega
theorem max_four (A B C D U:Int) (h:U≤A):max D (max C (max B (max A U)))=max (max A B) (max C D):=by omega
def out1 (lo l:Nat):Nat:=if ltB l lo then l else lo
def out2 (hi h:Nat):Nat:=if ltB hi h then h else hi
theorem out1_key {lo l:Nat} (a:nanB lo=false∧lo≠9223372036854775808) (b:nanB l=false∧l≠9223372036854775808):key (out1 lo l)=min (key l) (key lo)∧nanB (out1 lo l)=false∧out1 lo l≠9223372036854775808:=by
 unfold out1
 rw [lt_is b.1 a.1]
 by_cases c:key l<key lo
 · simp only [c,decide_true,if_true];exact⟨by omega,b⟩
 · simp only [c,decide_false,Bool.false_eq_true,if_false];exact⟨by omega,a⟩
theorem out2_key {hi h:Nat} (a:nanB hi=false∧hi≠9223372036854775808) (b:nanB h=false∧h≠9223372036854775808):key (out2 hi h)=max (key h) (key hi)∧nanB (out2 hi h)=false∧out2 hi h≠9223372036854775808:=by
 unfold out2
 rw [lt_is a.1 b.1]
 by_cases c:key hi<key h
 · simp only [c,decide_true,if_true];exact⟨by omega,b⟩
 · simp only [c,decide_false,Bool.false_eq_true,if_false];exact⟨by omega,a⟩
def rmulP (xl xh yl yh:Nat):Nat×Nat :=
 rendsP (out1 (out1 (out1 (out1 (infI 1) (mulV xl yl (-1))) (mulV xl yh (-1))) (mulV xh yl (-1))) (mulV xh yh (-1)))
   (out2 (out2 (out2 (out2 (infI (-1)) (mulV xl yl 1)) (mulV xl yh 1)) (mulV xh yl 1)) (mulV xh yh 1))
theorem rmul_is {xl xh yl yh m1 m2:Nat} (n1:nanB xl=false) (n2:nanB xh=false) (n3:nanB yl=false) (n4:nanB yh=false) (S:Some2 m1 m2) (k1:key m1=lowK xl xh yl yh) (k2:key m2=topK xl xh yl yh):rmulP xl xh yl yh=(m1,m2):=by
 have f:∀{a b:Nat} (d:Int),nanB a=false→nanB b=false→(nanB (mulV a b d)=false∧mulV a b d≠9223372036854775808)∧-9218868437227405312≤key (mulV a b d)∧key (mulV a b d)≤9218868437227405312:=fun {a b} d na nb =>
   ⟨⟨(mulV_facts d na nb).1,mulV_nz d na nb⟩,key_range (mulV_facts d na nb).2 (mulV_facts d na nb).1⟩
 have a1:=f (-1) n1 n3
 have a2:=f (-1) n1 n4
 have a3:=f (-1) n2 n3
 have a4:=f (-1) n2 n4
 have b1:=f 1 n1 n3
 have b2:=f 1 n1 n4
 have b3:=f 1 n2 n3
 have b4:=f 1 n2 n4
 have i1:nanB (infI 1)=false∧infI 1≠9223372036854775808:=⟨by decide,up_ne⟩
 have i2:nanB (infI (-1))=false∧infI (-1)≠9223372036854775808:=⟨by decide,dn_ne⟩
 have ku:=key_up
 have kd:=key_dn
 unfold lowK at k1
 unfold topK at k2
 unfold rmulP
 generalize mulV xl yl (-1)=A1 at *
 generalize mulV xl yh (-1)=A2 at *
 generalize mulV xh yl (-1)=A3 at *
 generalize mulV xh yh (-1)=A4 at *
 generalize mulV xl yl 1=B1 at *
 generalize mulV xl yh 1=B2 at *
 generalize mulV xh yl 1=B3 at *
 generalize mulV xh yh 1=B4 at *
 generalize infI 1=U at *
 generalize infI (-1)=D at *
 clear f
 have c1:=out1_key i1 a1.1
 have c2:=out1_key c1.2 a2.1
 have c3:=out1_key c2.2 a3.1
 have c4:=out1_key c3.2 a4.1
 have d1:=out2_key i2 b1.1
 have d2:=out2_key d1.2 b2.1
 have d3:=out2_key d2.2 b3.1
 have d4:=out2_key d3.2 b4.1
 have g1:=a1.2.2
 have g2:=b1.2.1
 rw [←ku] at g1
 rw [←kd] at g2
 have e1:=key_one c4.2.2 S.zl (by rw [c4.1,c3.1,c2.1,c1.1,k1];exact min_four _ _ _ _ _ g1)
 have e2:=key_one d4.2.2 S.zh (by rw [d4.1,d3.1,d2.1,d1.1,k2];exact max_four _ _ _ _ _ g2)
 rw [e1,e2]
 exact rends_is S
theorem mul_mid {p a q b:Nat} (hp:p<18446744073709551616) (ha:a<18446744073709551616) (hq:q<18446744073709551616) (hb:b<18446744073709551616) (np:nanB p=false) (na:nanB a=false) (nq:nanB q=false) (nb:nanB b=false) (k1:key p≤key a) (k2:key a≤key q) :
   key (mulV p b (-1))≤key (mulV a b (-1))∨key (mulV q b (-1))≤key (mulV a b (-1)):=by
 rcases Int.le_total 0 (key b) with c | c
 · exact Or.inl (mul_rise hp ha hb np na nb c k1)
 · exact Or.inr (mul_fall ha hq hb na nq nb c k2)
theorem low_grows {ul uh xl xh yl yh:Nat} (hu:ul<18446744073709551616) (hv:uh<18446744073709551616) (h1:xl<18446744073709551616) (h2:xh<18446744073709551616) (h3:yl<18446744073709551616) (h4:yh<18446744073709551616) (nu:nanB ul=false) (nv:nanB uh=false) (n1:nanB xl=false) (n2:nanB xh=false) (n3:nanB yl=false) (n4:nanB yh=false)
   (k1:key ul≤key xl) (kx:key xl≤key xh) (k2:key xh≤key uh):lowK ul uh yl yh≤lowK xl xh yl yh:=by
 have a1:=mul_mid hu h1 hv h3 nu n1 nv n3 k1 (by omega)
 have a2:=mul_mid hu h1 hv h4 nu n1 nv n4 k1 (by omega)
 have a3:=mul_mid hu h2 hv h3 nu n2 nv n3 (by omega) k2
 have a4:=mul_mid hu h2 hv h4 nu n2 nv n4 (by omega) k2
 unfold lowK
 generalize key (mulV xl yl (-1))=A1 at *
 generalize key (mulV xl yh (-1))=A2 at *
 generalize key (mulV xh yl (-1))=A3 at *
 generalize key (mulV xh yh (-1))=A4 at *
 generalize key (mulV ul yl (-1))=B1 at *
 generalize key (mulV ul yh (-1))=B2 at *
 generalize key (mulV uh yl (-1))=B3 at *
 generalize key (mulV uh yh (-1))=B4 at *
 clear k1 kx k2
 have e1:min (min B1 B2) (min B3 B4)≤A1:=by clear a2 a3 a4;omega
 have e2:min (min B1 B2) (min B3 B4)≤A2:=by clear a1 a3 a4 e1;omega
 have e3:min (min B1 B2) (min B3 B4)≤A3:=by clear a1 a2 a4 e1 e2;omega
 have e4:min (min B1 B2) (min B3 B4)≤A4:=by clear a1 a2 a3 e1 e2 e3;omega
 generalize min (min B1 B2) (min B3 B4)=M at *
 clear a1 a2 a3 a4
 omega
theorem top_grows {ul uh xl xh yl yh:Nat} (hu:ul<18446744073709551616) (hv:uh<18446744073709551616) (h1:xl<18446744073709551616) (h2:xh<18446744073709551616) (h3:yl<18446744073709551616) (h4:yh<18446744073709551616) (nu:nanB ul=false) (nv:nanB uh=false) (n1:nanB xl=false) (n2:nanB xh=false) (n3:nanB yl=false) (n4:nanB yh=false)
   (k1:key ul≤key xl) (kx:key xl≤key xh) (k2:key xh≤key uh):topK xl xh yl yh≤topK ul uh yl yh:=by
 have e1:=key_negB hu
 have e2:=key_negB hv
 have e3:=key_negB h1
 have e4:=key_negB h2
 have l:=low_grows (negB_lt hv) (negB_lt hu) (negB_lt h2) (negB_lt h1) h3 h4 (by rw [nanB_negB hv];exact nv) (by rw [nanB_negB hu];exact nu) (by rw [nanB_negB h2];exact n2) (by rw [nanB_negB h1];exact n1) n3 n4 (by omega) (by omega) (by omega)
 rw [top_low h1 h2 n1 n2 n3 n4,top_low hu hv nu nv n3 n4]
 omega
end Go.Proofs.YtgfppdboogldlaaGreat
namespace Go.Proofs.YtgfppdboogldlaaGreat
def natOf:List Nat→Nat
 | []=>0
 | d :: ds=>d+4294967296*natOf ds
def Digs (ds:List Nat):Prop:=∀d∈ds,d<4294967296
def Trimmed (ds:List Nat):Prop:=0<ds.length→ds.getD (ds.length-1) 0≠0
theorem natOf_append (a b:List Nat):natOf (a++b)=natOf a+4294967296^a.length*natOf b:=by
 induction a with
 | nil=>simp [natOf]
 | cons d a ih=>simp only [List.cons_append,natOf,ih,List.length_cons,Nat.pow_succ,Nat.mul_add];rw [Nat.mul_comm (4294967296^a.length) 4294967296,Nat.mul_assoc];omega
theorem natOf_lt {ds:List Nat} (h:Digs ds):natOf ds<4294967296^ds.length:=by
 induction ds with
 | nil=>simp [natOf]
 | cons d a ih =>
   have h1:=h d (by simp)
   have h2:=ih (fun x hx=>h x (by simp [hx]))
   simp only [natOf,List.length_cons,Nat.pow_succ]
   omega
theorem Digs.take {ds:List Nat} (h:Digs ds) (k:Nat):Digs (ds.take k):=fun d hd=>h d (List.mem_of_mem_take hd)
theorem Digs.getD {ds:List Nat} (h:Digs ds) (k:Nat):ds.getD k 0<4294967296:=by
 rw [List.getD_eq_getElem?_getD]
 rcases Nat.lt_or_ge k ds.length with c | c
 · rw [List.getElem?_eq_getElem c];exact h _ (List.getElem_mem c)
 · rw [List.getElem?_eq_none c];simp
theorem Digs.append {a b:List Nat} (h:Digs a) (k:Digs b):Digs (a++b):=fun d hd=>by rcases List.mem_append.1 hd with c | c;exact h d c;exact k d c
theorem Digs.one {d:Nat} (h:d<4294967296):Digs [d]:=fun x hx=>by simp at hx;omega
theorem Digs.nil:Digs []:=fun x hx=>by simp at hx
theorem take_succ_getD (ds:List Nat) {k:Nat} (h:k<ds.length):ds.take (k+1)=ds.take k++[ds.getD k 0]:=by
 rw [List.take_add_one,List.getD_eq_getElem?_getD,List.getElem?_eq_getElem h];simp
theorem natOf_take_succ (ds:List Nat) {k:Nat} (h:k<ds.length):natOf (ds.take (k+1))=natOf (ds.take k)+4294967296^k*ds.getD k 0:=by
 rw [take_succ_getD ds h,natOf_append,List.length_take,Nat.min_eq_left (by omega)];simp [natOf]
theorem natOf_take_ge (ds:List Nat) {k:Nat} (h:ds.length≤k):natOf (ds.take k)=natOf ds:=by rw [List.take_of_length_le h]
theorem getD_ge (ds:List Nat) {k:Nat} (h:ds.length≤k):ds.getD k 0=0:=by
 rw [List.getD_eq_getElem?_getD,List.getElem?_eq_none h];rfl
theorem natOf_take_step (ds:List Nat) (k:Nat):natOf (ds.take (k+1))=natOf (ds.take k)+4294967296^k*ds.getD k 0:=by
 rcases Nat.lt_or_ge k ds.length with c | c
 · exact natOf_take_succ ds c
 · rw [natOf_take_ge ds (by omega),natOf_take_ge ds c,getD_ge ds c];simp
theorem Trimmed.low {ds:List Nat} (h:Trimmed ds) (hl:0<ds.length):4294967296^(ds.length-1)≤natOf ds:=by
 have e:=natOf_take_succ ds (k:=ds.length-1) (by omega)
 rw [natOf_take_ge ds (by omega)] at e
 have p:=h hl
 have:=Nat.mul_le_mul_left (4294967296^(ds.length-1)) (show 1≤ds.getD (ds.length-1) 0 by omega)
 omega
theorem pow32 (k:Nat):4294967296^k=2^(32*k):=by rw [Nat.pow_mul]
theorem Trimmed.len {ds:List Nat} (h:Trimmed ds) {k:Nat} (hn:natOf ds<2^k):32*ds.length<k+32:=by
 rcases Nat.eq_zero_or_pos ds.length with c | c
 · omega
 · have h1:=h.low c
   rw [pow32] at h1
   have:=(Nat.pow_lt_pow_iff_right (show 1<2 by omega)).1 (Nat.lt_of_le_of_lt h1 hn)
   omega
theorem Trimmed.zero {ds:List Nat} (h:Trimmed ds):natOf ds=0↔ds.length=0:=by
 constructor
 · intro e
   rcases Nat.eq_zero_or_pos ds.length with c | c
   · exact c
   · have:=h.low c
     have:=Nat.pow_pos (a:=4294967296) (n:=ds.length-1) (by omega)
     omega
 · intro e
   have:ds=[]:=List.eq_nil_of_length_eq_zero e
   subst this;rfl
theorem trimmed_nil:Trimmed []:=fun h=>by simp at h
theorem natOf_lt_of_len {a b:List Nat} (ha:Digs a) (hb:Trimmed b) (h:a.length<b.length):natOf a<natOf b:=by
 have h1:=natOf_lt ha
 have h2:=hb.low (by omega)
 have h3:=Nat.pow_le_pow_right (show 4294967296>0 by omega) (show a.length≤b.length-1 by omega)
 omega
theorem natOf_split (ds:List Nat) (k:Nat):natOf ds=natOf (ds.take k)+4294967296^k*natOf (ds.drop k):=by
 rcases Nat.lt_or_ge k ds.length with c | c
 · have:=natOf_append (ds.take k) (ds.drop k)
   rw [List.take_append_drop,List.length_take,Nat.min_eq_left (by omega)] at this
   exact this
 · rw [natOf_take_ge ds c,List.drop_of_length_le c];simp [natOf]
theorem natOf_lt_at {a b:List Nat} (ha:Digs a) {k:Nat} (hk:k<a.length) (hl:a.length=b.length) (ht:a.drop (k+1)=b.drop (k+1)) (hd:a.getD k 0<b.getD k 0):natOf a<natOf b:=by
 rw [natOf_split a (k+1),natOf_split b (k+1),ht,natOf_take_succ a hk,natOf_take_succ b (by omega)]
 have h1:=natOf_lt (ha.take k)
 rw [List.length_take,Nat.min_eq_left (by omega)] at h1
 have h2:=Nat.mul_le_mul_left (4294967296^k) (show a.getD k 0+1≤b.getD k 0 by omega)
 rw [Nat.mul_add] at h2
 omega
theorem drop_eq_step {a b:List Nat} {k:Nat} (hk:k<a.length) (hl:a.length=b.length) (ht:a.drop (k+1)=b.drop (k+1)) (hd:a.getD k 0=b.getD k 0):a.drop k=b.drop k:=by
 rw [List.drop_eq_getElem_cons hk,List.drop_eq_getElem_cons (show k<b.length by omega),ht]
 rw [List.getD_eq_getElem?_getD,List.getD_eq_getElem?_getD,List.getElem?_eq_getElem hk,List.getElem?_eq_getElem (show k<b.length by omega)] at hd
 simp at hd
 rw [hd]
theorem trim_step (ds:List Nat) {k:Nat} (hk:k<ds.length) (h:ds.getD k 0=0):natOf (ds.take k)=natOf (ds.take (k+1)):=by
 rw [natOf_take_succ ds hk,h];simp
theorem trim_end (ds:List Nat) {k:Nat} (hk:k<ds.length) (h:ds.getD k 0≠0):Trimmed (ds.take (k+1)):=by
 intro _
 rw [List.length_take,Nat.min_eq_left (by omega),List.getD_eq_getElem?_getD,Nat.add_sub_cancel,List.getElem?_take,if_pos (by omega),←List.getD_eq_getElem?_getD]
 exact h
theorem natOf_set (ds:List Nat) (k v:Nat) (hk:k<ds.length):natOf (ds.set k v)+4294967296^k*ds.getD k 0=natOf ds+4294967296^k*v:=by
 induction ds generalizing k with
 | nil=>simp at hk
 | cons d a ih =>
   cases k with
   | zero=>simp [natOf];omega
   | succ k =>
     have:=ih k (by simpa using hk)
     simp only [List.set_cons_succ,natOf,List.getD_cons_succ,Nat.pow_succ]
     rw [Nat.mul_comm (4294967296^k) 4294967296,Nat.mul_assoc,Nat.mul_assoc]
     omega
theorem natOf_zeros (n:Nat):natOf (List.replicate n 0)=0:=by
 induction n with
 | zero=>rfl
 | succ n ih=>simp [List.replicate_succ,natOf,ih]
theorem digs_zeros (n:Nat):Digs (List.replicate n 0):=fun d hd=>by have:=(List.mem_replicate.1 hd).2;omega
theorem Digs.set {ds:List Nat} (h:Digs ds) (k:Nat) {v:Nat} (hv:v<4294967296):Digs (ds.set k v):=fun d hd=>by
 rcases List.mem_or_eq_of_mem_set hd with c | c
 · exact h d c
 · omega
end Go.Proofs.YtgfppdboogldlaaGreat
