/- Plain facts for IvalSums: the reference's hulls, meets, negatives and the ends of sums are the program's, word for word. Plain facts for IvalProducts and IvalGrows: a product rounded down rises with a factor where the other is not below nought, infinite factors too. Mul's ends are the least and the greatest of the four products of ends. The walks of the reference's below and same: a number held against an exact one. The reference's below and same: what they answer of an exact number. Plain facts: what the program rounds parts to, to any side, is what the document's words ask of the exact number: the place below, whether it is it, the middle. Plain facts: sums, products, quotients and roots of the program are the exact ones, rounded by the document's words, to any side. The walk of the reference's Down: the place of the greatest float that is not above an exact number. The walks of the reference's grid and Rounded: the document's rounding of an exact number. -/
import Derived.Test.YtlabmpngbcnhpaaGreatZi17
import Derived.Test.YtlabmpngbcnhpaaGreatZi19
import Derived.Test.YtlabmpngbcnhpaaGreatZi14
namespace Go.Proofs.YtlabmpngbcnhpaaGreat
open Go.ChangeShapes Go.WideShapes Go.ChangeAt Go.RowKit
theorem key_one {a b:Nat} (za:a≠9223372036854775808) (zb:b≠9223372036854775808) (h:key a=key b):a=b:=by
 unfold key at h
 split at h <;> split at h <;> omega
theorem minW_is {a b:Nat} (za:a≠9223372036854775808) (zb:b≠9223372036854775808):minW a b=if key b<key a then b else a:=by
 unfold minW
 by_cases c:key a<key b
 · rw [if_pos c,if_neg (by omega)]
 · rw [if_neg c]
   by_cases e:key a=key b
   · have:=key_one za zb e
     subst this
     simp
   · rw [if_neg e,if_pos (by omega)]
theorem maxW_is {a b:Nat} (za:a≠9223372036854775808) (zb:b≠9223372036854775808):maxW a b=if key a<key b then b else a:=by
 unfold maxW
 by_cases c:key a<key b
 · rw [if_pos c,if_pos c]
 · rw [if_neg c,if_neg c]
   by_cases e:key a=key b
   · have:=key_one za zb e
     subst this
     simp
   · rw [if_neg e]
theorem lt_is {a b:Nat} (na:nanB a=false) (nb:nanB b=false):ltB a b=decide (key a<key b):=by
 unfold ltB
 rw [na,nb]
 rfl
theorem up_ne:infI 1≠9223372036854775808:=by decide
theorem dn_ne:infI (-1)≠9223372036854775808:=by decide
theorem key_dn:key (infI (-1))=-9218868437227405312:=by decide
def rendsP (lo hi:Nat):Nat×Nat:=makeP (if ltB 9218868437227405311 lo then 9218868437227405311 else lo) (if ltB hi 18442240474082181119 then 18442240474082181119 else hi)
theorem make_is {lo hi:Nat} (S:Some2 lo hi):makeP lo hi=(lo,hi):=by
 unfold makeP
 have a:pz lo=lo:=by unfold pz;rw [if_neg S.zl]
 have b:pz hi=hi:=by unfold pz;rw [if_neg S.zh]
 rw [a,b,hs_iff.2 S,if_pos rfl]
theorem rends_is {lo hi:Nat} (S:Some2 lo hi):rendsP lo hi=(lo,hi):=by
 unfold rendsP
 have k1:key 9218868437227405311=9218868437227405311:=by decide
 have k2:key 18442240474082181119=-9218868437227405311:=by decide
 have:=S.lt
 have:=S.gt
 rw [lt_is (by decide) S.nl,lt_is S.nh (by decide),k1,k2,if_neg (by simp;omega),if_neg (by simp;omega)]
 exact make_is S
theorem add_under {p q c d:Nat} (hp:p<18446744073709551616) (hq:q<18446744073709551616) (hc:c<18446744073709551616) (hd:d<18446744073709551616) (np:nanB p=false) (nq:nanB q=false) (fc:finB c=true) (fd:finB d=true) (h1:key p≤key c) (h2:key q≤key d) :
   ∃r,addR p q (-1)=some r∧r<18446744073709551616∧key r<9218868437227405312:=by
 obtain⟨r,t,e1,e2,h⟩:=addR_low hp hq hc hd np nq fc fd h1 h2
 rw [addR_fin (-1) fc fd] at e2
 injection e2 with e2
 have k:=(addF_down hc hd fc fd).top
 rw [e2] at k
 have:=h.le
 exact⟨r,e1,h.r1,by omega⟩
theorem add_some {xl xh yl yh:Nat} (h1:xl<18446744073709551616) (h2:xh<18446744073709551616) (h3:yl<18446744073709551616) (h4:yh<18446744073709551616) (S:Some2 xl xh) (T:Some2 yl yh):∃l u,addR xl yl (-1)=some l∧addR xh yh 1=some u∧Some2 l u∧l<18446744073709551616∧u<18446744073709551616:=by
 obtain⟨a,X⟩:=held_some h1 h2 S
 obtain⟨b,Y⟩:=held_some h3 h4 T
 obtain⟨l,v,u,e1,e2,e3,p,q⟩:=add_btw X Y
 refine⟨l,u,e1,e3,⟨p.r2,q.t2,Int.le_trans p.le q.le, ?_, ?_,addR_nz e1,addR_nz e3⟩,p.r1,q.t1⟩
 · obtain⟨r,f1, -,f2⟩:=add_under h1 h3 X.hv Y.hv S.nl T.nl X.fv Y.fv X.kl Y.kl
   rw [e1] at f1
   injection f1 with f1
   rw [f1]
   exact f2
 · have kx:=X.kh
   have ky:=Y.kh
   obtain⟨r,f1, -,f2⟩:=add_under (negB_lt h2) (negB_lt h4) (negB_lt X.hv) (negB_lt Y.hv) (by rw [nanB_negB h2];exact S.nh) (by rw [nanB_negB h4];exact T.nh) (by rw [finB_negB X.hv];exact X.fv) (by rw [finB_negB Y.hv];exact Y.fv)
     (by rw [key_negB h2,key_negB X.hv];omega) (by rw [key_negB h4,key_negB Y.hv];omega)
   have m:=addR_mirror (negB_lt h2) (negB_lt h4)
   rw [negB_negB h2,negB_negB h4,f1,e3] at m
   rcases m with ⟨c, -⟩ | ⟨x,y,g1,g2, -, -,k⟩
   · cases c
   · injection g1 with g1
     injection g2 with g2
     rw [←g1,←g2] at k
     omega
theorem key_range {x:Nat} (hx:x<18446744073709551616) (n:nanB x=false):-9218868437227405312≤key x∧key x≤9218868437227405312:=by
 have h1:¬9218868437227405312<x%9223372036854775808:=by simpa [nanB] using n
 unfold key
 split <;> omega
theorem key_infW (g:Bool):key (infW g)=if g then -9218868437227405312 else 9218868437227405312:=by cases g <;> decide
theorem mulV_zl {a b:Nat} (d:Int) (na:nanB a=false) (nb:nanB b=false) (z:isZ a=true):mulV a b d=0:=by
 unfold mulV mulR
 rw [na,nb,z]
 rfl
theorem mulV_zr {a b:Nat} (d:Int) (na:nanB a=false) (nb:nanB b=false) (z:isZ b=true):mulV a b d=0:=by
 unfold mulV mulR
 rw [na,nb,z]
 cases isZ a <;> rfl
theorem mulV_inf {a b:Nat} (d:Int) (na:nanB a=false) (nb:nanB b=false) (za:isZ a=false) (zb:isZ b=false) (h:(finB a&&finB b)=false):mulV a b d=infW (signB a != signB b):=by
 unfold mulV mulR
 rw [na,nb,za,zb,h]
 rfl
theorem mul_rise {p a q:Nat} (hp:p<18446744073709551616) (ha:a<18446744073709551616) (hq:q<18446744073709551616) (np:nanB p=false) (na:nanB a=false) (nq:nanB q=false) (k0:0≤key q) (h:key p≤key a) :
   key (mulV p q (-1))≤key (mulV a q (-1)):=by
 have fp:=mulV_facts (-1) np nq
 have fa:=mulV_facts (-1) na nq
 have rp:=key_range fp.2 fp.1
 have ra:=key_range fa.2 fa.1
 cases zq:isZ q
 case true =>
   rw [mulV_zr (-1) np nq zq,mulV_zr (-1) na nq zq]
   exact Int.le_refl _
 case false =>
 have kq:key q≠0:=fun c=>by rw [(key_zero hq).2 c] at zq;cases zq
 have sq:=sign_key hq zq
 rw [decide_eq_false (by omega:¬key q<0)] at sq
 by_cases f:(finB p&&finB q)=true∧(finB a&&finB q)=true
 · obtain⟨f1,f3⟩:=Bool.and_eq_true_iff.1 f.1
   obtain⟨f2, -⟩:=Bool.and_eq_true_iff.1 f.2
   refine mulV_le hp hq ha hq np nq f2 f3 ?_ (fun c=>by rw [f.1] at c;cases c)
   exact Int.mul_le_mul_of_nonneg_right (V_mono_le h) (V_nonneg k0)
 · cases zp:isZ p
   case true =>
     have kp:=(key_zero hp).1 zp
     rw [mulV_zl (-1) np nq zp]
     cases za:isZ a
     case true=>rw [mulV_zl (-1) na nq za];exact Int.le_refl _
     case false =>
       have ka:key a≠0:=fun c=>by rw [(key_zero ha).2 c] at za;cases za
       have sa:=sign_key ha za
       rw [decide_eq_false (by omega:¬key a<0)] at sa
       have k0':key 0=0:=rfl
       cases g:(finB a&&finB q)
       · rw [mulV_inf (-1) na nq za zq g,sa,sq,key_infW,k0']
         decide
       · exfalso
         apply f
         refine⟨?_,g⟩
         have fpz:finB p=true:=by
           cases c:finB p
           · rcases (key_inf hp np).1 c with d | d <;> omega
           · rfl
         rw [fpz,(Bool.and_eq_true_iff.1 g).2];rfl
   case false =>
     have kp:key p≠0:=fun c=>by rw [(key_zero hp).2 c] at zp;cases zp
     have sp:=sign_key hp zp
     cases g:(finB p&&finB q)
     · rw [mulV_inf (-1) np nq zp zq g,sp,sq,key_infW] at rp ⊢
       by_cases c:key p<0
       · simp only [c,decide_true]
         exact ra.1
       · simp only [c,decide_false]
         have ka:key a≠0:=by omega
         have za:=isZ_pos ha ka
         have sa:=sign_key ha za
         rw [decide_eq_false (by omega:¬key a<0)] at sa
         have ga:(finB a&&finB q)=false:=by
           cases fq:finB q
           · rw [Bool.and_false]
           · have fpf:finB p=false:=by rw [fq,Bool.and_true] at g;exact g
             have fa2:finB a=false:=by
               rw [key_inf ha na]
               have:=key_range ha na
               rcases (key_inf hp np).1 fpf with d | d <;> omega
             rw [fa2];rfl
         rw [mulV_inf (-1) na nq za zq ga,sa,sq,key_infW]
         decide
     · have ga:(finB a&&finB q)=false:=by
         cases c:(finB a&&finB q)
         · rfl
         · exact absurd ⟨g,c⟩ f
       obtain⟨g1,g2⟩:=Bool.and_eq_true_iff.1 g
       have fa2:finB a=false:=by rw [g2,Bool.and_true] at ga;exact ga
       have kf:=fin_key hp g1
       have ka:key a=9218868437227405312:=by rcases (key_inf ha na).1 fa2 with d | d <;> omega
       have za:=isZ_pos ha (by omega:key a≠0)
       have sa:=sign_key ha za
       rw [decide_eq_false (by omega:¬key a<0)] at sa
       rw [mulV_inf (-1) na nq za zq ga,sa,sq,key_infW]
       exact rp.2
theorem mul_up {a b:Nat} (ha:a<18446744073709551616) (na:nanB a=false) (nb:nanB b=false):key (mulV (negB a) b 1)=- key (mulV a b (-1)):=by
 have nn:nanB (negB a)=false:=by rw [nanB_negB ha];exact na
 have m:=mulR_mirror (b:=b) ha
 rw [mulV_is (-1) na nb,mulV_is 1 nn nb] at m
 rcases m with ⟨c, -⟩ | ⟨x,y,g1,g2, -, -,k⟩
 · cases c
 · injection g1 with g1
   injection g2 with g2
   rw [g1,g2]
   exact k
theorem mul_two {a b:Nat} (ha:a<18446744073709551616) (hb:b<18446744073709551616) (na:nanB a=false) (nb:nanB b=false):key (mulV (negB a) (negB b) (-1))=key (mulV a b (-1)):=by
 have nn:nanB (negB a)=false:=by rw [nanB_negB ha];exact na
 have nm:nanB (negB b)=false:=by rw [nanB_negB hb];exact nb
 have m1:=mul_up ha na nb
 have m2:=mul_up (negB_lt hb) nm nn
 rw [negB_negB hb,mulV_comm b,mulV_comm (negB b)] at m2
 omega
theorem mul_fall {p a q:Nat} (hp:p<18446744073709551616) (ha:a<18446744073709551616) (hq:q<18446744073709551616) (np:nanB p=false) (na:nanB a=false) (nq:nanB q=false) (k0:key q≤0) (h:key p≤key a) :
   key (mulV a q (-1))≤key (mulV p q (-1)):=by
 have r:=mul_rise (negB_lt ha) (negB_lt hp) (negB_lt hq) (by rw [nanB_negB ha];exact na) (by rw [nanB_negB hp];exact np) (by rw [nanB_negB hq];exact nq) (by rw [key_negB hq];omega) (by rw [key_negB ha,key_negB hp];omega)
 rw [mul_two ha hq na nq,mul_two hp hq np nq] at r
 exact r
def lowK (xl xh yl yh:Nat):Int:=min (min (key (mulV xl yl (-1))) (key (mulV xl yh (-1)))) (min (key (mulV xh yl (-1))) (key (mulV xh yh (-1))))
def topK (xl xh yl yh:Nat):Int:=max (max (key (mulV xl yl 1)) (key (mulV xl yh 1))) (max (key (mulV xh yl 1)) (key (mulV xh yh 1)))
theorem low_four {xl xh yl yh:Nat} (h1:xl<18446744073709551616) (h2:xh<18446744073709551616) (h3:yl<18446744073709551616) (h4:yh<18446744073709551616) (n1:nanB xl=false) (n2:nanB xh=false) (n3:nanB yl=false) (n4:nanB yh=false) (kx:key xl≤key xh) (ky:key yl≤key yh) :
   (0≤key xl→key yl<0→lowK xl xh yl yh=key (mulV xh yl (-1)))∧(0≤key xl→0≤key yl→lowK xl xh yl yh=key (mulV xl yl (-1))) ∧
   (key xh≤0→0<key yh→lowK xl xh yl yh=key (mulV xl yh (-1)))∧(key xh≤0→key yh≤0→lowK xl xh yl yh=key (mulV xh yh (-1))) ∧
   (key xl<0→0<key xh→0≤key yl→lowK xl xh yl yh=key (mulV xl yh (-1)))∧(key xl<0→0<key xh→key yh≤0→lowK xl xh yl yh=key (mulV xh yl (-1))) ∧
   (key xl<0→0<key xh→key yl<0→0<key yh→lowK xl xh yl yh=min (key (mulV xl yh (-1))) (key (mulV xh yl (-1)))):=by
 have r1:key yl<0∨key (mulV xl yl (-1))≤key (mulV xh yl (-1)):=by
   rcases Int.lt_or_le (key yl) 0 with c | c
   · exact Or.inl c
   · exact Or.inr (mul_rise h1 h2 h3 n1 n2 n3 c kx)
 have f1:0<key yl∨key (mulV xh yl (-1))≤key (mulV xl yl (-1)):=by
   rcases Int.lt_or_le 0 (key yl) with c | c
   · exact Or.inl c
   · exact Or.inr (mul_fall h1 h2 h3 n1 n2 n3 c kx)
 have r2:key yh<0∨key (mulV xl yh (-1))≤key (mulV xh yh (-1)):=by
   rcases Int.lt_or_le (key yh) 0 with c | c
   · exact Or.inl c
   · exact Or.inr (mul_rise h1 h2 h4 n1 n2 n4 c kx)
 have f2:0<key yh∨key (mulV xh yh (-1))≤key (mulV xl yh (-1)):=by
   rcases Int.lt_or_le 0 (key yh) with c | c
   · exact Or.inl c
   · exact Or.inr (mul_fall h1 h2 h4 n1 n2 n4 c kx)
 have r3:key xl<0∨key (mulV xl yl (-1))≤key (mulV xl yh (-1)):=by
   rw [mulV_comm xl yl,mulV_comm xl yh]
   rcases Int.lt_or_le (key xl) 0 with c | c
   · exact Or.inl c
   · exact Or.inr (mul_rise h3 h4 h1 n3 n4 n1 c ky)
 have f3:0<key xl∨key (mulV xl yh (-1))≤key (mulV xl yl (-1)):=by
   rw [mulV_comm xl yl,mulV_comm xl yh]
   rcases Int.lt_or_le 0 (key xl) with c | c
   · exact Or.inl c
   · exact Or.inr (mul_fall h3 h4 h1 n3 n4 n1 c ky)
 have r4:key xh<0∨key (mulV xh yl (-1))≤key (mulV xh yh (-1)):=by
   rw [mulV_comm xh yl,mulV_comm xh yh]
   rcases Int.lt_or_le (key xh) 0 with c | c
   · exact Or.inl c
   · exact Or.inr (mul_rise h3 h4 h2 n3 n4 n2 c ky)
 have f4:0<key xh∨key (mulV xh yh (-1))≤key (mulV xh yl (-1)):=by
   rw [mulV_comm xh yl,mulV_comm xh yh]
   rcases Int.lt_or_le 0 (key xh) with c | c
   · exact Or.inl c
   · exact Or.inr (mul_fall h3 h4 h2 n3 n4 n2 c ky)
 unfold lowK
 generalize key (mulV xl yl (-1))=A at *
 generalize key (mulV xl yh (-1))=C at *
 generalize key (mulV xh yl (-1))=D at *
 generalize key (mulV xh yh (-1))=E at *
 refine⟨?_, ?_, ?_, ?_, ?_, ?_, ?_⟩ <;> intros <;> omega
theorem top_low {xl xh yl yh:Nat} (h1:xl<18446744073709551616) (h2:xh<18446744073709551616) (n1:nanB xl=false) (n2:nanB xh=false) (n3:nanB yl=false) (n4:nanB yh=false) :
   topK xl xh yl yh=- lowK (negB xh) (negB xl) yl yh:=by
 have e:∀{a b:Nat},a<18446744073709551616→nanB a=false→nanB b=false→key (mulV a b 1)=- key (mulV (negB a) b (-1)):=fun {a b} ha na nb=>by
   have:=mul_up (negB_lt ha) (by rw [nanB_negB ha];exact na) nb
   rw [negB_negB ha] at this
   exact this
 unfold topK lowK
 rw [e h1 n1 n3,e h1 n1 n4,e h2 n2 n3,e h2 n2 n4]
 generalize key (mulV (negB xl) yl (-1))=A at *
 generalize key (mulV (negB xl) yh (-1))=C at *
 generalize key (mulV (negB xh) yl (-1))=D at *
 generalize key (mulV (negB xh) yh (-1))=E at *
 omega
theorem lowK_comm (xl xh yl yh:Nat):lowK xl xh yl yh=lowK yl yh xl xh:=by
 unfold lowK
 rw [mulV_comm yl xl,mulV_comm yl xh,mulV_comm yh xl,mulV_comm yh xh]
 generalize key (mulV xl yl (-1))=A at *
 generalize key (mulV xl yh (-1))=C at *
 generalize key (mulV xh yl (-1))=D at *
 generalize key (mulV xh yh (-1))=E at *
 omega
theorem topK_comm (xl xh yl yh:Nat):topK xl xh yl yh=topK yl yh xl xh:=by
 unfold topK
 rw [mulV_comm yl xl,mulV_comm yl xh,mulV_comm yh xl,mulV_comm yh xh]
 generalize key (mulV xl yl 1)=A at *
 generalize key (mulV xl yh 1)=C at *
 generalize key (mulV xh yl 1)=D at *
 generalize key (mulV xh yh 1)=E at *
 omega
theorem lpP_is (t fl fh:Nat) (nt:nanB t=false):lpP t fl fh=if key t<0 then mulV t fh (-1) else mulV t fl (-1):=by
 unfold lpP
 have h0:nanB 0=false:=by decide
 have k0:key 0=0:=rfl
 rw [lt_is nt h0,k0]
 by_cases c:key t<0
 · simp only [c,decide_true,if_true];rfl
 · simp only [c,decide_false,Bool.false_eq_true,if_false];rfl
theorem stretch_keys {tl th fl fh:Nat} (h1:tl<18446744073709551616) (h2:th<18446744073709551616) (h3:fl<18446744073709551616) (h4:fh<18446744073709551616) (n1:nanB tl=false) (n2:nanB th=false) (n3:nanB fl=false) (n4:nanB fh=false) (kt:key tl≤key th) (kf:key fl≤key fh) (k0:0≤key fl) :
   key (lpP tl fl fh)=lowK tl th fl fh∧- key (lpP (negB th) fl fh)=topK tl th fl fh:=by
 have n5:nanB (negB th)=false:=by rw [nanB_negB h2];exact n2
 have n6:nanB (negB tl)=false:=by rw [nanB_negB h1];exact n1
 have e1:=key_negB h1
 have e2:=key_negB h2
 constructor
 · obtain⟨a,b, -⟩:=low_four h3 h4 h1 h2 n3 n4 n1 n2 kf kt
   rw [lowK_comm tl,lpP_is tl fl fh n1]
   split
   · rename_i c
     rw [a k0 c,mulV_comm fh]
   · rename_i c
     rw [b k0 (by omega),mulV_comm fl]
 · obtain⟨a,b, -⟩:=low_four h3 h4 (negB_lt h2) (negB_lt h1) n3 n4 n5 n6 kf (by omega)
   rw [top_low h1 h2 n1 n2 n3 n4,lowK_comm (negB th),lpP_is (negB th) fl fh n5]
   split
   · rename_i c
     rw [a k0 c,mulV_comm fh]
   · rename_i c
     rw [b k0 (by omega),mulV_comm fl]
theorem make_keys {p q D U:Nat} (e:Enc (makeP p q).1 (makeP p q).2 D U) (h:key D≤9218868437227405311):key (makeP p q).1=key p∧key (makeP p q).2=key q:=by
 have k:=e.k1
 unfold makeP at k ⊢
 split at k
 · rename_i c
   rw [if_pos c]
   exact⟨key_pz p,key_pz q⟩
 · exfalso
   have:key (infI 1)≤key D:=k
   rw [key_up] at this
   omega
theorem mulV_pz {a:Nat} (b:Nat) (d:Int):mulV (pz a) b d=mulV a b d:=by
 unfold pz
 split
 · rename_i c
   subst c
   unfold mulV mulR
   have z1:isZ 0=true:=by decide
   have z2:isZ 9223372036854775808=true:=by decide
   have m1:nanB 0=false:=by decide
   have m2:nanB 9223372036854775808=false:=by decide
   rw [z1,z2,m1,m2]
   simp only [Bool.false_or,Bool.true_or,if_true]
 · rfl
theorem topK_pz (a b c d:Nat):topK (pz a) (pz b) c d=topK a b c d:=by unfold topK;simp only [mulV_pz]
theorem lowK_pz (a b c d:Nat):lowK (pz a) (pz b) c d=lowK a b c d:=by unfold lowK;simp only [mulV_pz]
theorem low_mirror {xl xh yl yh:Nat} (h1:xl<18446744073709551616) (h2:xh<18446744073709551616) (n1:nanB xl=false) (n2:nanB xh=false) (n3:nanB yl=false) (n4:nanB yh=false) :
   lowK xl xh yl yh=- topK yl yh (pz (negB xh)) (pz (negB xl))∧topK xl xh yl yh=- lowK yl yh (pz (negB xh)) (pz (negB xl)):=by
 have t:=top_low (negB_lt h2) (negB_lt h1) (by rw [nanB_negB h2];exact n2) (by rw [nanB_negB h1];exact n1) n3 n4
 rw [negB_negB h1,negB_negB h2] at t
 have u:=top_low h1 h2 n1 n2 n3 n4
 rw [topK_comm yl,topK_pz,t,lowK_comm yl,lowK_pz,u]
 exact⟨by omega,rfl⟩
theorem mirror_words {lo hi v:Nat} (h:Held lo hi v):mirrorP (lo,hi)=(pz (negB hi),pz (negB lo)):=by
 have k:=(held_neg h).1.hs
 unfold mirrorP makeP at k ⊢
 split
 · rfl
 · rename_i c
   rw [if_neg c] at k
   exact absurd (hs_iff.1 k) not_some_empty
theorem enc_some {m1 m2 D U:Nat} (e:Enc m1 m2 D U) (h:key D≤key U) (h1:key D≤9218868437227405311) (h2:-9218868437227405311≤key U):Some2 m1 m2:=by
 have k1:=e.k1
 have k2:=e.k2
 exact⟨e.n1,e.n2,by omega,by omega,by omega,e.z1,e.z2⟩
theorem mirror_keys {s1 s2 D U:Nat} (h1:s1<18446744073709551616) (h2:s2<18446744073709551616) (f:Enc (mirrorP (s1,s2)).1 (mirrorP (s1,s2)).2 D U) (h:key D≤9218868437227405311):key (mirrorP (s1,s2)).1=- key s2∧key (mirrorP (s1,s2)).2=- key s1:=by
 unfold mirrorP at f ⊢
 have v:=make_keys f h
 rw [v.1,v.2]
 exact⟨key_negB h2,key_negB h1⟩
theorem mul_ends {xl xh yl yh a b:Nat} (X:Held xl xh a) (Y:Held yl yh b):∃m1 m2,(∀w,Calls Tryz.prog 78 #[.agg #[.float .f64 xl,.float .f64 xh],.agg #[.float .f64 yl,.float .f64 yh]] w fun e w'=>e=.returned (.agg #[.float .f64 m1,.float .f64 m2])∧Below w.heap.size w w') ∧
   Some2 m1 m2∧m1<18446744073709551616∧m2<18446744073709551616∧key m1=lowK xl xh yl yh∧key m2=topK xl xh yl yh:=by
 have c0:=some2 X Y
 have na:=fin_not_nan X.fv
 have nb:=fin_not_nan Y.fv
 have g1:=ge0 X.hl X.nl
 have g2:=le0 X.hh X.nh
 have g3:=ge0 Y.hl Y.nl
 have g4:=le0 Y.hh Y.nh
 have kx:key xl≤key xh:=Int.le_trans X.kl X.kh
 have ky:key yl≤key yh:=Int.le_trans Y.kl Y.kh
 obtain⟨s1,s2,s3,s4⟩:=mulV_sides X.hv Y.hv X.fv Y.fv
 have s0:=Int.le_trans s1.le s2.le
 by_cases p1:0≤key xl
 · have e:=stretch_enc Y X p1
   rw [mulV_comm b a (-1),mulV_comm b a 1] at e
   obtain⟨k1,k2⟩:=make_keys e s3
   obtain⟨j1,j2⟩:=stretch_keys Y.hl Y.hh X.hl X.hh Y.nl Y.nh X.nl X.nh ky kx p1
   have nn:nanB (negB yh)=false:=by rw [nanB_negB Y.hh];exact Y.nh
   exact⟨_,_,fun w=>mul_a xl xh yl yh _ _ c0 (by rw [g1];simp [p1]) (fun w=>stretch_w yl yh xl xh Y.hl Y.hh X.hl X.hh Y.nl Y.nh X.nl X.nh w) w,enc_some e s0 s3 s4,e.l1,e.l2,
     by rw [k1,j1,lowK_comm],by rw [k2,key_negB (lpP_lt nn X.nl X.nh),j2,topK_comm]⟩
 · by_cases p2:key xh≤0
   · obtain⟨N,k1,k2⟩:=held_neg X
     have mw:=mirror_words X
     have e:=stretch_enc Y N (by omega)
     have u1:=mulV_mirror X.hv na nb
     have u2:=mulV_mirror' X.hv na nb
     obtain⟨t1,t2,t3,t4⟩:=mulV_sides Y.hv N.hv Y.fv N.fv
     have t1:=t1.le
     have t2:=t2.le
     have f:=enc_mirror (D':=mulV a b (-1)) (U':=mulV a b 1) e (by rw [mulV_comm b (negB a) 1];omega) (by rw [mulV_comm b (negB a) (-1)];omega) (by omega) t3 t4
     obtain⟨i1,i2⟩:=make_keys e t3
     obtain⟨j1,j2⟩:=stretch_keys Y.hl Y.hh N.hl N.hh Y.nl Y.nh N.nl N.nh ky (by omega) (by omega)
     have nn:nanB (negB yh)=false:=by rw [nanB_negB Y.hh];exact Y.nh
     rw [key_negB (lpP_lt nn N.nl N.nh),j2] at i2
     rw [j1] at i1
     obtain⟨l1,l2⟩:=low_mirror (yl:=yl) (yh:=yh) X.hl X.hh X.nl X.nh Y.nl Y.nh
     have a1:(mirrorP (xl,xh)).1=pz (negB xh):=by rw [mw]
     have a2:(mirrorP (xl,xh)).2=pz (negB xl):=by rw [mw]
     rw [←a1,←a2] at l1 l2
     obtain⟨v1,v2⟩:=mirror_keys e.l1 e.l2 f s3
     rw [i2,←l1] at v1
     rw [i1,←l2] at v2
     exact⟨_,_,fun w=>mul_b xl xh yl yh _ _ _ _ _ _ c0 (by rw [g1];simp [p1]) (by rw [g2];simp [p2]) (fun w=>mirror_w xl xh X.hl X.hh w) (fun w=>stretch_w yl yh _ _ Y.hl Y.hh N.hl N.hh Y.nl Y.nh N.nl N.nh w) (fun w=>mirror_w _ _ e.l1 e.l2 w) w,enc_some f s0 s3 s4,f.l1,f.l2,v1,v2⟩
   · by_cases p3:0≤key yl
     · have e:=stretch_enc X Y p3
       obtain⟨k1,k2⟩:=make_keys e s3
       obtain⟨j1,j2⟩:=stretch_keys X.hl X.hh Y.hl Y.hh X.nl X.nh Y.nl Y.nh kx ky p3
       have nn:nanB (negB xh)=false:=by rw [nanB_negB X.hh];exact X.nh
       exact⟨_,_,fun w=>mul_c xl xh yl yh _ _ c0 (by rw [g1];simp [p1]) (by rw [g2];simp [p2]) (by rw [g3];simp [p3]) (fun w=>stretch_w xl xh yl yh X.hl X.hh Y.hl Y.hh X.nl X.nh Y.nl Y.nh w) w,enc_some e s0 s3 s4,e.l1,e.l2,
         by rw [k1,j1],by rw [k2,key_negB (lpP_lt nn Y.nl Y.nh),j2]⟩
     · by_cases p4:key yh≤0
       · obtain⟨N,k1,k2⟩:=held_neg Y
         have mw:=mirror_words Y
         have e:=stretch_enc X N (by omega)
         have u1:=mulV_mirror Y.hv nb na
         have u2:=mulV_mirror' Y.hv nb na
         obtain⟨t1,t2,t3,t4⟩:=mulV_sides X.hv N.hv X.fv N.fv
         have t1:=t1.le
         have t2:=t2.le
         have f:=enc_mirror (D':=mulV a b (-1)) (U':=mulV a b 1) e (by rw [mulV_comm a (negB b) 1,mulV_comm a b (-1)];omega) (by rw [mulV_comm a (negB b) (-1),mulV_comm a b 1];omega) (by omega) t3 t4
         obtain⟨i1,i2⟩:=make_keys e t3
         obtain⟨j1,j2⟩:=stretch_keys X.hl X.hh N.hl N.hh X.nl X.nh N.nl N.nh kx (by omega) (by omega)
         have nn:nanB (negB xh)=false:=by rw [nanB_negB X.hh];exact X.nh
         rw [key_negB (lpP_lt nn N.nl N.nh),j2] at i2
         rw [j1] at i1
         obtain⟨l1,l2⟩:=low_mirror (yl:=xl) (yh:=xh) Y.hl Y.hh Y.nl Y.nh X.nl X.nh
         have a1:(mirrorP (yl,yh)).1=pz (negB yh):=by rw [mw]
         have a2:(mirrorP (yl,yh)).2=pz (negB yl):=by rw [mw]
         rw [←a1,←a2] at l1 l2
         obtain⟨v1,v2⟩:=mirror_keys e.l1 e.l2 f s3
         rw [i2,←l1] at v1
         rw [i1,←l2] at v2
         rw [lowK_comm] at v1
         rw [topK_comm] at v2
         exact⟨_,_,fun w=>mul_d xl xh yl yh _ _ _ _ _ _ c0 (by rw [g1];simp [p1]) (by rw [g2];simp [p2]) (by rw [g3];simp [p3]) (by rw [g4];simp [p4]) (fun w=>mirror_w yl yh Y.hl Y.hh w) (fun w=>stretch_w xl xh _ _ X.hl X.hh N.hl N.hh X.nl X.nh N.nl N.nh w) (fun w=>mirror_w _ _ e.l1 e.l2 w) w,enc_some f s0 s3 s4,f.l1,f.l2,v1,v2⟩
       · have f1:=mulV_facts (-1) X.nl Y.nh
         have f2:=mulV_facts (-1) X.nh Y.nl
         have f3:=mulV_facts 1 X.nl Y.nl
         have f4:=mulV_facts 1 X.nh Y.nh
         have q1:=minW_key (mulV xl yh (-1)) (mulV xh yl (-1))
         have q2:=maxW_key (mulV xl yl 1) (mulV xh yh 1)
         have k0:key 0=0:=rfl
         have n0:nanB 0=false:=by decide
         have z0:isZ 0=true:=by decide
         have nl:nanB (negB xl)=false:=by rw [nanB_negB X.hl];exact X.nl
         have nh:nanB (negB xh)=false:=by rw [nanB_negB X.hh];exact X.nh
         have el:=key_negB X.hl
         have eh:=key_negB X.hh
         have d1:=mul_rise X.hl (by omega:0<18446744073709551616) Y.hh X.nl n0 Y.nh (by omega) (by rw [k0];omega)
         rw [mulV_zl (-1) n0 Y.nh z0,k0] at d1
         have d2:=mul_rise Y.hl (by omega:0<18446744073709551616) (negB_lt X.hl) Y.nl n0 nl (by omega) (by rw [k0];omega)
         rw [mulV_zl (-1) n0 nl z0,k0,mulV_comm] at d2
         have m1:=mul_up (negB_lt X.hl) nl Y.nl
         have m2:=mul_up (negB_lt X.hh) nh Y.nh
         rw [negB_negB X.hl] at m1
         rw [negB_negB X.hh] at m2
         obtain⟨-, -, -, -, -, -,r⟩:=low_four X.hl X.hh Y.hl Y.hh X.nl X.nh Y.nl Y.nh kx ky
         obtain⟨-, -, -, -, -, -,r'⟩:=low_four (negB_lt X.hh) (negB_lt X.hl) Y.hl Y.hh nh nl Y.nl Y.nh (by omega) ky
         have r:=r (by omega) (by omega) (by omega) (by omega)
         have r':=r' (by omega) (by omega) (by omega) (by omega)
         have u:=top_low X.hl X.hh X.nl X.nh Y.nl Y.nh
         rw [r'] at u
         refine⟨_,_,fun w=>mul_e xl xh yl yh _ _ mulV X.hl X.hh Y.hl Y.hh X.nl X.nh Y.nl Y.nh c0 (by rw [g1];simp [p1]) (by rw [g2];simp [p2]) (by rw [g3];simp [p3]) (by rw [g4];simp [p4])
           (fun a b d ha hb na nb w=>mulV_w a b d ha hb na nb w) (fun ts t w=>min_f f1.2 f2.2 f1.1 f2.1 _ ts t w) (fun ts t w=>max_f f3.2 f4.2 f3.1 f4.1 _ ts t w) w,⟨pick_nan q1.2 f1.1 f2.1,pick_nan q2.2 f3.1 f4.1, ?_, ?_, ?_,pick_ne q1.2 (mulV_nz _ X.nl Y.nh) (mulV_nz _ X.nh Y.nl),pick_ne q2.2 (mulV_nz _ X.nl Y.nl) (mulV_nz _ X.nh Y.nh)⟩,pick_lt q1.2 f1.2 f2.2,pick_lt q2.2 f3.2 f4.2,by rw [q1.1,r], ?_⟩
         · rw [q1.1,q2.1];omega
         · rw [q1.1];omega
         · rw [q2.1];omega
         · rw [q2.1,u];omega
theorem min_four (A B C D U:Int) (h:A≤U):min D (min C (min B (min A U)))=min (min A B) (min C D):=by omega
theorem max_four (A B C D U:Int) (h:U≤A):max D (max C (max B (max A U)))=max (max A B) (max C D):=by omega
def out1 (lo l:Nat):Nat:=if ltB l lo then l else lo
def out2 (hi h:Nat):Nat:=if ltB hi h then h else hi
theorem out1_key {lo l:Nat} (a:nanB lo=false∧lo≠9223372036854775808) (b:nanB l=false∧l≠9223372036854775808):key (out1 lo l)=min (key l) (key lo)∧nanB (out1 lo l)=false∧out1 lo l≠9223372036854775808:=by
 unfold out1
 rw [lt_is b.1 a.1]
 by_cases c:key l<key lo
 · simp only [c,decide_true,if_true];exact⟨by omega,b⟩
 · simp only [c,decide_false,Bool.false_eq_true,if_false];exact⟨by omega,a⟩
theorem out2_key {hi h:Nat} (a:nanB hi=false∧hi≠9223372036854775808) (b:nanB h=false∧h≠9223372036854775808):key (out2 hi h)=max (key h) (key hi)∧nanB (out2 hi h)=false∧out2 hi h≠9223372036854775808:=by
 unfold out2
 rw [lt_is a.1 b.1]
 by_cases c:key hi<key h
 · simp only [c,decide_true,if_true];exact⟨by omega,b⟩
 · simp only [c,decide_false,Bool.false_eq_true,if_false];exact⟨by omega,a⟩
def rmulP (xl xh yl yh:Nat):Nat×Nat :=
 rendsP (out1 (out1 (out1 (out1 (infI 1) (mulV xl yl (-1))) (mulV xl yh (-1))) (mulV xh yl (-1))) (mulV xh yh (-1)))
   (out2 (out2 (out2 (out2 (infI (-1)) (mulV xl yl 1)) (mulV xl yh 1)) (mulV xh yl 1)) (mulV xh yh 1))
theorem rmul_is {xl xh yl yh m1 m2:Nat} (n1:nanB xl=false) (n2:nanB xh=false) (n3:nanB yl=false) (n4:nanB yh=false) (S:Some2 m1 m2) (k1:key m1=lowK xl xh yl yh) (k2:key m2=topK xl xh yl yh):rmulP xl xh yl yh=(m1,m2):=by
 have f:∀{a b:Nat} (d:Int),nanB a=false→nanB b=false→(nanB (mulV a b d)=false∧mulV a b d≠9223372036854775808)∧-9218868437227405312≤key (mulV a b d)∧key (mulV a b d)≤9218868437227405312:=fun {a b} d na nb =>
   ⟨⟨(mulV_facts d na nb).1,mulV_nz d na nb⟩,key_range (mulV_facts d na nb).2 (mulV_facts d na nb).1⟩
 have a1:=f (-1) n1 n3
 have a2:=f (-1) n1 n4
 have a3:=f (-1) n2 n3
 have a4:=f (-1) n2 n4
 have b1:=f 1 n1 n3
 have b2:=f 1 n1 n4
 have b3:=f 1 n2 n3
 have b4:=f 1 n2 n4
 have i1:nanB (infI 1)=false∧infI 1≠9223372036854775808:=⟨by decide,up_ne⟩
 have i2:nanB (infI (-1))=false∧infI (-1)≠9223372036854775808:=⟨by decide,dn_ne⟩
 have ku:=key_up
 have kd:=key_dn
 unfold lowK at k1
 unfold topK at k2
 unfold rmulP
 generalize mulV xl yl (-1)=A1 at *
 generalize mulV xl yh (-1)=A2 at *
 generalize mulV xh yl (-1)=A3 at *
 generalize mulV xh yh (-1)=A4 at *
 generalize mulV xl yl 1=B1 at *
 generalize mulV xl yh 1=B2 at *
 generalize mulV xh yl 1=B3 at *
 generalize mulV xh yh 1=B4 at *
 generalize infI 1=U at *
 generalize infI (-1)=D at *
 clear f
 have c1:=out1_key i1 a1.1
 have c2:=out1_key c1.2 a2.1
 have c3:=out1_key c2.2 a3.1
 have c4:=out1_key c3.2 a4.1
 have d1:=out2_key i2 b1.1
 have d2:=out2_key d1.2 b2.1
 have d3:=out2_key d2.2 b3.1
 have d4:=out2_key d3.2 b4.1
 have g1:=a1.2.2
 have g2:=b1.2.1
 rw [←ku] at g1
 rw [←kd] at g2
 have e1:=key_one c4.2.2 S.zl (by rw [c4.1,c3.1,c2.1,c1.1,k1];exact min_four _ _ _ _ _ g1)
 have e2:=key_one d4.2.2 S.zh (by rw [d4.1,d3.1,d2.1,d1.1,k2];exact max_four _ _ _ _ _ g2)
 rw [e1,e2]
 exact rends_is S
def Has7 (w:World) (b:Nat) (a0 a1 a2 b0 b1 b2 r:Value):Prop:=w.cell? ⟨b,0,none⟩=some a0∧w.cell? ⟨b,1,none⟩=some a1∧w.cell? ⟨b,2,none⟩=some a2∧w.cell? ⟨b,3,none⟩=some b0∧w.cell? ⟨b,4,none⟩=some b1∧w.cell? ⟨b,5,none⟩=some b2∧w.cell? ⟨b,6,none⟩=some r∧b<w.heap.size
theorem Has7.keep {W0 w2:World} {b:Nat} {a0 a1 a2 b0 b1 b2 r:Value} (h:Has7 W0 b a0 a1 a2 b0 b1 b2 r) (hb:Below W0.heap.size W0 w2):Has7 w2 b a0 a1 a2 b0 b1 b2 r:=by
 obtain⟨h0,h1,h2,h3,h4,h5,h6,hl⟩:=h
 exact⟨keepsC hb h0 hl,keepsC hb h1 hl,keepsC hb h2 hl,keepsC hb h3 hl,keepsC hb h4 hl,keepsC hb h5 hl,keepsC hb h6 hl,Nat.lt_of_lt_of_le hl hb.size⟩
theorem Has7.drew {w:World} {b:Nat} {a0 a1 a2 b0 b1 b2 r:Value} (h:Has7 w b a0 a1 a2 b0 b1 b2 r):Has7 w.drew b a0 a1 a2 b0 b1 b2 r:=h
set_option maxHeartbeats 1000000 in
theorem below_q_core (gr ga gb:Bool) (ro ao bo:Option Addr) (lr la lb cr ca cb:Nat) (er ea eb t s:Int) (w:World) (P:World→Value→Prop)
   (cp:∀W,Below w.heap.size w W→Calls Tryz.prog 64 #[.agg #[.bool gr,.slice ro lr cr,.int .i64 er],.agg #[.bool gb,.slice bo lb cb,.int .i64 eb]] W fun r w'=>(∃v,r=.returned v∧P w' v)∧Below W.heap.size W w')
   (co:∀W v,Below w.heap.size w W→P W v→Calls Tryz.prog 66 #[v,.agg #[.bool ga,.slice ao la ca,.int .i64 ea]] W fun r w'=>r=.returned (.int .i64 t)∧Below W.heap.size W w')
   (cs:∀W,Below w.heap.size w W→Calls Tryz.prog 29 #[.agg #[.bool gb,.slice bo lb cb,.int .i64 eb]] W fun r w'=>r=.returned (.int .i64 s)∧Below W.heap.size W w')
   (R:Bool) (hR:s<0∧R=decide (0≤t)∨¬s<0∧R=decide (t≤0)) :
   Calls Tryz.prog 136 #[.agg #[.bool gr,.slice ro lr cr,.int .i64 er],.agg #[.bool ga,.slice ao la ca,.int .i64 ea,.bool gb,.slice bo lb cb,.int .i64 eb,.bool false]] w fun r w' =>
     r=.returned (.bool R)∧Below w.heap.size w w':=by
 go_enter Tryz.func136,Tryz.ntmps136
 go_upto_region 3 with fail
 have X:Has3 ((w.alloc (.cells #[.bool gr,.slice ro lr cr,.int .i64 er] 56)).alloc (.cells #[.bool ga,.slice ao la ca,.int .i64 ea,.bool gb,.slice bo lb cb,.int .i64 eb,.bool false] 136)).drew w.heap.size (.bool gr) (.slice ro lr cr) (.int .i64 er):=⟨by go_simp,by go_simp,by go_simp,by go_simp,by go_simp,by go_simp,by go_size⟩
 have Y:Has7 ((w.alloc (.cells #[.bool gr,.slice ro lr cr,.int .i64 er] 56)).alloc (.cells #[.bool ga,.slice ao la ca,.int .i64 ea,.bool gb,.slice bo lb cb,.int .i64 eb,.bool false] 136)).drew (w.heap.size+1) (.bool ga) (.slice ao la ca) (.int .i64 ea) (.bool gb) (.slice bo lb cb) (.int .i64 eb) (.bool false):=⟨by go_simp,by go_simp,by go_simp,by go_simp,by go_simp,by go_simp,by go_simp,by go_size⟩
 have HB:Below w.heap.size w ((w.alloc (.cells #[.bool gr,.slice ro lr cr,.int .i64 er] 56)).alloc (.cells #[.bool ga,.slice ao la ca,.int .i64 ea,.bool gb,.slice bo lb cb,.int .i64 eb,.bool false] 136)).drew:=by go_grown
 go_region_held3 (fun w'=>w'.cell? ⟨w.heap.size,0,none⟩=some (.bool gr)∧w'.cell? ⟨w.heap.size,1,none⟩=some (.slice ro lr cr)∧w'.cell? ⟨w.heap.size,2,none⟩=some (.int .i64 er)∧w'.cell? ⟨w.heap.size+1,0,none⟩=some (.bool ga)∧w'.cell? ⟨w.heap.size+1,1,none⟩=some (.slice ao la ca)∧w'.cell? ⟨w.heap.size+1,2,none⟩=some (.int .i64 ea)∧w'.cell? ⟨w.heap.size+1,3,none⟩=some (.bool gb)∧w'.cell? ⟨w.heap.size+1,4,none⟩=some (.slice bo lb cb)∧w'.cell? ⟨w.heap.size+1,5,none⟩=some (.int .i64 eb)) (first | exact⟨X.1,X.2.1,X.2.2.1,Y.1,Y.2.1,Y.2.2.1,Y.2.2.2.1,Y.2.2.2.2.1,Y.2.2.2.2.2.1⟩ | go_keep)
   (first
     | (go_at_call 64;refine (cp _ HB).mono ?_;rintro _ w2 ⟨⟨v,rfl,hv⟩,hb1⟩;replace X:=X.keep hb1;replace Y:=Y.keep hb1;replace HB:=later HB hb1;clear hb1)
     | (go_at_call 66;refine (co _ _ HB hv).mono ?_;rintro _ w3 ⟨rfl,hb1⟩;replace X:=X.keep hb1;replace Y:=Y.keep hb1;replace HB:=later HB hb1;clear hb1))
 all_goals
   obtain⟨y0,y1,y2,y3,y4,y5,y6, -⟩:=Y
   rcases hR with ⟨hs,rfl⟩ | ⟨hs,rfl⟩
   all_goals
     go_wp2_with (go_at_call 29;refine (cs _ HB).mono ?_;rintro _ w4 ⟨rfl,hb1⟩;replace HB:=later HB hb1)
     go_ret
     exact⟨rfl,HB⟩
set_option maxHeartbeats 1000000 in
theorem same_q_core (gr ga gb:Bool) (ro ao bo:Option Addr) (lr la lb cr ca cb:Nat) (er ea eb t:Int) (w:World) (P:World→Value→Prop)
   (cp:∀W,Below w.heap.size w W→Calls Tryz.prog 64 #[.agg #[.bool gr,.slice ro lr cr,.int .i64 er],.agg #[.bool gb,.slice bo lb cb,.int .i64 eb]] W fun r w'=>(∃v,r=.returned v∧P w' v)∧Below W.heap.size W w')
   (co:∀W v,Below w.heap.size w W→P W v→Calls Tryz.prog 66 #[v,.agg #[.bool ga,.slice ao la ca,.int .i64 ea]] W fun r w'=>r=.returned (.int .i64 t)∧Below W.heap.size W w')
   (R:Bool) (hR:R=(t==0)) :
   Calls Tryz.prog 134 #[.agg #[.bool gr,.slice ro lr cr,.int .i64 er],.agg #[.bool ga,.slice ao la ca,.int .i64 ea,.bool gb,.slice bo lb cb,.int .i64 eb,.bool false]] w fun r w' =>
     r=.returned (.bool R)∧Below w.heap.size w w':=by
 go_enter Tryz.func134,Tryz.ntmps134
 go_upto_region 3 with fail
 have X:Has3 ((w.alloc (.cells #[.bool gr,.slice ro lr cr,.int .i64 er] 56)).alloc (.cells #[.bool ga,.slice ao la ca,.int .i64 ea,.bool gb,.slice bo lb cb,.int .i64 eb,.bool false] 136)).drew w.heap.size (.bool gr) (.slice ro lr cr) (.int .i64 er):=⟨by go_simp,by go_simp,by go_simp,by go_simp,by go_simp,by go_simp,by go_size⟩
 have Y:Has7 ((w.alloc (.cells #[.bool gr,.slice ro lr cr,.int .i64 er] 56)).alloc (.cells #[.bool ga,.slice ao la ca,.int .i64 ea,.bool gb,.slice bo lb cb,.int .i64 eb,.bool false] 136)).drew (w.heap.size+1) (.bool ga) (.slice ao la ca) (.int .i64 ea) (.bool gb) (.slice bo lb cb) (.int .i64 eb) (.bool false):=⟨by go_simp,by go_simp,by go_simp,by go_simp,by go_simp,by go_simp,by go_simp,by go_size⟩
 have HB:Below w.heap.size w ((w.alloc (.cells #[.bool gr,.slice ro lr cr,.int .i64 er] 56)).alloc (.cells #[.bool ga,.slice ao la ca,.int .i64 ea,.bool gb,.slice bo lb cb,.int .i64 eb,.bool false] 136)).drew:=by go_grown
 go_region_held3 (fun w'=>w'.cell? ⟨w.heap.size,0,none⟩=some (.bool gr)∧w'.cell? ⟨w.heap.size,1,none⟩=some (.slice ro lr cr)∧w'.cell? ⟨w.heap.size,2,none⟩=some (.int .i64 er)∧w'.cell? ⟨w.heap.size+1,0,none⟩=some (.bool ga)∧w'.cell? ⟨w.heap.size+1,1,none⟩=some (.slice ao la ca)∧w'.cell? ⟨w.heap.size+1,2,none⟩=some (.int .i64 ea)∧w'.cell? ⟨w.heap.size+1,3,none⟩=some (.bool gb)∧w'.cell? ⟨w.heap.size+1,4,none⟩=some (.slice bo lb cb)∧w'.cell? ⟨w.heap.size+1,5,none⟩=some (.int .i64 eb)) (first | exact⟨X.1,X.2.1,X.2.2.1,Y.1,Y.2.1,Y.2.2.1,Y.2.2.2.1,Y.2.2.2.2.1,Y.2.2.2.2.2.1⟩ | go_keep)
   (first
     | (go_at_call 64;refine (cp _ HB).mono ?_;rintro _ w2 ⟨⟨v,rfl,hv⟩,hb1⟩;replace X:=X.keep hb1;replace Y:=Y.keep hb1;replace HB:=later HB hb1;clear hb1)
     | (go_at_call 66;refine (co _ _ HB hv).mono ?_;rintro _ w3 ⟨rfl,hb1⟩;replace X:=X.keep hb1;replace Y:=Y.keep hb1;replace HB:=later HB hb1;clear hb1))
 all_goals
   subst hR
   go_wp2_with fail
   go_ret
   exact⟨rfl,HB⟩
set_option maxHeartbeats 1000000 in
theorem below_r_core (gr ga gb:Bool) (ro ao bo:Option Addr) (lr la lb cr ca cb:Nat) (er ea eb t s:Int) (w:World) (P:World→Value→Prop)
   (cp:∀W,Below w.heap.size w W→Calls Tryz.prog 64 #[.agg #[.bool gr,.slice ro lr cr,.int .i64 er],.agg #[.bool gr,.slice ro lr cr,.int .i64 er]] W fun r w'=>(∃v,r=.returned v∧P w' v)∧Below W.heap.size W w')
   (co:∀W v,Below w.heap.size w W→P W v→Calls Tryz.prog 66 #[v,.agg #[.bool ga,.slice ao la ca,.int .i64 ea]] W fun r w'=>r=.returned (.int .i64 t)∧Below W.heap.size W w')
   (cs:∀W,Below w.heap.size w W→Calls Tryz.prog 29 #[.agg #[.bool gr,.slice ro lr cr,.int .i64 er]] W fun r w'=>r=.returned (.int .i64 s)∧Below W.heap.size W w')
   (R:Bool) (hR:s=-1∧R=true∨s=0∧R=true∨¬s≤0∧R=decide (t≤0)) :
   Calls Tryz.prog 136 #[.agg #[.bool gr,.slice ro lr cr,.int .i64 er],.agg #[.bool ga,.slice ao la ca,.int .i64 ea,.bool gb,.slice bo lb cb,.int .i64 eb,.bool true]] w fun r w' =>
     r=.returned (.bool R)∧Below w.heap.size w w':=by
 go_enter Tryz.func136,Tryz.ntmps136
 go_upto_region 2 with fail
 have X:Has3 ((w.alloc (.cells #[.bool gr,.slice ro lr cr,.int .i64 er] 56)).alloc (.cells #[.bool ga,.slice ao la ca,.int .i64 ea,.bool gb,.slice bo lb cb,.int .i64 eb,.bool true] 136)).drew w.heap.size (.bool gr) (.slice ro lr cr) (.int .i64 er):=⟨by go_simp,by go_simp,by go_simp,by go_simp,by go_simp,by go_simp,by go_size⟩
 have Y:Has7 ((w.alloc (.cells #[.bool gr,.slice ro lr cr,.int .i64 er] 56)).alloc (.cells #[.bool ga,.slice ao la ca,.int .i64 ea,.bool gb,.slice bo lb cb,.int .i64 eb,.bool true] 136)).drew (w.heap.size+1) (.bool ga) (.slice ao la ca) (.int .i64 ea) (.bool gb) (.slice bo lb cb) (.int .i64 eb) (.bool true):=⟨by go_simp,by go_simp,by go_simp,by go_simp,by go_simp,by go_simp,by go_simp,by go_size⟩
 have HB:Below w.heap.size w ((w.alloc (.cells #[.bool gr,.slice ro lr cr,.int .i64 er] 56)).alloc (.cells #[.bool ga,.slice ao la ca,.int .i64 ea,.bool gb,.slice bo lb cb,.int .i64 eb,.bool true] 136)).drew:=by go_grown
 rcases hR with ⟨rfl,rfl⟩ | ⟨rfl,rfl⟩ | ⟨hs,rfl⟩
 · have x0:=X.1
   have x1:=X.2.1
   have x2:=X.2.2.1
   first
     | go_region_with (go_at_call 29;refine (cs _ HB).mono ?_;rintro _ w4 ⟨rfl,hb1⟩;replace X:=X.keep hb1;replace Y:=Y.keep hb1;replace HB:=later HB hb1;clear hb1)
     | fail
   all_goals
     go_wp2_with fail
     go_ret
     exact⟨rfl,HB⟩
 · have x0:=X.1
   have x1:=X.2.1
   have x2:=X.2.2.1
   first
     | go_region_with (go_at_call 29;refine (cs _ HB).mono ?_;rintro _ w4 ⟨rfl,hb1⟩;replace X:=X.keep hb1;replace Y:=Y.keep hb1;replace HB:=later HB hb1;clear hb1)
     | fail
   all_goals
     go_wp2_with fail
     go_ret
     exact⟨rfl,HB⟩
 · have hd:decide (s≤0)=false:=by simp;omega
   go_region_held3 (fun w'=>w'.cell? ⟨w.heap.size,0,none⟩=some (.bool gr)∧w'.cell? ⟨w.heap.size,1,none⟩=some (.slice ro lr cr)∧w'.cell? ⟨w.heap.size,2,none⟩=some (.int .i64 er)∧w'.cell? ⟨w.heap.size+1,0,none⟩=some (.bool ga)∧w'.cell? ⟨w.heap.size+1,1,none⟩=some (.slice ao la ca)∧w'.cell? ⟨w.heap.size+1,2,none⟩=some (.int .i64 ea)∧w'.cell? ⟨w.heap.size+1,3,none⟩=some (.bool gb)∧w'.cell? ⟨w.heap.size+1,4,none⟩=some (.slice bo lb cb)∧w'.cell? ⟨w.heap.size+1,5,none⟩=some (.int .i64 eb)) (first | exact⟨X.1,X.2.1,X.2.2.1,Y.1,Y.2.1,Y.2.2.1,Y.2.2.2.1,Y.2.2.2.2.1,Y.2.2.2.2.2.1⟩ | go_keep)
     (first
       | (go_at_call 29;refine (cs _ HB).mono ?_;rintro _ w4 ⟨rfl,hb1⟩;replace X:=X.keep hb1;replace Y:=Y.keep hb1;replace HB:=later HB hb1;clear hb1)
       | (go_at_call 64;refine (cp _ HB).mono ?_;rintro _ w2 ⟨⟨v,rfl,hv⟩,hb1⟩;replace X:=X.keep hb1;replace Y:=Y.keep hb1;replace HB:=later HB hb1;clear hb1)
       | (go_at_call 66;refine (co _ _ HB hv).mono ?_;rintro _ w3 ⟨rfl,hb1⟩;replace X:=X.keep hb1;replace Y:=Y.keep hb1;replace HB:=later HB hb1;clear hb1))
   all_goals
     go_wp2_with fail
     go_ret
     exact⟨rfl,HB⟩
set_option maxHeartbeats 1000000 in
theorem same_r_core (gr ga gb:Bool) (ro ao bo:Option Addr) (lr la lb cr ca cb:Nat) (er ea eb t s:Int) (w:World) (P:World→Value→Prop)
   (cp:∀W,Below w.heap.size w W→Calls Tryz.prog 64 #[.agg #[.bool gr,.slice ro lr cr,.int .i64 er],.agg #[.bool gr,.slice ro lr cr,.int .i64 er]] W fun r w'=>(∃v,r=.returned v∧P w' v)∧Below W.heap.size W w')
   (co:∀W v,Below w.heap.size w W→P W v→Calls Tryz.prog 66 #[v,.agg #[.bool ga,.slice ao la ca,.int .i64 ea]] W fun r w'=>r=.returned (.int .i64 t)∧Below W.heap.size W w')
   (cs:∀W,Below w.heap.size w W→Calls Tryz.prog 29 #[.agg #[.bool gr,.slice ro lr cr,.int .i64 er]] W fun r w'=>r=.returned (.int .i64 s)∧Below W.heap.size W w')
   (R:Bool) (hR:s=-1∧R=false∨0≤s∧R=(t==0)) :
   Calls Tryz.prog 134 #[.agg #[.bool gr,.slice ro lr cr,.int .i64 er],.agg #[.bool ga,.slice ao la ca,.int .i64 ea,.bool gb,.slice bo lb cb,.int .i64 eb,.bool true]] w fun r w' =>
     r=.returned (.bool R)∧Below w.heap.size w w':=by
 go_enter Tryz.func134,Tryz.ntmps134
 go_upto_region 2 with fail
 have X:Has3 ((w.alloc (.cells #[.bool gr,.slice ro lr cr,.int .i64 er] 56)).alloc (.cells #[.bool ga,.slice ao la ca,.int .i64 ea,.bool gb,.slice bo lb cb,.int .i64 eb,.bool true] 136)).drew w.heap.size (.bool gr) (.slice ro lr cr) (.int .i64 er):=⟨by go_simp,by go_simp,by go_simp,by go_simp,by go_simp,by go_simp,by go_size⟩
 have Y:Has7 ((w.alloc (.cells #[.bool gr,.slice ro lr cr,.int .i64 er] 56)).alloc (.cells #[.bool ga,.slice ao la ca,.int .i64 ea,.bool gb,.slice bo lb cb,.int .i64 eb,.bool true] 136)).drew (w.heap.size+1) (.bool ga) (.slice ao la ca) (.int .i64 ea) (.bool gb) (.slice bo lb cb) (.int .i64 eb) (.bool true):=⟨by go_simp,by go_simp,by go_simp,by go_simp,by go_simp,by go_simp,by go_simp,by go_size⟩
 have HB:Below w.heap.size w ((w.alloc (.cells #[.bool gr,.slice ro lr cr,.int .i64 er] 56)).alloc (.cells #[.bool ga,.slice ao la ca,.int .i64 ea,.bool gb,.slice bo lb cb,.int .i64 eb,.bool true] 136)).drew:=by go_grown
 rcases hR with ⟨rfl,rfl⟩ | ⟨hs,rfl⟩
 · have x0:=X.1
   have x1:=X.2.1
   have x2:=X.2.2.1
   first
     | go_region_with (go_at_call 29;refine (cs _ HB).mono ?_;rintro _ w4 ⟨rfl,hb1⟩;replace X:=X.keep hb1;replace Y:=Y.keep hb1;replace HB:=later HB hb1;clear hb1)
     | fail
   all_goals
     go_wp2_with fail
     go_ret
     exact⟨rfl,HB⟩
 · have hd:decide (0≤s)=true:=by simp;omega
   go_region_held3 (fun w'=>w'.cell? ⟨w.heap.size,0,none⟩=some (.bool gr)∧w'.cell? ⟨w.heap.size,1,none⟩=some (.slice ro lr cr)∧w'.cell? ⟨w.heap.size,2,none⟩=some (.int .i64 er)∧w'.cell? ⟨w.heap.size+1,0,none⟩=some (.bool ga)∧w'.cell? ⟨w.heap.size+1,1,none⟩=some (.slice ao la ca)∧w'.cell? ⟨w.heap.size+1,2,none⟩=some (.int .i64 ea)∧w'.cell? ⟨w.heap.size+1,3,none⟩=some (.bool gb)∧w'.cell? ⟨w.heap.size+1,4,none⟩=some (.slice bo lb cb)∧w'.cell? ⟨w.heap.size+1,5,none⟩=some (.int .i64 eb)) (first | exact⟨X.1,X.2.1,X.2.2.1,Y.1,Y.2.1,Y.2.2.1,Y.2.2.2.1,Y.2.2.2.2.1,Y.2.2.2.2.2.1⟩ | go_keep)
     (first
       | (go_at_call 29;refine (cs _ HB).mono ?_;rintro _ w4 ⟨rfl,hb1⟩;replace X:=X.keep hb1;replace Y:=Y.keep hb1;replace HB:=later HB hb1;clear hb1)
       | (go_at_call 64;refine (cp _ HB).mono ?_;rintro _ w2 ⟨⟨v,rfl,hv⟩,hb1⟩;replace X:=X.keep hb1;replace Y:=Y.keep hb1;replace HB:=later HB hb1;clear hb1)
       | (go_at_call 66;refine (co _ _ HB hv).mono ?_;rintro _ w3 ⟨rfl,hb1⟩;replace X:=X.keep hb1;replace Y:=Y.keep hb1;replace HB:=later HB hb1;clear hb1))
   all_goals
     go_wp2_with fail
     go_ret
     exact⟨rfl,HB⟩
def exD (az bz:Int):Ex:=⟨fun h=>if bz<0 then az≤h*bz else h*bz≤az,fun h=>if bz<0 then h*bz≤az else az≤h*bz⟩
def exR (az:Int):Ex:=⟨fun h=>h≤0∨h*h≤az,fun h=>0≤h∧az≤h*h⟩
def XIs (w:World) (x:Value) (X:Ex):Prop :=
 ∃(ga:Bool) (ao:Option Addr) (la ca:Nat) (ea:Int) (gb:Bool) (bo:Option Addr) (lb cb:Nat) (eb:Int) (root:Bool),
   x=.agg #[.bool ga,.slice ao la ca,.int .i64 ea,.bool gb,.slice bo lb cb,.int .i64 eb,.bool root] ∧
   (root=false∧(∃Sb az bz, -5000≤Sb∧Sb≤0∧NumZ (Sb-1075) 6000 20000 w (.agg #[.bool ga,.slice ao la ca,.int .i64 ea]) az∧NumZ Sb 1024 3000 w (.agg #[.bool gb,.slice bo lb cb,.int .i64 eb]) bz∧X=exD az bz) ∨
    root=true∧∃az,0≤az∧NumZ (-2150) 6000 20000 w (.agg #[.bool ga,.slice ao la ca,.int .i64 ea]) az∧X=exR az)
theorem XIs.keep {w w':World} {x:Value} {X:Ex} (h:XIs w x X) (hb:Below w.heap.size w w'):XIs w' x X:=by
 obtain⟨ga,ao,la,ca,ea,gb,bo,lb,cb,eb,root,h1,⟨h2,Sb,az,bz,s1,s2,h3,h4,h5⟩ | ⟨h2,az,h3,h4,h5⟩⟩:=h
 · exact⟨ga,ao,la,ca,ea,gb,bo,lb,cb,eb,root,h1,Or.inl ⟨h2,Sb,az,bz,s1,s2,h3.keep hb,h4.keep hb,h5⟩⟩
 · exact⟨ga,ao,la,ca,ea,gb,bo,lb,cb,eb,root,h1,Or.inr ⟨h2,az,h3,h4.keep hb,h5⟩⟩
theorem cmpZ_ge (a b:Int):0≤cmpZ a b↔b≤a:=by unfold cmpZ;split <;> (try split) <;> omega
theorem cmpZ_le (a b:Int):cmpZ a b≤0↔a≤b:=by unfold cmpZ;split <;> (try split) <;> omega
theorem cmpZ_lt (a b:Int):cmpZ a b<0↔a<b:=by unfold cmpZ;split <;> (try split) <;> omega
theorem cmpZ_eq (a b:Int):cmpZ a b=0↔a=b:=by unfold cmpZ;split <;> (try split) <;> omega
theorem cmpZ_three (a b:Int):cmpZ a b=-1∨cmpZ a b=0∨cmpZ a b=1:=by unfold cmpZ;split <;> (try split) <;> omega
theorem below_x {w:World} {r x:Value} {h:Int} {X:Ex} (hr:NumZ (-1075) 1024 3000 w r h) (hx:XIs w x X) :
   Calls Tryz.prog 136 #[r,x] w fun e w'=>(∃b:Bool,e=.returned (.bool b)∧(b=true↔X.le h))∧Below w.heap.size w w':=by
 obtain⟨gr,ro,lr,cr,er,rfl⟩:=hr.shape
 obtain⟨ga,ao,la,ca,ea,gb,bo,lb,cb,eb,root,rfl,⟨rfl,Sb,az,bz,s1,s2,hA,hB,rfl⟩ | ⟨rfl,az,h0,hA,rfl⟩⟩:=hx
 · obtain⟨R,hR⟩:∃R:Bool,(cmpZ bz 0<0∧R=decide (0≤cmpZ (h*bz) az)∨¬cmpZ bz 0<0∧R=decide (cmpZ (h*bz) az≤0)):=by
     by_cases c:cmpZ bz 0<0
     · exact⟨_,Or.inl ⟨c,rfl⟩⟩
     · exact⟨_,Or.inr ⟨c,rfl⟩⟩
   refine (below_q_core gr ga gb ro ao bo lr la lb cr ca cb er ea eb (cmpZ (h*bz) az) (cmpZ bz 0) w (fun W v=>NumZ (Sb-1075) 6000 20000 W v (h*bz)) (fun W hW=>?_) (fun W v hW hv=>order_z (by omega) (by omega) (by omega) hv (hA.keep hW)) (fun W hW=>sign_z (hB.keep hW)) R hR).mono ?_
   · refine (prod_z (S:=-1075) (T:=1024) (S':=Sb) (T':=1024) (K:=3000) (by omega) (by omega) (by omega) (by omega) (hr.keep hW) (hB.keep hW)).mono ?_
     rintro _ w' ⟨⟨v,rfl,hv⟩,hb⟩
     rw [show (-1075:Int)+Sb=Sb-1075 by omega] at hv
     exact⟨⟨v,rfl,hv.wide (by omega) (by omega)⟩,hb⟩
   · rintro _ w' ⟨rfl,hb⟩
     refine⟨⟨R,rfl, ?_⟩,hb⟩
     show R=true↔(if bz<0 then az≤h*bz else h*bz≤az)
     rcases hR with ⟨c,rfl⟩ | ⟨c,rfl⟩
     · rw [cmpZ_lt] at c
       rw [if_pos c,decide_eq_true_iff,cmpZ_ge]
     · rw [cmpZ_lt] at c
       rw [if_neg c,decide_eq_true_iff,cmpZ_le]
 · obtain⟨R,hR⟩:∃R:Bool,(cmpZ h 0=-1∧R=true∨cmpZ h 0=0∧R=true∨¬cmpZ h 0≤0∧R=decide (cmpZ (h*h) az≤0)):=by
     rcases cmpZ_three h 0 with c | c | c
     · exact⟨_,Or.inl ⟨c,rfl⟩⟩
     · exact⟨_,Or.inr (Or.inl ⟨c,rfl⟩)⟩
     · exact⟨_,Or.inr (Or.inr ⟨by omega,rfl⟩)⟩
   refine (below_r_core gr ga gb ro ao bo lr la lb cr ca cb er ea eb (cmpZ (h*h) az) (cmpZ h 0) w (fun W v=>NumZ (-2150) 6000 20000 W v (h*h)) (fun W hW=>?_) (fun W v hW hv=>order_z (by omega) (by omega) (by omega) hv (hA.keep hW)) (fun W hW=>sign_z (hr.keep hW)) R hR).mono ?_
   · refine (prod_z (S:=-1075) (T:=1024) (S':=-1075) (T':=1024) (K:=3000) (by omega) (by omega) (by omega) (by omega) (hr.keep hW) (hr.keep hW)).mono ?_
     rintro _ w' ⟨⟨v,rfl,hv⟩,hb⟩
     rw [show (-1075:Int)+-1075=-2150 by omega] at hv
     exact⟨⟨v,rfl,hv.wide (by omega) (by omega)⟩,hb⟩
   · rintro _ w' ⟨rfl,hb⟩
     refine⟨⟨R,rfl, ?_⟩,hb⟩
     show R=true↔(h≤0∨h*h≤az)
     have c0:=cmpZ_le h 0
     have c1:=cmpZ_le (h*h) az
     rcases hR with ⟨c,rfl⟩ | ⟨c,rfl⟩ | ⟨c,rfl⟩
     · simp;left;omega
     · simp;left;omega
     · rw [decide_eq_true_iff,c1]
       constructor
       · exact Or.inr
       · rintro (q | q)
         · omega
         · exact q
theorem same_x {w:World} {r x:Value} {h:Int} {X:Ex} (hr:NumZ (-1075) 1024 3000 w r h) (hx:XIs w x X) :
   Calls Tryz.prog 134 #[r,x] w fun e w'=>(∃b:Bool,e=.returned (.bool b)∧(b=true↔X.le h∧X.ge h))∧Below w.heap.size w w':=by
 obtain⟨gr,ro,lr,cr,er,rfl⟩:=hr.shape
 obtain⟨ga,ao,la,ca,ea,gb,bo,lb,cb,eb,root,rfl,⟨rfl,Sb,az,bz,s1,s2,hA,hB,rfl⟩ | ⟨rfl,az,h0,hA,rfl⟩⟩:=hx
 · refine (same_q_core gr ga gb ro ao bo lr la lb cr ca cb er ea eb (cmpZ (h*bz) az) w (fun W v=>NumZ (Sb-1075) 6000 20000 W v (h*bz)) (fun W hW=>?_) (fun W v hW hv=>order_z (by omega) (by omega) (by omega) hv (hA.keep hW)) _ rfl).mono ?_
   · refine (prod_z (S:=-1075) (T:=1024) (S':=Sb) (T':=1024) (K:=3000) (by omega) (by omega) (by omega) (by omega) (hr.keep hW) (hB.keep hW)).mono ?_
     rintro _ w' ⟨⟨v,rfl,hv⟩,hb⟩
     rw [show (-1075:Int)+Sb=Sb-1075 by omega] at hv
     exact⟨⟨v,rfl,hv.wide (by omega) (by omega)⟩,hb⟩
   · rintro _ w' ⟨rfl,hb⟩
     refine⟨⟨_,rfl, ?_⟩,hb⟩
     show _↔(if bz<0 then az≤h*bz else h*bz≤az)∧(if bz<0 then h*bz≤az else az≤h*bz)
     rw [beq_iff_eq,cmpZ_eq]
     split <;> omega
 · obtain⟨R,hR⟩:∃R:Bool,(cmpZ h 0=-1∧R=false∨0≤cmpZ h 0∧R=(cmpZ (h*h) az==0)):=by
     rcases cmpZ_three h 0 with c | c | c
     · exact⟨_,Or.inl ⟨c,rfl⟩⟩
     · exact⟨_,Or.inr ⟨by omega,rfl⟩⟩
     · exact⟨_,Or.inr ⟨by omega,rfl⟩⟩
   refine (same_r_core gr ga gb ro ao bo lr la lb cr ca cb er ea eb (cmpZ (h*h) az) (cmpZ h 0) w (fun W v=>NumZ (-2150) 6000 20000 W v (h*h)) (fun W hW=>?_) (fun W v hW hv=>order_z (by omega) (by omega) (by omega) hv (hA.keep hW)) (fun W hW=>sign_z (hr.keep hW)) R hR).mono ?_
   · refine (prod_z (S:=-1075) (T:=1024) (S':=-1075) (T':=1024) (K:=3000) (by omega) (by omega) (by omega) (by omega) (hr.keep hW) (hr.keep hW)).mono ?_
     rintro _ w' ⟨⟨v,rfl,hv⟩,hb⟩
     rw [show (-1075:Int)+-1075=-2150 by omega] at hv
     exact⟨⟨v,rfl,hv.wide (by omega) (by omega)⟩,hb⟩
   · rintro _ w' ⟨rfl,hb⟩
     refine⟨⟨R,rfl, ?_⟩,hb⟩
     show R=true↔(h≤0∨h*h≤az)∧(0≤h∧az≤h*h)
     have c0:=cmpZ_ge h 0
     have c1:=cmpZ_eq (h*h) az
     rcases hR with ⟨c,rfl⟩ | ⟨c,rfl⟩
     · simp;omega
     · rw [beq_iff_eq,c1]
       constructor
       · intro e;omega
       · rintro ⟨q1 | q1,q2,q3⟩
         · have:h=0:=by omega
           subst this
           omega
         · omega
end Go.Proofs.YtlabmpngbcnhpaaGreat
namespace Go.Proofs.YtlabmpngbcnhpaaGreat
def IsRnd (x:Ex) (dir k:Int):Prop:=∃d,KDown x d ∧
 ((d≠-9218868437227405312∧x.le (2*V d)∧x.ge (2*V d))∧k=d ∨
  ¬(d≠-9218868437227405312∧x.le (2*V d)∧x.ge (2*V d))∧(dir<0→k=d)∧(0<dir→k=d+1) ∧
   (dir=0→(x.le (V d+V (d+1))∧x.ge (V d+V (d+1))∧k=(if d%2=0 then d else d+1) ∨
     ¬(x.le (V d+V (d+1))∧x.ge (V d+V (d+1)))∧(x.le (V d+V (d+1))∧k=d+1∨¬x.le (V d+V (d+1))∧k=d))))
theorem rnd_of {x:Ex} (ok:x.Ok) {g:Bool} (hg:if g then x.ge 0 else x.le 0) {dir:Int} {r:Nat} (h:IsR (x.amt g) (sideN dir g) r):IsRnd x dir (if g then -(r:Int) else r):=by
 obtain⟨d,hd,h0,h2,h1⟩:=h
 have dt:=hd.top
 cases g
 · simp only [Bool.false_eq_true,if_false] at *
   have lo:x.le ((2*val d:Nat):Int):=hd.low
   have up:d=9218868437227405311∨¬x.le ((2*val (d+1):Nat):Int):=hd.up
   have s1:dir<0→sideN dir false=0:=by
     intro t
     have u:¬0<dir:=by omega
     unfold sideN
     rw [if_neg (by omega)]
     simp [u]
   have s2:0<dir→sideN dir false=2:=fun t=>by unfold sideN;rw [if_neg (by omega)];simp [t]
   have s3:dir=0→sideN dir false=1:=fun t=>by unfold sideN;rw [if_pos t]
   have e2:((2*val d:Nat):Int)=2*V (d:Int):=by rw [V_nat];simp
   have e3:((d:Int)+1)=((d+1:Nat):Int):=by omega
   have em:((val d+val (d+1):Nat):Int)=V (d:Int)+V ((d:Int)+1):=by rw [e3,V_nat,V_nat];simp
   have eqd:(x.amt false).eq (2*val d)↔x.le (2*V (d:Int))∧x.ge (2*V (d:Int)):=by rw [←e2];exact Iff.rfl
   have eqm:(x.amt false).eq (val d+val (d+1))↔x.le (V (d:Int)+V ((d:Int)+1))∧x.ge (V (d:Int)+V ((d:Int)+1)):=by rw [←em];exact Iff.rfl
   have lem:(x.amt false).le (val d+val (d+1))↔x.le (V (d:Int)+V ((d:Int)+1)):=by rw [←em];exact Iff.rfl
   have kd:KDown x (d:Int):=⟨by omega,by omega,Or.inr (by rw [←e2];exact lo),by
     rcases up with u | u
     · left;omega
     · right
       rw [e3,V_nat]
       exact fun c=>u (ok.down (by omega) c)⟩
   refine⟨d,kd, ?_⟩
   have dn:(d:Int)≠-9218868437227405312:=by omega
   rw [eqd] at h1 h2
   rw [eqm,lem] at h1
   by_cases eqx:x.le (2*V (d:Int))∧x.ge (2*V (d:Int))
   · left
     refine⟨⟨dn,eqx⟩, ?_⟩
     rcases Int.lt_trichotomy dir 0 with t | t | t
     · rw [h0 (s1 t)]
     · rcases h1 (s3 t) with ⟨-,b⟩ | ⟨b, -⟩
       · rw [b]
       · exact absurd eqx b
     · rcases h2 (s2 t) with ⟨-,b⟩ | ⟨b, -⟩
       · rw [b]
       · exact absurd eqx b
   · right
     refine⟨fun c=>eqx c.2,fun t=>by rw [h0 (s1 t)],fun t=>?_,fun t=>?_⟩
     · rcases h2 (s2 t) with ⟨b, -⟩ | ⟨-,b⟩
       · exact absurd b eqx
       · omega
     · rcases h1 (s3 t) with ⟨b, -⟩ | ⟨-,⟨b,c⟩ | ⟨b,⟨c,e⟩ | ⟨c,e⟩⟩⟩
       · exact absurd b eqx
       · left
         refine⟨b.1,b.2, ?_⟩
         rw [c]
         by_cases p:d%2=0
         · rw [if_pos p,if_pos (by omega)]
         · rw [if_neg p,if_neg (by omega)];omega
       · right;exact⟨b,Or.inl ⟨c,by omega⟩⟩
       · right;exact⟨b,Or.inr ⟨c,by omega⟩⟩
 · simp only [if_true] at *
   have lo:x.ge (-((2*val d:Nat):Int)):=hd.low
   have up:d=9218868437227405311∨¬x.ge (-((2*val (d+1):Nat):Int)):=hd.up
   have s1:dir<0→sideN dir true=2:=by
     intro t
     have u:¬0<dir:=by omega
     unfold sideN
     rw [if_neg (by omega)]
     simp [u]
   have s2:0<dir→sideN dir true=0:=fun t=>by unfold sideN;rw [if_neg (by omega)];simp [t]
   have s3:dir=0→sideN dir true=1:=fun t=>by unfold sideN;rw [if_pos t]
   have e2:-((2*val d:Nat):Int)=2*V (-(d:Int)):=by rw [V_negnat];omega
   have eqd:(x.amt true).eq (2*val d)↔x.le (2*V (-(d:Int)))∧x.ge (2*V (-(d:Int))):=by rw [←e2];exact Iff.rfl
   rw [eqd] at h1 h2
   by_cases eqx:x.le (2*V (-(d:Int)))∧x.ge (2*V (-(d:Int)))
   · have kd:KDown x (-(d:Int)):=⟨by omega,by omega,Or.inr eqx.1,Or.inr fun c=>by
       have c1:=ok.sep eqx.2 c
       have c2:=V_mono (show -(d:Int) < -(d:Int)+1 by omega)
       omega⟩
     refine⟨-(d:Int),kd,Or.inl ⟨⟨by omega,eqx⟩, ?_⟩⟩
     rcases Int.lt_trichotomy dir 0 with t | t | t
     · rcases h2 (s1 t) with ⟨-,b⟩ | ⟨b, -⟩
       · rw [b]
       · exact absurd eqx b
     · rcases h1 (s3 t) with ⟨-,b⟩ | ⟨b, -⟩
       · rw [b]
       · exact absurd eqx b
     · rw [h0 (s2 t)]
   · have e3:-((d+1:Nat):Int)+1=-(d:Int):=by omega
     have em:-((val d+val (d+1):Nat):Int)=V (-((d+1:Nat):Int))+V (-((d+1:Nat):Int)+1):=by rw [e3,V_negnat,V_negnat];omega
     have eqm:(x.amt true).eq (val d+val (d+1))↔x.le (V (-((d+1:Nat):Int))+V (-((d+1:Nat):Int)+1))∧x.ge (V (-((d+1:Nat):Int))+V (-((d+1:Nat):Int)+1)):=by rw [←em];exact Iff.rfl
     have lem:(x.amt true).le (val d+val (d+1))↔x.ge (V (-((d+1:Nat):Int))+V (-((d+1:Nat):Int)+1)):=by rw [←em];exact Iff.rfl
     rw [eqm,lem] at h1
     have kd:KDown x (-((d+1:Nat):Int)):=⟨by omega,by omega,by
       rcases up with u | u
       · left;omega
       · right
         rcases ok.total (-((2*val (d+1):Nat):Int)) with c | c
         · rw [V_negnat];exact ok.down (by omega) c
         · exact absurd c u,Or.inr fun c=>by
           rw [e3] at c
           exact eqx ⟨c,by rw [←e2];exact lo⟩⟩
     refine⟨-((d+1:Nat):Int),kd,Or.inr ⟨fun c=>?_,fun t=>?_,fun t=>?_,fun t=>?_⟩⟩
     · rcases up with u | u
       · exact c.1 (by omega)
       · apply u
         have:=c.2.2
         rw [V_negnat] at this
         exact ok.up (by omega) this
     · rcases h2 (s1 t) with ⟨b, -⟩ | ⟨-,b⟩
       · exact absurd b eqx
       · rw [b]
     · rw [h0 (s2 t)];omega
     · rcases h1 (s3 t) with ⟨b, -⟩ | ⟨-,⟨b,c⟩ | ⟨b,⟨c,e⟩ | ⟨c,e⟩⟩⟩
       · exact absurd b eqx
       · left
         refine⟨b.1,b.2, ?_⟩
         rw [c]
         by_cases p:d%2=0
         · rw [if_pos p,if_neg (by omega)];omega
         · rw [if_neg p,if_pos (by omega)]
       · right
         exact⟨b,Or.inr ⟨fun l=>b ⟨l,c⟩,by rw [e]⟩⟩
       · right
         refine⟨b,Or.inl ⟨?_,by omega⟩⟩
         rcases ok.total (V (-((d+1:Nat):Int))+V (-((d+1:Nat):Int)+1)) with l | l
         · exact l
         · exact absurd l c
end Go.Proofs.YtlabmpngbcnhpaaGreat
namespace Go.Proofs.YtlabmpngbcnhpaaGreat
theorem round_is {x:Ex} (ok:x.Ok) {g:Bool} {M:Nat} {E:Int} (dir:Int) (hM:M<18446744073709551616) (hE:-4096≤E∧E≤4096) (hz:M=0→x.le 0∧x.ge 0) (hg:if g then x.ge 0 else x.le 0) (near:M≠0→Near M E (x.amt g)) :
   IsRnd x dir (key (roundN g M E dir)):=by
 unfold roundN
 by_cases h0:M=0
 · rw [if_pos h0]
   obtain⟨l,u⟩:=hz h0
   have hk:key 0=0:=rfl
   rw [hk]
   refine⟨0,⟨by omega,by omega,Or.inr ?_,Or.inr fun c=>?_⟩,Or.inl ⟨⟨by omega, ?_, ?_⟩,rfl⟩⟩
   · rw [V_zero];exact l
   · have:=ok.sep u c
     have h1:=V_pos (show (0:Int)<0+1 by omega)
     omega
   · rw [V_zero];exact l
   · rw [V_zero];exact u
 · rw [if_neg h0]
   have ec:clampN E=E:=by unfold clampN;omega
   rw [ec]
   have hs:sideN dir g=0∨sideN dir g=1∨sideN dir g=2:=by unfold sideN;split <;> (try split) <;> omega
   have hr:=rung_is (ok.cut hg) (near h0) h0 hM hs
   have hle:rungN (topN M) (E-shiftN M) (sideN dir g)≤9218868437227405312:=by
     obtain⟨d,hd,r0,r2,r1⟩:=hr
     have:=hd.top
     rcases hs with c | c | c
     · have:=r0 c;omega
     · rcases r1 c with ⟨-,e⟩ | ⟨-,⟨-,e⟩ | ⟨-,⟨-,e⟩ | ⟨-,e⟩⟩⟩
       · omega
       · rw [e];split <;> omega
       · omega
       · omega
     · rcases r2 c with ⟨-,e⟩ | ⟨-,e⟩ <;> omega
   rw [(signN_facts g _ hle).2.2.2]
   exact rnd_of ok hg hr
theorem sum_first_is (dir:Int) {gp gq:Bool} {mp mq:Nat} {ep eq:Int} (hp:mp<9007199254740992) (hq:mq<9007199254740992) (e1:-1074≤eq) (e3:ep≤971) (e2:eq≤ep) (norm:eq<ep→4503599627370496≤mp) (same:ep=eq→mq≤mp)
   (hM:addM gp mp ep gq mq eq<18446744073709551616) :
   IsRnd (exQ (2*((if gp then -((mp*2^(ep+1074).toNat:Nat):Int) else (mp*2^(ep+1074).toNat:Nat))+(if gq then -((mq*2^(eq+1074).toNat:Nat):Int) else (mq*2^(eq+1074).toNat:Nat)))) 1) dir (key (roundN gp (addM gp mp ep gq mq eq) (ep-10) dir)):=by
 have hle:mq*2^(eq+1074).toNat≤mp*2^(ep+1074).toNat :=
   (add_near (gp:=gp) (gq:=gq) (C:=⟨fun h=>h≤_,fun h=>h=_⟩) hp hq e1 e2 norm same (fun h=>Iff.rfl) (fun h=>Iff.rfl)).2
 have ha:=fun gp gq=>sum_abs (gp:=gp) (gq:=gq) hle
 have nr:=fun C=>add_near (gp:=gp) (gq:=gq) (C:=C) hp hq e1 e2 norm same
 generalize mp*2^(ep+1074).toNat=Ap at *
 generalize mq*2^(eq+1074).toNat=Aq at *
 obtain⟨a1,a2⟩:=ha gp gq
 generalize 2*((if gp then -(Ap:Int) else Ap)+(if gq then -(Aq:Int) else Aq))=N at *
 have near:Near (addM gp mp ep gq mq eq) (ep-10) ((exQ N 1).amt gp):=by
   refine (nr _ (fun h=>?_) (fun h=>?_)).1
   · rw [(amt_Q a2 h).1,a1,Nat.mul_one]
   · rw [(amt_Q a2 h).2,a1,Nat.mul_one]
 refine round_is (exQ_ok N (by omega)) dir hM (by omega) (fun h0=>?_) ?_ (fun _=>near)
 · rw [h0] at near
   obtain⟨a,b, -,hc | ⟨odd, -, -⟩⟩:=near
   · have h1:=(hc 0).2.2 (by simp)
     have h2:=(amt_Q a2 0).2.1 h1
     have:N=0:=by omega
     subst this
     exact⟨by simp [exQ],by simp [exQ]⟩
   · omega
 · cases gp
   · simpa [exQ] using a2
   · simpa [exQ] using a2
theorem self_is (dir:Int) {g:Bool} {m:Nat} {e:Int} (hm:m<9007199254740992) (he:-1074≤e∧e≤971) :
   IsRnd (exQ (2*(if g then -((m*2^(e+1074).toNat:Nat):Int) else (m*2^(e+1074).toNat:Nat))) 1) dir (key (roundN g m e dir)):=by
 have ns:=fun C=>near_self (m:=m) (e:=e) (C:=C) he.1
 have z:m=0→m*2^(e+1074).toNat=0:=fun h=>by rw [h,Nat.zero_mul]
 generalize m*2^(e+1074).toNat=A at *
 have hg:if g then 2*(if g then -(A:Int) else A)≤0 else 0≤2*(if g then -(A:Int) else (A:Int)):=by cases g <;> simp <;> omega
 have ha:(2*(if g then -(A:Int) else A)).natAbs=2*A:=by cases g <;> simp <;> omega
 generalize 2*(if g then -(A:Int) else (A:Int))=N at *
 refine round_is (exQ_ok N (by omega)) dir (by omega) (by omega) (fun h0=>?_) ?_ (fun _=>ns _ (fun h=>?_) (fun h=>?_))
 · have:N=0:=by have:=z h0;omega
   subst this
   exact⟨by simp [exQ],by simp [exQ]⟩
 · cases g
   · simpa [exQ] using hg
   · simpa [exQ] using hg
 · rw [(amt_Q hg h).1,ha,Nat.mul_one]
 · rw [(amt_Q hg h).2,ha,Nat.mul_one]
theorem addF_is (dir:Int) {a b:Nat} (ha:a<18446744073709551616) (hb:b<18446744073709551616) (fa:finB a=true) (fb:finB b=true) :
   IsRnd (exQ (2*(V (key a)+V (key b))) 1) dir (key (addF a b dir)):=by
 have hm:=sumM_lt (splitG a) (splitM a) (splitE a) (splitG b) (splitM b) (splitE b) (splitM_lt a) (splitM_lt b)
 have ea:=splitE_bounds fa
 have eb:=splitE_bounds fb
 have na:=splitM_norm fa
 have nb:=splitM_norm fb
 have la:=splitM_lt a
 have lb:=splitM_lt b
 rw [signed_val ha fa,signed_val hb fb]
 unfold addF
 generalize splitG a=gp at *
 generalize splitG b=gq at *
 generalize splitM a=mp at *
 generalize splitM b=mq at *
 generalize splitE a=ep at *
 generalize splitE b=eq at *
 unfold sumM at *
 unfold sumG sumE
 by_cases z1:mp=0
 · subst z1
   simp only [if_true,Nat.zero_mul] at *
   have:=self_is dir (g:=gq) (m:=mq) (e:=eq) lb eb
   have e0:(if gp then -((0:Nat):Int) else ((0:Nat):Int))=0:=by cases gp <;> rfl
   rw [e0,Int.zero_add]
   exact this
 · simp only [z1,if_false] at hm ⊢
   by_cases z2:mq=0
   · subst z2
     simp only [if_true,Nat.zero_mul] at *
     have:=self_is dir (g:=gp) (m:=mp) (e:=ep) la ea
     have e0:(if gq then -((0:Nat):Int) else ((0:Nat):Int))=0:=by cases gq <;> rfl
     rw [e0,Int.add_zero]
     exact this
   · simp only [z2,if_false] at hm ⊢
     have hsw:swapP mp ep mq eq=decide (ep<eq∨ep=eq∧mp<mq):=rfl
     by_cases sw:ep<eq∨ep=eq∧mp<mq
     · have hs:swapP mp ep mq eq=true:=by rw [hsw];simp [sw]
       simp only [hs,if_true] at hm ⊢
       rw [Int.add_comm]
       exact sum_first_is dir lb la ea.1 eb.2 (by omega) (fun h=>nb z2 (by omega)) (fun h=>by omega) hm
     · have hs:swapP mp ep mq eq=false:=by rw [hsw];simp [sw]
       simp only [hs,Bool.false_eq_true,if_false] at hm ⊢
       exact sum_first_is dir la lb eb.1 ea.2 (by omega) (fun h=>na z1 (by omega)) (fun h=>by omega) hm
theorem mulF_is (dir:Int) {u:Nat} (hu:u=1073) {a b:Nat} (ha:a<18446744073709551616) (hb:b<18446744073709551616) (fa:finB a=true) (fb:finB b=true) (za:splitM a≠0) (zb:splitM b≠0) :
   IsRnd (exQ (V (key a)*V (key b)) (2^u)) dir (key (mulF a b dir)):=by
 have ea:=splitE_bounds fa
 have eb:=splitE_bounds fb
 have la:=splitM_lt a
 have lb:=splitM_lt b
 have hm:=prodM_lt za zb (show splitM a<18446744073709551616 by omega) (show splitM b<18446744073709551616 by omega)
 have ta:=topN_bounds za (by omega)
 have tb:=topN_bounds zb (by omega)
 rw [signed_val ha fa,signed_val hb fb]
 unfold mulF
 generalize splitG a=gp at *
 generalize splitG b=gq at *
 generalize splitM a=mp at *
 generalize splitM b=mq at *
 generalize splitE a=ep at *
 generalize splitE b=eq at *
 obtain⟨P,hP⟩:∃P:Nat,(P:Int)=ep+1074:=⟨(ep+1074).toNat,by omega⟩
 obtain⟨Q,hQ⟩:∃Q:Nat,(Q:Int)=eq+1074:=⟨(eq+1074).toNat,by omega⟩
 have tP:(ep+1074).toNat=P:=by omega
 have tQ:(eq+1074).toNat=Q:=by omega
 rw [tP,tQ]
 obtain⟨a1,a2⟩:=prod_abs (Ap:=mp*2^P) (Aq:=mq*2^Q) (gp:=gp) (gq:=gq)
 generalize (if gp then -((mp*2^P:Nat):Int) else (mp*2^P:Nat))*(if gq then -((mq*2^Q:Nat):Int) else (mq*2^Q:Nat))=N at *
 have sp:=shift_le mp
 have sq:=shift_le mq
 have hT:topN mp*topN mq*2^(P+Q)=(mp*2^P*(mq*2^Q))*2^(shiftN mp+shiftN mq):=by
   rw [top_eq,top_eq,Nat.pow_add,Nat.pow_add]
   simp only [Nat.mul_comm,Nat.mul_left_comm,Nat.mul_assoc]
 have hmid:∀h:Nat,h*2^(u+shiftN mp+shiftN mq)=h*2^u*2^(shiftN mp+shiftN mq):=fun h=>by
   rw [Nat.add_assoc,Nat.pow_add,←Nat.mul_assoc]
 have big:36028797018963968≤topN mp*topN mq/18446744073709551616:=by
   rw [Nat.le_div_iff_mul_le (by omega)]
   exact Nat.le_trans (by omega) (Nat.mul_le_mul ta.1 tb.1)
 have hz:prodM mp mq≠0:=by
   intro h
   rcases mark_near (topN mp*topN mq) 18446744073709551616 (by omega) (show prodM mp mq=_ from rfl) with ⟨-,e⟩ | ⟨-,e, -⟩
   · rw [h,Nat.zero_mul] at e
     have:=Nat.mul_le_mul ta.1 tb.1
     omega
   · omega
 have d64:(18446744073709551616:Nat)=2^64:=rfl
 have hT2:topN mp*topN mq*2^(P+Q+64)=(mp*2^P*(mq*2^Q))*2^(shiftN mp+shiftN mq)*18446744073709551616:=by
   rw [Nat.pow_add 2 (P+Q) 64,←Nat.mul_assoc,hT]
 refine round_is (exQ_ok N (Nat.two_pow_pos u)) dir hm (by unfold prodE;omega) (fun h0=>absurd h0 hz) ?_ (fun _=>near_of (T:=topN mp*topN mq) (D:=18446744073709551616) (a:=u+shiftN mp+shiftN mq) (b:=P+Q+64) (by omega) (by unfold prodE;omega) (fun h=>?_) (fun h=>?_) rfl (fun _=>big))
 · cases h:(gp != gq)
   · rw [h] at a2;simpa [exQ] using a2
   · rw [h] at a2;simpa [exQ] using a2
 · rw [(amt_Q a2 h).1,a1,hT2,hmid,d64,mul_two_pow_le,mul_two_pow_le]
 · rw [(amt_Q a2 h).2,a1,hT2,hmid,d64,mul_two_pow_eq,mul_two_pow_eq]
end Go.Proofs.YtlabmpngbcnhpaaGreat
namespace Go.Proofs.YtlabmpngbcnhpaaGreat
open Go.ChangeShapes Go.WideShapes Go.ChangeAt Go.RowKit
theorem tdiv2 (a:Int):a=2*a.tdiv 2+a.tmod 2∧(0≤a→0≤a.tmod 2∧a.tmod 2≤1)∧(a<0→-1≤a.tmod 2∧a.tmod 2≤0):=by
 refine⟨(Int.mul_tdiv_add_tmod a 2).symm,fun h=>?_,fun h=>?_⟩
 · have h1:=Int.tmod_nonneg 2 h
   have h2:=Int.tmod_lt_of_pos a (show (0:Int)<2 by omega)
   omega
 · have h1:=Int.tmod_nonneg 2 (show 0≤-a by omega)
   have h2:=Int.tmod_lt_of_pos (-a) (show (0:Int)<2 by omega)
   rw [Int.neg_tmod] at h1 h2
   omega
theorem mid_facts {lo hi:Int} (h:lo<hi):lo<lo.tdiv 2+hi.tdiv 2+(lo.tmod 2+hi.tmod 2+1).tdiv 2∧lo.tdiv 2+hi.tdiv 2+(lo.tmod 2+hi.tmod 2+1).tdiv 2≤hi∧-1≤(lo.tmod 2+hi.tmod 2+1).tdiv 2∧(lo.tmod 2+hi.tmod 2+1).tdiv 2≤1:=by
 obtain⟨a1,a2,a3⟩:=tdiv2 lo
 obtain⟨b1,b2,b3⟩:=tdiv2 hi
 obtain⟨c1,c2,c3⟩:=tdiv2 (lo.tmod 2+hi.tmod 2+1)
 generalize lo.tdiv 2=qa at *
 generalize hi.tdiv 2=qb at *
 generalize lo.tmod 2=ra at *
 generalize hi.tmod 2=rb at *
 generalize (ra+rb+1).tdiv 2=u at *
 generalize (ra+rb+1).tmod 2=v at *
 omega
theorem NumZ.halves {w:World} {x:Value} {z:Int} (h:NumZ (-1074) 971 53 w x z):NumZ (-1075) 1024 3000 w x (2*z):=by
 have:=(h.scale (S':=-1075) (t:=1) (by omega)).wide (T':=1024) (K':=3000) (by omega) (by omega)
 rw [show 2*z=z*((2^1:Nat):Int) by simp;omega]
 exact this
theorem ofKey_facts {M:Int} (h:-9218868437227405311≤M∧M≤9218868437227405311):ofKey M<18446744073709551616∧finB (ofKey M)=true∧key (ofKey M)=M:=by
 unfold ofKey finB key
 by_cases c:M<0
 · rw [if_pos c]
   refine⟨by omega,by simp;omega, ?_⟩
   rw [if_neg (by omega)]
   omega
 · rw [if_neg c]
   refine⟨by omega,by simp;omega, ?_⟩
   rw [if_pos (by omega)]
   omega
set_option maxHeartbeats 1000000 in
theorem down_w (x:Value) (X:Ex) (w:World) (hx:XIs w x X) :
   Calls Tryz.prog 133 #[x] w fun e w'=>(∃k,e=.returned (.int .i64 k)∧KDown X k)∧Below w.heap.size w w':=by
 have hx':=hx
 obtain⟨ga,ao,la,ca',ea,gb,bo,lb,cb,eb,root,rfl, -⟩:=hx'
 go_enter Tryz.func133,Tryz.ntmps133
 go_wp2
 go_loopg [3,4,5] 18446744073709551616 (fun G s3 s4 _ wx=>Below w.heap.size w wx∧Has7 wx w.heap.size (.bool ga) (.slice ao la ca') (.int .i64 ea) (.bool gb) (.slice bo lb cb) (.int .i64 eb) (.bool root) ∧
   ∃lo hi:Int,s3=.int .i64 lo∧s4=.int .i64 hi∧-9218868437227405312≤lo∧hi≤9218868437227405311∧lo≤hi∧hi-lo<G∧Hid (lo=-9218868437227405312∨X.le (2*V lo))∧Hid (hi=9218868437227405311∨¬X.le (2*V (hi+1))))
 case atStart=>exact⟨by go_grown,⟨by go_simp,by go_simp,by go_simp,by go_simp,by go_simp,by go_simp,by go_simp,by go_size⟩, -9218868437227405312,9218868437227405311,rfl,rfl,by omega,by omega,by omega,by omega,Or.inl rfl,Or.inl rfl⟩
 case round =>
   obtain⟨HB,Y,lo,hi,rfl,rfl,b1,b2,b3,bG,low,up⟩:=hrel
   by_cases hlh:lo<hi
   · obtain⟨m1,m2,m3,m4⟩:=mid_facts hlh
     obtain⟨t1,t2,t3⟩:=tdiv2 lo
     obtain⟨t4,t5,t6⟩:=tdiv2 hi
     obtain⟨qa,e1⟩:∃q,lo.tdiv 2=q:=⟨_,rfl⟩
     obtain⟨qb,e2⟩:∃q,hi.tdiv 2=q:=⟨_,rfl⟩
     obtain⟨ra,e3⟩:∃q,lo.tmod 2=q:=⟨_,rfl⟩
     obtain⟨rb,e4⟩:∃q,hi.tmod 2=q:=⟨_,rfl⟩
     rw [e1,e2,e3,e4] at m1 m2
     rw [e3,e4] at m3 m4
     rw [e1,e3] at t1
     rw [e3] at t2 t3
     rw [e2,e4] at t4
     rw [e4] at t5 t6
     obtain⟨u,e5⟩:∃q,(ra+rb+1).tdiv 2=q:=⟨_,rfl⟩
     rw [e5] at m1 m2 m3 m4
     obtain⟨M,hM⟩:∃q,qa+qb+u=q:=⟨_,rfl⟩
     rw [hM] at m1 m2
     have r1:-1≤ra∧ra≤1:=by omega
     have r2:-1≤rb∧rb≤1:=by omega
     have q1:-4609434218613702656≤qa∧qa≤4609434218613702656:=by omega
     have q2:-4609434218613702656≤qb∧qb≤4609434218613702656:=by omega
     have HM:¬M≤lo:=by omega
     have hMb:-9218868437227405311≤M∧M≤9218868437227405311:=by omega
     have HG:Hid (hi-lo<(gk:Int)):=bG
     clear t1 t2 t3 t4 t5 t6 bG
     go_upto_region 7 with fail
     obtain⟨k1,k2,k3⟩:=ofKey_facts hMb
     have ca:=fun w=>at_w M (by omega) (by omega) w
     have cf:=fun w=>float_z (ofKey M) k1 k2 w
     rw [k3] at cf
     generalize ofKey M=F at *
     replace Y:=Y.drew
     replace HB:=HB.drew
     go_region_held3 (fun w'=>w'.cell? ⟨w.heap.size,0,none⟩=some (.bool ga)∧w'.cell? ⟨w.heap.size,1,none⟩=some (.slice ao la ca')∧w'.cell? ⟨w.heap.size,2,none⟩=some (.int .i64 ea)∧w'.cell? ⟨w.heap.size,3,none⟩=some (.bool gb)∧w'.cell? ⟨w.heap.size,4,none⟩=some (.slice bo lb cb)∧w'.cell? ⟨w.heap.size,5,none⟩=some (.int .i64 eb)∧w'.cell? ⟨w.heap.size,6,none⟩=some (.bool root)) (first | exact⟨Y.1,Y.2.1,Y.2.2.1,Y.2.2.2.1,Y.2.2.2.2.1,Y.2.2.2.2.2.1,Y.2.2.2.2.2.2.1⟩ | go_keep)
       (first
         | (go_at_call 131;refine (ca _).mono ?_;rintro _ _ ⟨rfl,rfl⟩)
         | (go_at_call 62;refine (cf _).mono ?_;rintro _ w2 ⟨⟨v,rfl,hv⟩,hb1⟩;replace Y:=Y.keep hb1;replace HB:=later HB hb1;clear hb1)
         | (go_at_call 136;refine (below_x hv.halves (hx.keep HB)).mono ?_;rintro _ w3 ⟨⟨b,rfl,hbt⟩,hb1⟩;replace Y:=Y.keep hb1;replace HB:=later HB hb1;clear hb1))
     all_goals
       have HT:Hid _:=hbt
       clear hbt
       have hG:=HG.out
       cases b
       · go_wp2_with fail
         go_roundg (gk-1)
         case measure=>omega
         case rel=>exact⟨HB,Y,lo,M-1,rfl,by go_num,b1,by omega,by omega,by omega,low,Or.inr (by rw [Int.sub_add_cancel];have:=HT.out;simpa using this)⟩
       · go_wp2_with fail
         go_roundg (gk-1)
         case measure=>omega
         case rel=>exact⟨HB,Y,M,hi,rfl,rfl,by omega,b2,m2,by omega,Or.inr (by have:=HT.out;simpa using this),up⟩
   · have:lo=hi:=by omega
     subst this
     have hk:KDown X lo:=⟨b1,b2,low.out,up.out⟩
     go_wp2_with fail
     go_ret
     exact⟨⟨_,rfl,hk⟩,HB⟩
theorem NumZ.put {S T:Int} {K:Nat} {w:World} {x:Value} {z:Int} (h:NumZ S T K w x z) {b:Nat} (hb:Boxed w b) (o:Nat) (y:Value):NumZ S T K (w.setCell ⟨b,o,none⟩ y) x z:=by
 obtain⟨g,v,m,e,h1,h2,h3⟩:=h
 exact⟨g,v,m,e,h1,h2.put hb o y,h3⟩
theorem val_top {u:Nat} (hu:u=2046):val 9218868437227405312=2^(52+u):=by
 unfold val
 rw [if_neg (by omega),show 9218868437227405312/4503599627370496-1=2046 from rfl,←hu,show 4503599627370496+9218868437227405312%4503599627370496=2^52 from rfl,←Nat.pow_add]
theorem V_top {t:Nat} (ht:t=2098):V 9218868437227405312=((2^t:Nat):Int):=by
 obtain⟨u,hu⟩:∃u:Nat,u=2046:=⟨_,rfl⟩
 have h:=V_nat 9218868437227405312
 rw [show ((9218868437227405312:Nat):Int)=9218868437227405312 from rfl,val_top hu] at h
 rw [h,show t=52+u by omega]
theorem V_bot {t:Nat} (ht:t=2098):V (-9218868437227405312)=-((2^t:Nat):Int):=by
 rw [V_neg,V_top ht]
set_option maxHeartbeats 1000000 in
theorem grid_z (i:Int) (h:-9218868437227405312≤i∧i≤9218868437227405312) (w:World) :
   Calls Tryz.prog 135 #[.int .i64 i] w fun r w'=>(∃v,r=.returned v∧NumZ (-1074) 1024 53 w' v (V i))∧Below w.heap.size w w':=by
 have co:=fun w=>of_w 1 (by omega) w
 by_cases h1:9218868437227405311<i
 · have:i=9218868437227405312:=by omega
   subst this
   obtain⟨t,ht⟩:∃t:Nat,t=2098:=⟨_,rfl⟩
   have hV:=V_top ht
   generalize V 9218868437227405312=Z at *
   have HV:Hid _:=hV
   have HT:Hid (t=2098):=ht
   clear hV h1 ht
   go_enter Tryz.func135,Tryz.ntmps135
   go_wp2_with
    (go_at_call 90;refine (co _).mono ?_;rintro _ w6 ⟨⟨v3,rfl,hv3⟩,hb6⟩
     obtain⟨o3,l3,p3,rfl, -⟩:=hv3.shape
     have R:Has3 w6 w.heap.size (.bool false) (.slice none 0 0) (.int .i64 0):=Has3.keep ⟨by go_simp,by go_simp,by go_simp,by go_simp,by go_simp,by go_simp,by go_size⟩ hb6
     have B:=(Boxed.new w #[.bool false,.slice none 0 0,.int .i64 0]).keep hb6
     have HB:Below w.heap.size w w6:=later (by go_grown) hb6
     obtain⟨z0,z1,z2,z3,z4,z5,z6⟩:=R)
   refine bodyPost_ret (v:=.agg #[.bool false,.slice o3 l3 p3,.int .i64 1024]) (by simp [results,Tryz.results135,go_sem, *]) rfl ⟨⟨_,rfl,false,_,1,1024,rfl, ?_,by omega,by omega,by omega, ?_⟩, ?_⟩
   rotate_left
   · rw [HV.out,Nat.one_mul,show (1024 - -1074:Int).toNat=t by rw [HT.out];rfl];rfl
   all_goals repeat' (first | (with_reducible exact hv3) | (with_reducible exact HB) | (with_reducible exact B) | (with_reducible refine BigIs.put ?_ ?_ _ _) | (with_reducible refine Boxed.set ?_ _ _ _) | (with_reducible refine Below.setCell ?_ ?_ _) | go_size)
 · by_cases h2:i < -9218868437227405311
   · have:i=-9218868437227405312:=by omega
     subst this
     obtain⟨t,ht⟩:∃t:Nat,t=2098:=⟨_,rfl⟩
     have hV:=V_bot ht
     generalize V (-9218868437227405312)=Z at *
     have HV:Hid _:=hV
     have HT:Hid (t=2098):=ht
     clear hV h1 h2 ht
     go_enter Tryz.func135,Tryz.ntmps135
     go_wp2_with
      (go_at_call 90;refine (co _).mono ?_;rintro _ w6 ⟨⟨v3,rfl,hv3⟩,hb6⟩
       obtain⟨o3,l3,p3,rfl, -⟩:=hv3.shape
       have R:Has3 w6 w.heap.size (.bool false) (.slice none 0 0) (.int .i64 0):=Has3.keep ⟨by go_simp,by go_simp,by go_simp,by go_simp,by go_simp,by go_simp,by go_size⟩ hb6
       have B:=(Boxed.new w #[.bool false,.slice none 0 0,.int .i64 0]).keep hb6
       have HB:Below w.heap.size w w6:=later (by go_grown) hb6
       obtain⟨z0,z1,z2,z3,z4,z5,z6⟩:=R)
     refine bodyPost_ret (v:=.agg #[.bool true,.slice o3 l3 p3,.int .i64 1024]) (by simp [results,Tryz.results135,go_sem, *]) rfl ⟨⟨_,rfl,true,_,1,1024,rfl, ?_,by omega,by omega,by omega, ?_⟩, ?_⟩
     rotate_left
     · rw [HV.out,Nat.one_mul,show (1024 - -1074:Int).toNat=t by rw [HT.out];rfl];rfl
     all_goals repeat' (first | (with_reducible exact hv3) | (with_reducible exact HB) | (with_reducible exact B) | (with_reducible refine BigIs.put ?_ ?_ _ _) | (with_reducible refine Boxed.set ?_ _ _ _) | (with_reducible refine Below.setCell ?_ ?_ _) | go_size)
   · obtain⟨k1,k2,k3⟩:=ofKey_facts (M:=i) (by omega)
     have ca:=fun w=>at_w i (by omega) (by omega) w
     have cf:=fun w=>float_z (ofKey i) k1 k2 w
     rw [k3] at cf
     generalize ofKey i=F at *
     go_enter Tryz.func135,Tryz.ntmps135
     go_wp2_with (first
       | (go_at_call 131;refine (ca _).mono ?_;rintro _ _ ⟨rfl,rfl⟩)
       | (go_at_call 62;refine (cf _).mono ?_;rintro _ w6 ⟨⟨v3,rfl,hv3⟩,hb6⟩
          obtain⟨g3,o3,l3,p3,e3,rfl⟩:=hv3.shape
          have R:Has3 w6 w.heap.size (.bool false) (.slice none 0 0) (.int .i64 0):=Has3.keep ⟨by go_simp,by go_simp,by go_simp,by go_simp,by go_simp,by go_simp,by go_size⟩ hb6
          have B:=(Boxed.new w #[.bool false,.slice none 0 0,.int .i64 0]).keep hb6
          have HB:Below w.heap.size w w6:=later (by go_grown) hb6
          obtain⟨z0,z1,z2,z3,z4,z5,z6⟩:=R))
     refine bodyPost_ret (v:=.agg #[.bool g3,.slice o3 l3 p3,.int .i64 e3]) (by simp [results,Tryz.results135,go_sem, *]) rfl ⟨⟨_,rfl, ?_⟩, ?_⟩
     · refine NumZ.wide ?_ (by omega) (Nat.le_refl 53) (T:=971)
       repeat' (first | (with_reducible exact hv3) | (with_reducible exact B) | (with_reducible refine NumZ.put ?_ ?_ _ _) | (with_reducible refine Boxed.set ?_ _ _ _))
     · repeat' (first | (with_reducible exact HB) | (with_reducible refine Below.setCell ?_ ?_ _) | go_size)
end Go.Proofs.YtlabmpngbcnhpaaGreat
