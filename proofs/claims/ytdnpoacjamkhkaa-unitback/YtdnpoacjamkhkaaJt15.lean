/- The reference's numbers between two, the model: sums, products, cuts, quotients, roots, series as functions of exact numbers; the walks of Sum, Product, Order and Minus by it. -/
import Derived.Test.YtdnpoacjamkhkaaJt12
namespace Go.Proofs.Ytdnpoacjamkhkaa
open Go.ChangeShapes Go.WideShapes Go.ChangeAt Go.RowKit
structure Nm where
 g:Bool
 m:Nat
 e:Int
def Sm (a:Nm):Prop:=a.m<2^2000∧-5000≤a.e∧a.e≤5000
def sumX (a b:Nm):Nm :=
 if a.m=0 then b else if b.m=0 then a else
 if a.g=b.g then ⟨a.g,a.m*2^(a.e-min a.e b.e).toNat+b.m*2^(b.e-min a.e b.e).toNat,min a.e b.e⟩
 else if a.m*2^(a.e-min a.e b.e).toNat=b.m*2^(b.e-min a.e b.e).toNat then ⟨false,0,0⟩
 else if b.m*2^(b.e-min a.e b.e).toNat<a.m*2^(a.e-min a.e b.e).toNat then ⟨a.g,a.m*2^(a.e-min a.e b.e).toNat-b.m*2^(b.e-min a.e b.e).toNat,min a.e b.e⟩
 else ⟨b.g,b.m*2^(b.e-min a.e b.e).toNat-a.m*2^(a.e-min a.e b.e).toNat,min a.e b.e⟩
def prodX (a b:Nm):Nm:=if a.m*b.m=0 then ⟨false,0,0⟩ else ⟨a.g != b.g,a.m*b.m,a.e+b.e⟩
def NI (w:World) (v:Value) (a:Nm):Prop:=∃s,v=.agg #[.bool a.g,s,.int .i64 a.e]∧BigIs w s a.m
theorem NI.keep {w w':World} {v:Value} {a:Nm} (h:NI w v a) (hb:Below w.heap.size w w'):NI w' v a:=by
 obtain⟨s,h1,h2⟩:=h
 exact⟨s,h1,h2.keep hb⟩
theorem NI.shape {w:World} {v:Value} {a:Nm} (h:NI w v a):∃ao l ca,v=.agg #[.bool a.g,.slice ao l ca,.int .i64 a.e]∧(l=0↔a.m=0)∧BigIs w (.slice ao l ca) a.m:=by
 obtain⟨s,h1,h2⟩:=h
 obtain⟨ao,l,ca,rfl,hl⟩:=h2.shape
 exact⟨ao,l,ca,h1,hl,h2⟩
theorem prod_m {w:World} {x y:Value} {a b:Nm} (ha:NI w x a) (hb:NI w y b) (sa:Sm a) (sb:Sm b) :
   Calls Try.prog 46 #[x,y] w fun r w'=>(∃v,r=.returned v∧NI w' v (prodX a b))∧Below w.heap.size w w':=by
 obtain⟨s,rfl,a2⟩:=ha
 obtain⟨t,rfl,b2⟩:=hb
 obtain⟨g,m,e⟩:=a
 obtain⟨h,n,f⟩:=b
 obtain⟨p1,p2,p3⟩:=sa
 obtain⟨q1,q2,q3⟩:=sb
 simp only at *
 refine (prod_w g h s t m n 2000 e f (by omega) p1 q1 (by omega) (by omega) w a2 b2).mono ?_
 rintro _ w' ⟨⟨s',v',E,rfl,hv,z1,z2⟩,hb⟩
 refine⟨⟨_,rfl, ?_⟩,hb⟩
 unfold prodX
 by_cases c:m*n=0
 · obtain⟨rfl,rfl⟩:=z1 c
   rw [if_pos c]
   rw [c] at hv
   exact⟨v',rfl,hv⟩
 · obtain⟨rfl,rfl⟩:=z2 c
   rw [if_neg c]
   exact⟨v',rfl,hv⟩
theorem sum_m {w:World} {x y:Value} {a b:Nm} (ha:NI w x a) (hb:NI w y b) (sa:Sm a) (sb:Sm b) :
   Calls Try.prog 45 #[x,y] w fun r w'=>(∃v,r=.returned v∧NI w' v (sumX a b))∧Below w.heap.size w w':=by
 have ha':=ha
 have hb':=hb
 obtain⟨s,rfl,a2⟩:=ha
 obtain⟨t,rfl,b2⟩:=hb
 obtain⟨g,m,e⟩:=a
 obtain⟨h,n,f⟩:=b
 obtain⟨p1,p2,p3⟩:=sa
 obtain⟨q1,q2,q3⟩:=sb
 obtain⟨K,hK⟩:∃K,K=2000:=⟨_,rfl⟩
 rw [←hK] at p1 q1
 unfold sumX
 simp only at *
 by_cases m0:m=0
 · subst m0
   rw [if_pos rfl]
   refine (sum_zero_a g h s t n e f w a2 b2).mono ?_
   rintro _ w' ⟨rfl,hb⟩
   exact⟨⟨_,rfl,hb'.keep hb⟩,hb⟩
 · rw [if_neg m0]
   by_cases n0:n=0
   · subst n0
     rw [if_pos rfl]
     refine (sum_zero_b g h s t m e f m0 w a2 b2).mono ?_
     rintro _ w' ⟨rfl,hb⟩
     exact⟨⟨_,rfl,ha'.keep hb⟩,hb⟩
   · rw [if_neg n0]
     clear ha' hb'
     have cl:=fun W (hW:Below w.heap.size w W)=>level_w g h s t m n K e f (by omega) p1 q1 (by omega) (by omega) W (a2.keep hW) (b2.keep hW)
     obtain⟨ao,l,ca,rfl,hl⟩:=a2.shape
     obtain⟨bo,k,cc,rfl,hk⟩:=b2.shape
     have hl0:((l:Int)==0)=false:=by rw [beq_eq_false_iff_ne];intro c;exact m0 (hl.1 (by omega))
     have hk0:((k:Int)==0)=false:=by rw [beq_eq_false_iff_ne];intro c;exact n0 (hk.1 (by omega))
     obtain⟨J,hJ⟩:∃J:Nat,J=10001:=⟨_,rfl⟩
     have P1:m*2^(e-min e f).toNat<2^(K+J):=pow_scale p1 (by omega)
     have P2:n*2^(f-min e f).toNat<2^(K+J):=pow_scale q1 (by omega)
     have hL2:K+J≤1000000:=by omega
     generalize K+J=L at *
     clear hJ hK
     generalize m*2^(e-min e f).toNat=A at *
     generalize n*2^(f-min e f).toNat=B at *
     generalize min e f=E at *
     by_cases hgh:g=h
     · rw [if_pos hgh]
       refine (sum_same g h ao bo l k ca cc A B e f E w hl0 hk0 cl (A+B) (fun W v1 v2 r1 r2=>plus_w v1 v2 A B L hL2 P1 P2 W r1 r2) hgh).mono ?_
       rintro _ w' ⟨⟨v',rfl,hv⟩,hb⟩
       exact⟨⟨_,rfl,v',rfl,hv⟩,hb⟩
     · rw [if_neg hgh]
       have hgh':(g==h)=false:=by cases g <;> cases h <;> simp at hgh ⊢
       have cm:=fun W v1 v2 r1 r2=>cmp_w v1 v2 A B L hL2 P1 P2 W r1 r2
       rcases Nat.lt_trichotomy A B with c | c | c
       · rw [if_neg (by omega),if_neg (by omega)]
         refine (sum_lt g h ao bo l k ca cc A B e f E w hl0 hk0 cl (B-A) (fun W v1 v2 r1 r2=>less_w v2 v1 B A L hL2 P2 (by omega) W r2 r1) _ cm hgh' (cmpN_lt c)).mono ?_
         rintro _ w' ⟨⟨v',rfl,hv⟩,hb⟩
         exact⟨⟨_,rfl,v',rfl,hv⟩,hb⟩
       · rw [if_pos c]
         refine (sum_eq g h ao bo l k ca cc A B e f E w hl0 hk0 cl _ cm hgh' (cmpN_eq c)).mono ?_
         rintro _ w' ⟨⟨v',rfl,hv⟩,hb⟩
         exact⟨⟨_,rfl,v',rfl,hv⟩,hb⟩
       · rw [if_neg (by omega),if_pos c]
         refine (sum_gt g h ao bo l k ca cc A B e f E w hl0 hk0 cl (A-B) (fun W v1 v2 r1 r2=>less_w v1 v2 A B L hL2 P1 (by omega) W r1 r2) _ cm hgh' (cmpN_gt c)).mono ?_
         rintro _ w' ⟨⟨v',rfl,hv⟩,hb⟩
         exact⟨⟨_,rfl,v',rfl,hv⟩,hb⟩
end Go.Proofs.Ytdnpoacjamkhkaa
