/- The reference's numbers between two, the model: sums, products, cuts, quotients, roots, series as functions of exact numbers; the walks of Sum, Product, Order and Minus by it. The reference's Right: what is whole of a number by a power of 2; cut, pair. The walks of the reference's Index and At. Plain facts on the program's rounding, whatever is rounded: its three sides stand in order, no more than neighbours apart. Plain facts: what the program rounds an amount to is what the document asks for, of any exact amount that the parts stand for. Plain facts: numbers with signs, rounded down: the place of the greatest float that is not above; the greater the number, the greater the place. Plain arithmetic of a long division by two digits of 32 bits (no Go text is spoken of here). The walk of math/bits' Div64, of a divisor whose first bit is set: quotient and rest of two words by one. The walk of rootOfWords: the whole part of the root of a word times 2^64. -/
import Derived.Test.YtopfabemfbdccaaGreatZe06
import Derived.Test.YtopfabemfbdccaaGreatZe02
import Derived.WalkKit
import Derived.Deep.CutBlock
import Derived.Deep.CutRange
import Derived.Deep.LoopGhost
namespace Go.Proofs.YtopfabemfbdccaaGreat
open Go.ChangeShapes Go.WideShapes Go.ChangeAt Go.RowKit
structure Nm where
 g:Bool
 m:Nat
 e:Int
def Sm (a:Nm):Prop:=a.m<2^2000∧-5000≤a.e∧a.e≤5000
def smB (a:Nm):Bool:=decide (a.m<2^2000)&&(decide (-5000≤a.e)&&decide (a.e≤5000))
theorem sm_of {a:Nm} (h:smB a=true):Sm a:=by
 unfold smB at h
 simp only [Bool.and_eq_true,decide_eq_true_eq] at h
 exact⟨h.1,h.2.1,h.2.2⟩
def sumX (a b:Nm):Nm :=
 if a.m=0 then b else if b.m=0 then a else
 if a.g=b.g then ⟨a.g,a.m*2^(a.e-min a.e b.e).toNat+b.m*2^(b.e-min a.e b.e).toNat,min a.e b.e⟩
 else if a.m*2^(a.e-min a.e b.e).toNat=b.m*2^(b.e-min a.e b.e).toNat then ⟨false,0,0⟩
 else if b.m*2^(b.e-min a.e b.e).toNat<a.m*2^(a.e-min a.e b.e).toNat then ⟨a.g,a.m*2^(a.e-min a.e b.e).toNat-b.m*2^(b.e-min a.e b.e).toNat,min a.e b.e⟩
 else ⟨b.g,b.m*2^(b.e-min a.e b.e).toNat-a.m*2^(a.e-min a.e b.e).toNat,min a.e b.e⟩
def prodX (a b:Nm):Nm:=if a.m*b.m=0 then ⟨false,0,0⟩ else ⟨a.g != b.g,a.m*b.m,a.e+b.e⟩
def minusX (a:Nm):Nm:=⟨!a.g&&decide (0<a.m),a.m,a.e⟩
def vz (a:Nm):Int:=sgnd a.g (a.m*2^(a.e - -5000).toNat)
def NI (w:World) (v:Value) (a:Nm):Prop:=∃s,v=.agg #[.bool a.g,s,.int .i64 a.e]∧BigIs w s a.m
theorem NI.keep {w w':World} {v:Value} {a:Nm} (h:NI w v a) (hb:Below w.heap.size w w'):NI w' v a:=by
 obtain⟨s,h1,h2⟩:=h
 exact⟨s,h1,h2.keep hb⟩
theorem NI.shape {w:World} {v:Value} {a:Nm} (h:NI w v a):∃ao l ca,v=.agg #[.bool a.g,.slice ao l ca,.int .i64 a.e]∧(l=0↔a.m=0)∧BigIs w (.slice ao l ca) a.m:=by
 obtain⟨s,h1,h2⟩:=h
 obtain⟨ao,l,ca,rfl,hl⟩:=h2.shape
 exact⟨ao,l,ca,h1,hl,h2⟩
theorem order_m {w:World} {x y:Value} {a b:Nm} (ha:NI w x a) (hb:NI w y b) (sa:Sm a) (sb:Sm b) :
   Calls Tryz.prog 39 #[x,y] w fun r w'=>r=.returned (.int .i64 (cmpZ (vz a) (vz b)))∧Below w.heap.size w w':=by
 obtain⟨s,rfl,a2⟩:=ha
 obtain⟨t,rfl,b2⟩:=hb
 obtain⟨g,m,e⟩:=a
 obtain⟨h,n,f⟩:=b
 obtain⟨p1,p2,p3⟩:=sa
 obtain⟨q1,q2,q3⟩:=sb
 simp only at *
 exact order_w g h s t m n 2000 e f (-5000) (by omega) p1 q1 (by omega) (by omega) (by omega) w a2 b2
theorem prod_m {w:World} {x y:Value} {a b:Nm} (ha:NI w x a) (hb:NI w y b) (sa:Sm a) (sb:Sm b) :
   Calls Tryz.prog 120 #[x,y] w fun r w'=>(∃v,r=.returned v∧NI w' v (prodX a b))∧Below w.heap.size w w':=by
 obtain⟨s,rfl,a2⟩:=ha
 obtain⟨t,rfl,b2⟩:=hb
 obtain⟨g,m,e⟩:=a
 obtain⟨h,n,f⟩:=b
 obtain⟨p1,p2,p3⟩:=sa
 obtain⟨q1,q2,q3⟩:=sb
 simp only at *
 refine (prod_w g h s t m n 2000 e f (by omega) p1 q1 (by omega) (by omega) w a2 b2).mono ?_
 rintro _ w' ⟨⟨s',v',E,rfl,hv,z1,z2⟩,hb⟩
 refine⟨⟨_,rfl, ?_⟩,hb⟩
 unfold prodX
 by_cases c:m*n=0
 · obtain⟨rfl,rfl⟩:=z1 c
   rw [if_pos c]
   rw [c] at hv
   exact⟨v',rfl,hv⟩
 · obtain⟨rfl,rfl⟩:=z2 c
   rw [if_neg c]
   exact⟨v',rfl,hv⟩
theorem sum_m {w:World} {x y:Value} {a b:Nm} (ha:NI w x a) (hb:NI w y b) (sa:Sm a) (sb:Sm b) :
   Calls Tryz.prog 86 #[x,y] w fun r w'=>(∃v,r=.returned v∧NI w' v (sumX a b))∧Below w.heap.size w w':=by
 have ha':=ha
 have hb':=hb
 obtain⟨s,rfl,a2⟩:=ha
 obtain⟨t,rfl,b2⟩:=hb
 obtain⟨g,m,e⟩:=a
 obtain⟨h,n,f⟩:=b
 obtain⟨p1,p2,p3⟩:=sa
 obtain⟨q1,q2,q3⟩:=sb
 obtain⟨K,hK⟩:∃K,K=2000:=⟨_,rfl⟩
 rw [←hK] at p1 q1
 unfold sumX
 simp only at *
 by_cases m0:m=0
 · subst m0
   rw [if_pos rfl]
   refine (sum_zero_a g h s t n e f w a2 b2).mono ?_
   rintro _ w' ⟨rfl,hb⟩
   exact⟨⟨_,rfl,hb'.keep hb⟩,hb⟩
 · rw [if_neg m0]
   by_cases n0:n=0
   · subst n0
     rw [if_pos rfl]
     refine (sum_zero_b g h s t m e f m0 w a2 b2).mono ?_
     rintro _ w' ⟨rfl,hb⟩
     exact⟨⟨_,rfl,ha'.keep hb⟩,hb⟩
   · rw [if_neg n0]
     clear ha' hb'
     have cl:=fun W (hW:Below w.heap.size w W)=>level_w g h s t m n K e f (by omega) p1 q1 (by omega) (by omega) W (a2.keep hW) (b2.keep hW)
     obtain⟨ao,l,ca,rfl,hl⟩:=a2.shape
     obtain⟨bo,k,cc,rfl,hk⟩:=b2.shape
     have hl0:((l:Int)==0)=false:=by rw [beq_eq_false_iff_ne];intro c;exact m0 (hl.1 (by omega))
     have hk0:((k:Int)==0)=false:=by rw [beq_eq_false_iff_ne];intro c;exact n0 (hk.1 (by omega))
     obtain⟨J,hJ⟩:∃J:Nat,J=10001:=⟨_,rfl⟩
     have P1:m*2^(e-min e f).toNat<2^(K+J):=pow_scale p1 (by omega)
     have P2:n*2^(f-min e f).toNat<2^(K+J):=pow_scale q1 (by omega)
     have hL2:K+J≤1000000:=by omega
     generalize K+J=L at *
     clear hJ hK
     generalize m*2^(e-min e f).toNat=A at *
     generalize n*2^(f-min e f).toNat=B at *
     generalize min e f=E at *
     by_cases hgh:g=h
     · rw [if_pos hgh]
       refine (sum_same g h ao bo l k ca cc A B e f E w hl0 hk0 cl (A+B) (fun W v1 v2 r1 r2=>plus_w v1 v2 A B L hL2 P1 P2 W r1 r2) hgh).mono ?_
       rintro _ w' ⟨⟨v',rfl,hv⟩,hb⟩
       exact⟨⟨_,rfl,v',rfl,hv⟩,hb⟩
     · rw [if_neg hgh]
       have hgh':(g==h)=false:=by cases g <;> cases h <;> simp at hgh ⊢
       have cm:=fun W v1 v2 r1 r2=>cmp_w v1 v2 A B L hL2 P1 P2 W r1 r2
       rcases Nat.lt_trichotomy A B with c | c | c
       · rw [if_neg (by omega),if_neg (by omega)]
         refine (sum_lt g h ao bo l k ca cc A B e f E w hl0 hk0 cl (B-A) (fun W v1 v2 r1 r2=>less_w v2 v1 B A L hL2 P2 (by omega) W r2 r1) _ cm hgh' (cmpN_lt c)).mono ?_
         rintro _ w' ⟨⟨v',rfl,hv⟩,hb⟩
         exact⟨⟨_,rfl,v',rfl,hv⟩,hb⟩
       · rw [if_pos c]
         refine (sum_eq g h ao bo l k ca cc A B e f E w hl0 hk0 cl _ cm hgh' (cmpN_eq c)).mono ?_
         rintro _ w' ⟨⟨v',rfl,hv⟩,hb⟩
         exact⟨⟨_,rfl,v',rfl,hv⟩,hb⟩
       · rw [if_neg (by omega),if_pos c]
         refine (sum_gt g h ao bo l k ca cc A B e f E w hl0 hk0 cl (A-B) (fun W v1 v2 r1 r2=>less_w v1 v2 A B L hL2 P1 (by omega) W r1 r2) _ cm hgh' (cmpN_gt c)).mono ?_
         rintro _ w' ⟨⟨v',rfl,hv⟩,hb⟩
         exact⟨⟨_,rfl,v',rfl,hv⟩,hb⟩
set_option maxHeartbeats 1000000 in
theorem minus_m {w:World} {x:Value} {a:Nm} (ha:NI w x a) :
   Calls Tryz.prog 142 #[x] w fun r w'=>(∃v,r=.returned v∧NI w' v (minusX a))∧Below w.heap.size w w':=by
 obtain⟨ao,l,ca,rfl,hl,a2⟩:=ha.shape
 obtain⟨g,m,e⟩:=a
 unfold minusX
 simp only at *
 have B:=Boxed.new w #[.bool g,.slice ao l ca,.int .i64 e]
 have X:Has3 (w.alloc (.cells #[.bool g,.slice ao l ca,.int .i64 e] 29)) w.heap.size (.bool g) (.slice ao l ca) (.int .i64 e):=⟨by go_simp,by go_simp,by go_simp,by go_simp,by go_simp,by go_simp,by go_size⟩
 have HB:Below w.heap.size w (w.alloc (.cells #[.bool g,.slice ao l ca,.int .i64 e] 29)):=by go_grown
 have a3:=a2
 replace a2:=a2.keep HB
 have e1:(!g&&decide (0<m))=(!g&&decide ((l:Int)>0)):=by
   by_cases c:m=0
   · have:l=0:=hl.2 c
     subst c this
     simp
   · have:l≠0:=fun q=>c (hl.1 q)
     rw [decide_eq_true (show 0<m by omega),decide_eq_true (show (l:Int)>0 by omega)]
 rw [e1]
 clear e1 hl ha
 obtain⟨x0,x1,x2,x3,x4,x5,xl⟩:=id X
 cases g
 all_goals
   go_enter Tryz.func142,Tryz.ntmps142
   go_wp2_with fail
 · refine bodyPost_ret (v:=.agg #[.bool (decide (0<l)),.slice ao l ca,.int .i64 e]) (by simp [results,Tryz.results142,go_sem, *]) rfl ⟨⟨_,rfl,.slice ao l ca,by simp,a3.keep (by go_grown)⟩,by go_grown⟩
 · refine bodyPost_ret (v:=.agg #[.bool false,.slice ao l ca,.int .i64 e]) (by simp [results,Tryz.results142,go_sem, *]) rfl ⟨⟨_,rfl,.slice ao l ca,by simp,a3.keep (by go_grown)⟩,by go_grown⟩
theorem natOf_drop {ds:List Nat} (h:Digs ds) (k:Nat):natOf ds/4294967296^k=natOf (ds.drop k):=by
 rcases Nat.lt_or_ge k ds.length with c | c
 · have e:=natOf_split ds k
   have l:=natOf_lt (h.take k)
   rw [List.length_take,Nat.min_eq_left (by omega)] at l
   rw [e,Nat.add_mul_div_left _ _ (Nat.pow_pos (by omega)),Nat.div_eq_of_lt l]
   omega
 · rw [List.drop_of_length_le c]
   have l:=natOf_lt h
   have:=Nat.pow_le_pow_right (show 4294967296>0 by omega) c
   exact Nat.div_eq_of_lt (by omega)
theorem natOf_drop_step (ds:List Nat) (k:Nat):natOf (ds.drop k)=ds.getD k 0+4294967296*natOf (ds.drop (k+1)):=by
 rcases Nat.lt_or_ge k ds.length with c | c
 · rw [List.drop_eq_getElem_cons c,List.getD_eq_getElem?_getD,List.getElem?_eq_getElem c]
   rfl
 · rw [List.drop_of_length_le c,List.drop_of_length_le (by omega),List.getD_eq_getElem?_getD,List.getElem?_eq_none c]
   rfl
theorem two_digs {x y T r:Nat} (hr:r<32):(x+4294967296*(y+4294967296*T))/2^r%4294967296=(x+4294967296*y)/2^r%4294967296:=by
 obtain⟨s,hs⟩:∃s,32=r+s:=⟨32-r,by omega⟩
 have e2:4294967296=2^r*2^s:=by rw [←Nat.pow_add,←hs]
 have:x+4294967296*(y+4294967296*T)=(x+4294967296*y)+2^r*(2^s*4294967296*T):=by
   have:4294967296*(4294967296*T)=2^r*(2^s*4294967296*T):=by
     have q:2^r*(2^s*4294967296*T)=2^r*2^s*(4294967296*T):=by simp only [Nat.mul_assoc]
     rw [q,←e2]
   rw [Nat.mul_add,this];omega
 rw [this,Nat.add_mul_div_left _ _ (Nat.two_pow_pos r)]
 have:2^s*4294967296*T=4294967296*(2^s*T):=by rw [Nat.mul_comm (2^s),Nat.mul_assoc]
 rw [this,Nat.add_mul_mod_self_left]
theorem right_step {ds os:List Nat} {i r o:Nat} (hd:Digs ds) (hr:r<32) (hl:os.length=i) (h:natOf os=natOf ds/2^r%4294967296^i) (ho:o=(ds.getD i 0+4294967296*ds.getD (i+1) 0)/2^r%4294967296):natOf (os++[o])=natOf ds/2^r%4294967296^(i+1):=by
 rw [natOf_append,hl,h,Nat.pow_succ,Nat.mod_mul]
 have e:natOf [o]=o:=by simp [natOf]
 rw [e]
 have:natOf ds/2^r/4294967296^i%4294967296=o:=by
   rw [Nat.div_div_eq_div_mul,Nat.mul_comm,←Nat.div_div_eq_div_mul,natOf_drop hd,natOf_drop_step,natOf_drop_step ds (i+1),two_digs hr,ho]
 rw [this]
theorem right_whole {ds:List Nat} {q r n:Nat} (hd:Digs ds) (hqr:n=32*q+r):natOf ds/2^n=natOf (ds.drop q)/2^r:=by
 rw [hqr,Nat.pow_add,←Nat.div_div_eq_div_mul,←pow32,natOf_drop hd]
theorem right_fin {ds os:List Nat} {r:Nat} (hd:Digs ds) (h:natOf os=natOf ds/2^r%4294967296^ds.length):natOf os=natOf ds/2^r:=by
 rw [h]
 apply Nat.mod_eq_of_lt
 have:=natOf_lt hd
 have:=Nat.div_le_self (natOf ds) (2^r)
 omega
set_option maxHeartbeats 2000000 in
theorem rshift_w (va:Value) (m n q r K:Nat) (hK:K≤1000000) (hm:m<2^K) (hn:n≤1000000) (hqr:n=32*q+r) (hr:r<32) (w:World) (ha:BigIs w va m) :
   Calls Tryz.prog 209 #[va,.int .i64 (n:Int)] w fun e w'=>(∃v',e=.returned v'∧BigIs w' v' (m/2^n))∧Below w.heap.size w w':=by
 obtain⟨ds,d1,d2,rfl,hra⟩:=ha
 have l1:=d2.len hm
 clear hm
 have hq:(n:Int)/32=(q:Int):=by omega
 have hr2:(n:Int)%32=(r:Int):=by omega
 rw [right_whole d1 hqr]
 have hqb:q≤1000000:=by omega
 clear hqr
 rcases Nat.lt_or_ge q ds.length with c | c
 · obtain⟨g,ca,rfl,hcap,hg,hc⟩:∃g cap,va=.slice (some ⟨g,0,none⟩) ds.length cap∧ds.length≤cap∧g<w.heap.size∧∀j,j<ds.length→w.cell? ⟨g,j,none⟩=some (.int .u32 (ds.getD j 0:Int)):=by
     rcases hra.form with ⟨-,h0⟩ | ⟨g,cap,h1,h2, -,h3,h4⟩
     · rw [h0] at c;simp at c
     · exact⟨g,cap,h1,h2,h3,h4⟩
   clear hra
   have hlt:¬(q:Int)≥(ds.length:Int):=by omega
   obtain⟨L,hL⟩:∃L,ds.length=q+L:=⟨ds.length-q,by omega⟩
   have dd:=d1.drop q
   have hcell:Hid (∀j,j<L→w.cell? ⟨g,q+j,none⟩=some (.int .u32 ((ds.drop q).getD j 0:Int))):=fun j hj=>by
     have:=hc (q+j) (by omega)
     rw [this]
     simp [List.getD_eq_getElem?_getD,List.getElem?_drop]
   have hlen:Hid ((ds.drop q).length=L):=by show _=_;rw [List.length_drop];omega
   clear hc d1 d2
   rw [hL] at hlt hcap ⊢
   have hcap2:q<ca:=by omega
   have hcap3:q≤ca:=by omega
   generalize ds.drop q=es at *
   have hLb:L≤1000000:=by omega
   clear hL l1
   go_enter Tryz.func209,Tryz.ntmps209
   go_wp2_with fail
   go_loopg [5,22] L (fun G s5 s22 wx=>Below w.heap.size w wx∧w.heap.size≤wx.heap.size∧∃(k:Nat) (os:List Nat),s22=.int .i64 (k:Int)∧k+G=L∧Hid (os.length=k)∧Digs os∧Own w.heap.size wx s5 os∧Hid (natOf os=natOf es/2^r%4294967296^k))
   case atStart=>exact⟨by go_grown,by go_size,0,[],rfl,by omega,rfl,Digs.nil,own_empty w,by show _=_;simp [natOf,Nat.mod_one]⟩
   case round =>
     obtain⟨hB,hS,k,os,rfl,hkG,hol,hod,hown,hval⟩:=hrel
     by_cases ka:k<L
     · have c1:=(hB.cell (by exact hg)).trans (hcell.out k ka)
       have hst:=fun o=>right_step (o:=o) dd hr hol.out hval.out
       have hD:=dd.getD k
       have hE:=dd.getD (k+1)
       have hc2:k+1<L→wr.cell? ⟨g,q+(k+1),none⟩=some (.int .u32 (es.getD (k+1) 0:Int)):=fun h=>(hB.cell (by exact hg)).trans (hcell.out (k+1) h)
       have hz:¬k+1<L→es.getD (k+1) 0=0:=fun h=>getD_ge es (by have:=hlen.out;omega)
       generalize es.getD k 0=D at *
       generalize es.getD (k+1) 0=E at *
       by_cases kb:k+1<L
       · have c2:=hc2 kb
         obtain⟨S,hS1⟩:∃S,S=E*4294967296:=⟨_,rfl⟩
         have hsh:IntKind.u64.wrap ((E:Int)*4294967296)=(S:Int):=by rw [hS1,IntKind.wrap_u64];omega
         have hor:bits .or .u64 (D:Int) (S:Int)=((D+S:Nat):Int):=by
           rw [u64_or_nat D S (by omega) (by omega),Nat.or_comm,nat_join 32 S D (by rw [hS1];omega) (by omega),Nat.add_comm]
         obtain⟨T,hT⟩:∃T,T=D+S:=⟨_,rfl⟩
         rw [←hT] at hor
         obtain⟨U,hU⟩:∃U,U=T/2^r:=⟨_,rfl⟩
         have hdv:(T:Int)/2^r=(U:Int):=by rw [hU];simp
         obtain⟨o,ho⟩:∃o,o=U%4294967296:=⟨_,rfl⟩
         have hw1:IntKind.u32.wrap (U:Int)=(o:Int):=by simp only [IntKind.wrap,IntKind.bits,IntKind.signed];simp;omega
         have hw2:(U:Int)%4294967296=(o:Int):=by omega
         have HST:Hid _:=hst o (by rw [ho,hU,hT,hS1,Nat.mul_comm E])
         have hol2:o<4294967296:=by omega
         have hlo:os.length≤2000000:=by rw [hol.out];omega
         have hTl:(T:Int)<18446744073709551616:=by omega
         have hUl:(U:Int)≤(T:Int):=by have:=Nat.div_le_self T (2^r);omega
         have kb2:(k:Int)+1<(L:Int):=by omega
         clear hst hval hz hc2 hS1 hT hU ho kb
         go_wp2_with (at_builtin;refine wpList_push (by rfl) _ _ (by rfl) _ os o (by rfl) (by rfl) hown hlo hS hB ?_;intro v' w' hown' hB' hS')
         go_roundg (gk-1)
         case measure=>omega
         case rel=>exact⟨hB',hS',k+1,os++[o],by go_num,by omega,by show _=_;rw [List.length_append,hol.out];rfl,hod.append (Digs.one hol2),hown',HST⟩
       · have hE0:=hz kb
         obtain⟨U,hU⟩:∃U,U=D/2^r:=⟨_,rfl⟩
         have hdv:(D:Int)/2^r=(U:Int):=by rw [hU];simp
         obtain⟨o,ho⟩:∃o,o=U%4294967296:=⟨_,rfl⟩
         have hw1:IntKind.u32.wrap (U:Int)=(o:Int):=by simp only [IntKind.wrap,IntKind.bits,IntKind.signed];simp;omega
         have hw2:(U:Int)%4294967296=(o:Int):=by omega
         have HST:Hid _:=hst o (by rw [ho,hU,hE0,Nat.mul_zero,Nat.add_zero])
         have hol2:o<4294967296:=by omega
         have hlo:os.length≤2000000:=by rw [hol.out];omega
         have hUl:(U:Int)≤(D:Int):=by have:=Nat.div_le_self D (2^r);omega
         have kb2:¬(k:Int)+1<(L:Int):=by omega
         clear hst hval hz hc2 hU ho kb hE0
         go_wp2_with (at_builtin;refine wpList_push (by rfl) _ _ (by rfl) _ os o (by rfl) (by rfl) hown hlo hS hB ?_;intro v' w' hown' hB' hS')
         go_roundg (gk-1)
         case measure=>omega
         case rel=>exact⟨hB',hS',k+1,os++[o],by go_num,by omega,by show _=_;rw [List.length_append,hol.out];rfl,hod.append (Digs.one hol2),hown',HST⟩
     · have hkL:k=L:=by omega
       have hv0:=hval.out
       rw [hkL,←hlen.out] at hv0
       have hfin:=right_fin (os:=os) (r:=r) dd hv0
       have HF:Hid (natOf os=natOf es/2^r):=hfin
       have hlo:os.length≤1000000:=by rw [hol.out];omega
       clear hfin hval
       go_wp2_with (go_at_call 147;refine (trim_w _ os hod hlo _ hown.row).mono ?_;rintro _ _ ⟨⟨v2,rfl,hv⟩,rfl⟩)
       rw [HF.out] at hv
       go_ret
       exact⟨⟨_,rfl,hv⟩,hB⟩
 · have e0:natOf (ds.drop q)=0:=by rw [List.drop_of_length_le c];rfl
   rw [e0,Nat.zero_div]
   have hge:(q:Int)≥(ds.length:Int):=by omega
   have ho:=own_empty w
   obtain⟨ao,ca,rfl,hca⟩:=hra.open_
   clear hca hra
   go_enter Tryz.func209,Tryz.ntmps209
   go_wp2_with fail
   go_ret
   exact⟨⟨_,rfl,[],Digs.nil,trimmed_nil,rfl,ho.row⟩,by go_grown⟩
theorem index_w (x:Nat) (hx:x<18446744073709551616) (w:World) :
   Calls Tryz.prog 42 #[.float .f64 x] w fun e w'=>e=.returned (.int .i64 (key x))∧w=w':=by
 unfold key
 by_cases h:x<9223372036854775808
 · have h':((x:Int)/9223372036854775808==1)=false:=by simp;omega
   rw [if_pos h]
   have hw:wrap64 (x:Int)=x:=by rw [wrap64];omega
   go_enter Tryz.func42,Tryz.ntmps42
   go_wp2
   all_goals (go_ret;exact⟨rfl,rfl⟩)
 · have h':((x:Int)/9223372036854775808==1)=true:=by simp;omega
   rw [if_neg h]
   go_enter Tryz.func42,Tryz.ntmps42
   go_wp2
   all_goals (go_ret;refine⟨?_,rfl⟩)
   all_goals
     show Ending.returned (Value.int IntKind.i64 _)=_
     congr 2
     omega
theorem at_w (i:Int) (h1:-9223372036854775807≤i) (h2:i≤9223372036854775807) (w:World) :
   Calls Tryz.prog 43 #[.int .i64 i] w fun e w'=>e=.returned (.float .f64 (ofKey i))∧w=w':=by
 unfold ofKey
 by_cases h:i<0
 · rw [if_pos h]
   go_enter Tryz.func43,Tryz.ntmps43
   go_wp2
   all_goals (go_ret;refine⟨?_,rfl⟩)
   all_goals
     show Ending.returned (Value.float FloatKind.f64 _)=_
     congr 2
     omega
 · rw [if_neg h]
   go_enter Tryz.func43,Tryz.ntmps43
   go_wp2
   all_goals (go_ret;exact⟨rfl,rfl⟩)
end Go.Proofs.YtopfabemfbdccaaGreat
namespace Go.Proofs.YtopfabemfbdccaaGreat
theorem keptN_lt {m d:Nat} (hm:m<18446744073709551616) (hd:11≤d):keptN m d≤9007199254740991:=by
 unfold keptN
 split
 · omega
 · have h1:m/2^d≤m/2^11:=Nat.div_le_div_left (Nat.pow_le_pow_right (by omega) hd) (Nat.two_pow_pos _)
   have h2:m/2^11<2^53:=Nat.div_lt_of_lt_mul (by rw [←Nat.pow_add];exact hm)
   omega
theorem goes_zero (k r:Nat):goesN k r 0=false:=rfl
theorem goes_mono {k r:Nat} (h:goesN k r 1=true):goesN k r 2=true:=by
 have h1:goesN k r 1=decide (9223372036854775808<r∨r=9223372036854775808∧k%2=1):=rfl
 have h2:goesN k r 2=decide (r≠0):=rfl
 rw [h1] at h
 rw [h2]
 simp only [decide_eq_true_eq] at h ⊢
 omega
theorem rung_sides (t:Nat) (e:Int) (ht:t<18446744073709551616) :
   ∃(r:Nat) (b1 b2:Bool),r≤9218868437227405311∧rungN t e 0=r∧rungN t e 1=r+b1.toNat∧rungN t e 2=r+b2.toNat∧(b1=true→b2=true):=by
 have hd11:11≤dropN e:=by unfold dropN;omega
 have hk:=keptN_lt (d:=dropN e) ht hd11
 by_cases h:971<e+dropN e
 · refine⟨9218868437227405311,true,true,by omega, ?_, ?_, ?_,fun _=>rfl⟩
   · have b:rungN t e 0=boundN 0:=by unfold rungN;exact if_pos h
     have c:boundN 0=9218868437227405311:=if_pos rfl
     omega
   · have b:rungN t e 1=boundN 1:=by unfold rungN;exact if_pos h
     have c:boundN 1=9218868437227405312:=if_neg (by decide)
     simp only [Bool.toNat_true];omega
   · have b:rungN t e 2=boundN 2:=by unfold rungN;exact if_pos h
     have c:boundN 2=9218868437227405312:=if_neg (by decide)
     simp only [Bool.toNat_true];omega
 · have hd:-1074≤e+dropN e:=by unfold dropN;omega
   refine⟨(e+dropN e+1074).toNat*4503599627370496+keptN t (dropN e),goesN (keptN t (dropN e)) (restN t (dropN e)) 1,goesN (keptN t (dropN e)) (restN t (dropN e)) 2,by omega, ?_, ?_, ?_,goes_mono⟩
   · have b:rungN t e 0=(e+dropN e+1074).toNat*4503599627370496+keptN t (dropN e)+(goesN (keptN t (dropN e)) (restN t (dropN e)) 0).toNat:=by unfold rungN;exact if_neg h
     rw [b,goes_zero,Bool.toNat_false,Nat.add_zero]
   · unfold rungN;exact if_neg h
   · unfold rungN;exact if_neg h
def SidesOK (d n u:Nat):Prop :=
 (nanB d=false∧nanB n=false∧nanB u=false)∧(d≠9223372036854775808∧n≠9223372036854775808∧u≠9223372036854775808) ∧
 (d<18446744073709551616∧n<18446744073709551616∧u<18446744073709551616)∧key d≤key n∧key n≤key u∧(key u=key d∨key u=key d+1)
theorem signN_facts (g:Bool) (r:Nat) (h:r≤9218868437227405312) :
   nanB (signN g r)=false∧signN g r≠9223372036854775808∧signN g r<18446744073709551616∧key (signN g r)=if g then -(r:Int) else r:=by
 unfold signN nanB key
 cases g
 · simp only [Bool.false_eq_true,if_false]
   refine⟨?_,by omega,by omega, ?_⟩
   · simp;omega
   · rw [if_pos (by omega)]
 · simp only [if_true]
   by_cases hz:r=0
   · subst hz;simp
   · rw [if_neg hz]
     refine⟨?_,by omega,by omega, ?_⟩
     · simp;omega
     · rw [if_neg (by omega)];omega
theorem roundN_facts (g:Bool) (m:Nat) (e dir:Int) (hm:m<18446744073709551616) :
   nanB (roundN g m e dir)=false∧roundN g m e dir≠9223372036854775808∧roundN g m e dir<18446744073709551616:=by
 unfold roundN
 by_cases h0:m=0
 · rw [if_pos h0];decide
 · rw [if_neg h0]
   have ht:=(topN_bounds h0 hm).2
   have hle:rungN (topN m) (clampN e-shiftN m) (sideN dir g)≤9218868437227405312:=by
     obtain⟨r,b1,b2,hr,h0',h1',h2',_⟩:=rung_sides (topN m) (clampN e-shiftN m) ht
     have hs:sideN dir g=0∨sideN dir g=1∨sideN dir g=2:=by unfold sideN;split <;> (try split) <;> omega
     rcases hs with hs | hs | hs
     · rw [hs,h0'];omega
     · rw [hs,h1'];cases b1 <;> simp <;> omega
     · rw [hs,h2'];cases b2 <;> simp <;> omega
   have hf:=signN_facts g _ hle
   exact⟨hf.1,hf.2.1,hf.2.2.1⟩
theorem round_sides (g:Bool) (m:Nat) (e:Int) (hm:m<18446744073709551616):SidesOK (roundN g m e (-1)) (roundN g m e 0) (roundN g m e 1):=by
 have f1:=roundN_facts g m e (-1) hm
 have f2:=roundN_facts g m e 0 hm
 have f3:=roundN_facts g m e 1 hm
 refine⟨⟨f1.1,f2.1,f3.1⟩,⟨f1.2.1,f2.2.1,f3.2.1⟩,⟨f1.2.2,f2.2.2,f3.2.2⟩, ?_⟩
 clear f1 f2 f3
 unfold roundN
 by_cases h0:m=0
 · simp only [h0,if_true];decide
 · simp only [h0,if_false]
   obtain⟨r,b1,b2,hr,h0',h1',h2',hb⟩:=rung_sides (topN m) (clampN e-shiftN m) (topN_bounds h0 hm).2
   have c1:r+b1.toNat≤9218868437227405312:=by cases b1 <;> simp <;> omega
   have c2:r+b2.toNat≤9218868437227405312:=by cases b2 <;> simp <;> omega
   have c12:b1.toNat≤b2.toNat∧b2.toNat≤1:=by
     cases b1 <;> cases b2 <;> simp at hb ⊢
   cases g
   · have s1:sideN (-1) false=0:=rfl
     have s2:sideN 0 false=1:=rfl
     have s3:sideN 1 false=2:=rfl
     rw [s1,s2,s3,h0',h1',h2',(signN_facts false r (by omega)).2.2.2,(signN_facts false _ c1).2.2.2,(signN_facts false _ c2).2.2.2]
     simp only [Bool.false_eq_true,if_false]
     omega
   · have s1:sideN (-1) true=2:=rfl
     have s2:sideN 0 true=1:=rfl
     have s3:sideN 1 true=0:=rfl
     rw [s1,s2,s3,h0',h1',h2',(signN_facts true r (by omega)).2.2.2,(signN_facts true _ c1).2.2.2,(signN_facts true _ c2).2.2.2]
     simp only [if_true]
     omega
theorem round_mirror (g:Bool) (m:Nat) (e:Int) (hm:m<18446744073709551616):key (roundN (!g) m e 1)=- key (roundN g m e (-1)):=by
 unfold roundN
 by_cases h0:m=0
 · simp only [h0,if_true];rfl
 · simp only [h0,if_false]
   obtain⟨r,b1,b2,hr,h0',h1',h2',hb⟩:=rung_sides (topN m) (clampN e-shiftN m) (topN_bounds h0 hm).2
   have c2:r+b2.toNat≤9218868437227405312:=by cases b2 <;> simp <;> omega
   cases g
   · have s1:sideN (-1) false=0:=rfl
     have s3:sideN 1 (!false)=0:=rfl
     rw [s1,s3,h0',(signN_facts false r (by omega)).2.2.2,(signN_facts (!false) r (by omega)).2.2.2]
     simp
   · have s1:sideN (-1) true=2:=rfl
     have s3:sideN 1 (!true)=2:=rfl
     rw [s1,s3,h2',(signN_facts true _ c2).2.2.2,(signN_facts (!true) _ c2).2.2.2]
     simp
end Go.Proofs.YtopfabemfbdccaaGreat
namespace Go.Proofs.YtopfabemfbdccaaGreat
structure Cut where
 le:Nat→Prop
 eq:Nat→Prop
structure Cut.Ok (C:Cut):Prop where
 down:∀{h k:Nat},h≤k→C.le k→C.le h
 eqle:∀{h:Nat},C.eq h→C.le h
 eqlt:∀{h k:Nat},C.eq h→h<k→¬C.le k
 zero:C.le 0
structure IsDown (C:Cut) (d:Nat):Prop where
 top:d≤9218868437227405311
 low:C.le (2*val d)
 up:d=9218868437227405311∨¬C.le (2*val (d+1))
def IsR (C:Cut) (s:Int) (r:Nat):Prop:=∃d,IsDown C d∧(s=0→r=d)∧(s=2→(C.eq (2*val d)∧r=d∨¬C.eq (2*val d)∧r=d+1)) ∧
 (s=1→(C.eq (2*val d)∧r=d∨¬C.eq (2*val d)∧(C.eq (val d+val (d+1))∧r=(if d%2=0 then d else d+1)∨¬C.eq (val d+val (d+1))∧(C.le (val d+val (d+1))∧r=d+1∨¬C.le (val d+val (d+1))∧r=d))))
def Near (M:Nat) (E:Int) (C:Cut):Prop:=∃a b:Nat,(b:Int)-a=E+1075 ∧
 ((∀h,(C.le h↔h*2^a≤M*2^b)∧(C.eq h↔h*2^a=M*2^b)) ∨
  (M%2=1∧36028797018963968≤M∧∀h,(h*2^a≤(M-1)*2^b→C.le h∧¬C.eq h)∧((M+1)*2^b≤h*2^a→¬C.le h∧¬C.eq h)))
theorem mul_two_pow_le {x y b:Nat}:x*2^b≤y*2^b↔x≤y:=Nat.mul_le_mul_right_iff (Nat.two_pow_pos b)
theorem mul_two_pow_eq {x y b:Nat}:x*2^b=y*2^b↔x=y:=Nat.mul_left_inj (Nat.ne_of_gt (Nat.two_pow_pos b))
theorem near_grid {M:Nat} {E:Int} {C:Cut} (h:Near M E C) (h0:M≠0) (hM:M<18446744073709551616) (u:Nat) (hu:(u:Int)=E-shiftN M+dropN (E-shiftN M)+1074) (j:Nat) :
   (C.le (j*2^u)↔j*2^(dropN (E-shiftN M)-1)≤topN M)∧(C.eq (j*2^u)↔j*2^(dropN (E-shiftN M)-1)=topN M):=by
 obtain⟨a,b,hab,hc⟩:=h
 have hd:11≤dropN (E-shiftN M):=by unfold dropN;omega
 have hsh:shiftN M=63-M.log2:=rfl
 have hl:M.log2<64:=(Nat.log2_lt h0).2 hM
 generalize dropN (E-shiftN M)=d at *
 unfold topN
 generalize shiftN M=s at *
 have ex:u+a+s=d-1+b:=by omega
 have e1:j*2^u*2^a*2^s=j*2^(d-1)*2^b:=by
   rw [Nat.mul_assoc,Nat.mul_assoc,Nat.mul_assoc,←Nat.pow_add,←Nat.pow_add,←Nat.pow_add]
   congr 2;omega
 have e2:M*2^b*2^s=M*2^s*2^b:=Nat.mul_right_comm _ _ _
 rcases hc with hc | ⟨odd,big,hc⟩
 · rw [(hc (j*2^u)).1,(hc (j*2^u)).2,←mul_two_pow_le (b:=s),←mul_two_pow_eq (b:=s),e1,e2,mul_two_pow_le,mul_two_pow_eq]
   exact⟨Iff.rfl,Iff.rfl⟩
 · have hlog:55≤M.log2:=(Nat.le_log2 h0).2 big
   have hs:s+2≤d-1:=by omega
   have e3:j*2^(d-1)=(j*2^(d-1-s))*2^s:=by
     rw [Nat.mul_assoc,←Nat.pow_add];congr 2;omega
   have e4:j*2^u*2^a=(j*2^(d-1-s))*2^b:=by
     have:=e1
     rw [e3,Nat.mul_right_comm _ (2^s) (2^b)] at this
     exact mul_two_pow_eq.1 this
   have e5:2^(d-1-s)=2*2^(d-1-s-1):=by rw [←Nat.pow_succ'];congr 1;omega
   rw [e3,mul_two_pow_le,mul_two_pow_eq]
   have hc:=hc (j*2^u)
   rw [e4] at hc
   have ev:j*2^(d-1-s)%2=0:=by rw [e5,←Nat.mul_assoc,Nat.mul_comm j 2,Nat.mul_assoc];exact Nat.mul_mod_right _ _
   generalize j*2^(d-1-s)=J at *
   rw [mul_two_pow_le,mul_two_pow_le] at hc
   rcases Nat.lt_or_ge J M with c | c
   · have:=hc.1 (by omega)
     exact⟨⟨fun _=>by omega,fun _=>this.1⟩,⟨fun h=>absurd h this.2,fun h=>by omega⟩⟩
   · have:=hc.2 (by omega)
     exact⟨⟨fun h=>absurd h this.1,fun _=>by omega⟩,⟨fun h=>absurd h this.2,fun h=>by omega⟩⟩
theorem val_grid {u k:Nat} (hk:k≤9007199254740992) (h:u=0∨4503599627370496≤k):val (u*4503599627370496+k)=k*2^u:=by
 unfold val
 rcases Nat.lt_or_ge k 4503599627370496 with c | c
 · have hu:u=0:=by omega
   subst hu
   rw [if_pos (by omega)];simp
 · rw [if_neg (by omega)]
   rcases Nat.lt_or_ge k 9007199254740992 with c2 | c2
   · have h1:(u*4503599627370496+k)%4503599627370496=k-4503599627370496:=by omega
     have h2:(u*4503599627370496+k)/4503599627370496-1=u:=by omega
     have h3:4503599627370496+(k-4503599627370496)=k:=by omega
     rw [h1,h2,h3]
   · have hk2:k=9007199254740992:=by omega
     subst hk2
     have h1:(u*4503599627370496+9007199254740992)%4503599627370496=0:=by omega
     have h2:(u*4503599627370496+9007199254740992)/4503599627370496-1=u+1:=by omega
     rw [h1,h2,Nat.pow_succ];omega
theorem rest_facts {t d:Nat} (hd:11≤d) (ht:t<18446744073709551616) (h0:0<t) :
   (restN t d≠0↔(2*keptN t d)*2^(d-1)≠t)∧(9223372036854775808<restN t d↔(2*keptN t d+1)*2^(d-1)<t)∧(restN t d=9223372036854775808↔(2*keptN t d+1)*2^(d-1)=t) ∧
   (2*keptN t d)*2^(d-1)≤t∧t<(2*keptN t d+2)*2^(d-1):=by
 unfold restN keptN
 have e5:2^d=2*2^(d-1):=by rw [←Nat.pow_succ'];congr 1;omega
 by_cases c:64<d
 · rw [if_pos c,if_pos c]
   have hp:2^64≤2^(d-1):=Nat.pow_le_pow_right (by omega) (by omega)
   generalize 2^(d-1)=p at *
   simp only [Nat.mul_zero,Nat.zero_add,Nat.zero_mul,Nat.one_mul]
   omega
 · rw [if_neg c,if_neg c,e5]
   have hm:=Nat.div_add_mod t (2*2^(d-1))
   have hlt:t%(2*2^(d-1))<2*2^(d-1):=Nat.mod_lt _ (by have:=Nat.two_pow_pos (d-1);omega)
   have e6:2^(d-1)*2^(64-d)=9223372036854775808:=by rw [←Nat.pow_add,show d-1+(64-d)=63 by omega]
   have hq:=Nat.two_pow_pos (64-d)
   generalize t%(2*2^(d-1))=r at *
   generalize t/(2*2^(d-1))=k at *
   have e7:2*k*2^(d-1)=2*2^(d-1)*k:=by rw [Nat.mul_right_comm]
   have e8:(2*k+1)*2^(d-1)=2*2^(d-1)*k+2^(d-1):=by rw [Nat.add_mul,e7,Nat.one_mul]
   have e9:(2*k+2)*2^(d-1)=2*2^(d-1)*k+2*2^(d-1):=by rw [Nat.add_mul,e7]
   rw [e7,e8,e9]
   have g1:9223372036854775808<r*2^(64-d)↔2^(d-1)<r:=by
     rw [←e6];exact Nat.mul_lt_mul_right hq
   have g2:r*2^(64-d)=9223372036854775808↔r=2^(d-1):=by
     rw [←e6];exact mul_two_pow_eq
   have g3:r*2^(64-d)≠0↔r≠0:=by
     rw [ne_eq,Nat.mul_eq_zero];constructor <;> intro h <;> omega
   rw [g1,g2,g3]
   generalize 2*2^(d-1)*k=z at *
   generalize 2^(d-1)=p at *
   omega
theorem rung_far {C:Cut} (ok:C.Ok) {s:Int} (hs:s=0∨s=1∨s=2) {L:Nat} (hL:L=9218868437227405311) (h:C.le (2*val (L+1))):IsR C s (boundN s):=by
 have hv:=val_mono (show L<L+1 by omega)
 have b0:boundN 0=L:=hL.symm
 have b1:boundN 1=L+1:=by rw [hL];rfl
 have b2:boundN 2=L+1:=by rw [hL];rfl
 refine⟨L,⟨by omega,ok.down (by omega) h,Or.inl hL⟩, ?_, ?_, ?_⟩
 · rintro rfl;exact b0
 · rintro rfl
   exact Or.inr ⟨fun e=>ok.eqlt e (by omega) h,b2⟩
 · rintro rfl
   exact Or.inr ⟨fun e=>ok.eqlt e (by omega) h,Or.inr ⟨fun e=>ok.eqlt e (by omega) h,Or.inl ⟨ok.down (by omega) h,b1⟩⟩⟩
theorem rung_is {M:Nat} {E:Int} {C:Cut} (ok:C.Ok) (h:Near M E C) (h0:M≠0) (hM:M<18446744073709551616) {s:Int} (hs:s=0∨s=1∨s=2) :
   IsR C s (rungN (topN M) (E-shiftN M) s):=by
 have hb:=topN_bounds h0 hM
 have hd:11≤dropN (E-shiftN M):=by unfold dropN;omega
 have hd2:-1074≤E-shiftN M+dropN (E-shiftN M):=by unfold dropN;omega
 have hd3:dropN (E-shiftN M)=11∨E-shiftN M+dropN (E-shiftN M)=-1074:=by unfold dropN;omega
 obtain⟨u,hu⟩:∃u:Nat,(u:Int)=E-shiftN M+dropN (E-shiftN M)+1074:=⟨(E-shiftN M+dropN (E-shiftN M)+1074).toNat,by omega⟩
 have grid:=near_grid h h0 hM u hu
 have hk:=keptN_lt (d:=dropN (E-shiftN M)) hb.2 hd
 have rf:=rest_facts (t:=topN M) hd hb.2 (by omega)
 unfold rungN
 have hut:(E-shiftN M+dropN (E-shiftN M)+1074).toNat=u:=by omega
 rw [hut]
 generalize E-(shiftN M:Int)=e at *
 generalize dropN e=d at *
 generalize topN M=t at *
 clear h h0 hM
 by_cases far:971<e+d
 · rw [if_pos far]
   have hd11:d=11:=by omega
   subst hd11
   refine rung_far ok hs rfl ?_
   have g:=(grid 9007199254740992).1.2 (by omega)
   refine ok.down ?_ g
   obtain⟨U,hU⟩:∃U:Nat,U=2046:=⟨_,rfl⟩
   have e0:9218868437227405311+1=U*4503599627370496+4503599627370496:=by omega
   have e1:=val_grid (u:=U) (k:=4503599627370496) (by omega) (Or.inr (by omega))
   have hp:2^U≤2^u:=Nat.pow_le_pow_right (by omega) (by omega)
   rw [e0,e1,←Nat.mul_assoc]
   exact Nat.mul_le_mul (by omega) hp
 · rw [if_neg far]
   have hk2:u=0∨4503599627370496≤keptN t d:=by
     rcases hd3 with c | c
     · right
       subst c
       unfold keptN
       rw [if_neg (by omega)]
       have:(2:Nat)^11=2048:=rfl
       rw [this];omega
     · left;omega
   have v0:=val_grid (u:=u) (k:=keptN t d) (by omega) hk2
   have v1:=val_grid (u:=u) (k:=keptN t d+1) (by omega) (by omega)
   rw [←Nat.add_assoc] at v1
   generalize keptN t d=k at *
   have m0:2*val (u*4503599627370496+k)=(2*k)*2^u:=by rw [v0,Nat.mul_assoc]
   have m2:2*val (u*4503599627370496+k+1)=(2*k+2)*2^u:=by rw [v1,←Nat.mul_assoc,Nat.mul_add]
   have m1:val (u*4503599627370496+k)+val (u*4503599627370496+k+1)=(2*k+1)*2^u:=by rw [v0,v1,←Nat.add_mul];congr 1;omega
   have par:(u*4503599627370496+k)%2=k%2:=by omega
   obtain⟨r0,r1,r2,r3,r4⟩:=rf
   refine⟨u*4503599627370496+k,⟨by omega, ?_,Or.inr ?_⟩, ?_, ?_, ?_⟩
   · rw [m0];exact (grid _).1.2 r3
   · rw [m2];exact fun c=>absurd ((grid _).1.1 c) (by omega)
   · rintro rfl
     have eg:goesN k (restN t d) 0=false:=rfl
     rw [eg,Bool.toNat_false,Nat.add_zero]
   · rintro rfl
     rw [m0]
     have eg:goesN k (restN t d) 2=decide (restN t d≠0):=rfl
     rw [eg]
     by_cases c:restN t d≠0
     · right
       exact⟨fun h=>r0.1 c ((grid _).2.1 h),by simp [c]⟩
     · left
       exact⟨(grid _).2.2 (Decidable.not_not.1 (fun h=>c (r0.2 h))),by simp [Decidable.not_not.1 c]⟩
   · rintro rfl
     rw [m0,m1,par]
     have eg:goesN k (restN t d) 1=decide (9223372036854775808<restN t d∨restN t d=9223372036854775808∧k%2=1):=rfl
     rw [eg]
     by_cases c:restN t d≠0
     · right
       refine⟨fun h=>r0.1 c ((grid _).2.1 h), ?_⟩
       by_cases c2:restN t d=9223372036854775808
       · left
         refine⟨(grid _).2.2 (r2.1 c2), ?_⟩
         by_cases c3:k%2=0
         · have:¬k%2=1:=by omega
           simp [c2,c3]
         · have c4:k%2=1:=by omega
           simp [c2,c4]
       · right
         refine⟨fun h=>c2 (r2.2 ((grid _).2.1 h)), ?_⟩
         by_cases c3:9223372036854775808<restN t d
         · left
           exact⟨(grid _).1.2 (Nat.le_of_lt (r1.1 c3)),by simp [c3]⟩
         · right
           refine⟨fun h=>?_,by simp [c2,c3]⟩
           have:=(grid _).1.1 h
           rcases Nat.lt_or_eq_of_le this with c4 | c4
           · exact c3 (r1.2 c4)
           · exact c2 (r2.2 c4)
     · left
       have c0:restN t d=0:=Decidable.not_not.1 c
       exact⟨(grid _).2.2 (Decidable.not_not.1 (fun h=>c (r0.2 h))),by simp [c0]⟩
end Go.Proofs.YtopfabemfbdccaaGreat
namespace Go.Proofs.YtopfabemfbdccaaGreat
def V (k:Int):Int:=if k<0 then -(val (-k).toNat:Int) else (val k.toNat:Int)
theorem V_nat (r:Nat):V (r:Int)=val r:=by unfold V;rw [if_neg (by omega)];simp
theorem V_negnat (r:Nat):V (-(r:Int))=-(val r:Int):=by
 unfold V
 by_cases h:r=0
 · subst h;simp [val_zero]
 · rw [if_pos (by omega),Int.neg_neg];simp
theorem V_neg (k:Int):V (-k)=-V k:=by
 rcases Int.le_total 0 k with h | h
 · obtain⟨r,rfl⟩:=Int.eq_ofNat_of_zero_le h
   rw [V_negnat,V_nat]
 · obtain⟨r,hr⟩:=Int.eq_ofNat_of_zero_le (show 0≤-k by omega)
   have:k=-(r:Int):=by omega
   subst this
   rw [V_negnat,Int.neg_neg,V_nat,Int.neg_neg]
theorem V_mono {i j:Int} (h:i<j):V i<V j:=by
 rcases Int.lt_or_le i 0 with hi | hi
 · obtain⟨r,hr⟩:=Int.eq_ofNat_of_zero_le (show 0≤-i by omega)
   have:i=-(r:Int):=by omega
   subst this
   have h0:=val_mono (show 0<r by omega)
   rw [V_negnat]
   rcases Int.lt_or_le j 0 with hj | hj
   · obtain⟨s,hs⟩:=Int.eq_ofNat_of_zero_le (show 0≤-j by omega)
     have:j=-(s:Int):=by omega
     subst this
     have:=val_mono (show s<r by omega)
     rw [V_negnat];omega
   · obtain⟨s,rfl⟩:=Int.eq_ofNat_of_zero_le hj
     rw [V_nat];omega
 · obtain⟨r,rfl⟩:=Int.eq_ofNat_of_zero_le hi
   obtain⟨s,rfl⟩:=Int.eq_ofNat_of_zero_le (show 0≤j by omega)
   have:=val_mono (show r<s by omega)
   rw [V_nat,V_nat];omega
theorem V_mono_le {i j:Int} (h:i≤j):V i≤V j:=by
 rcases Int.lt_or_eq_of_le h with c | c
 · exact Int.le_of_lt (V_mono c)
 · subst c;exact Int.le_refl _
theorem V_zero:V 0=0:=rfl
theorem V_nonneg {k:Int} (h:0≤k):0≤V k:=by have:=V_mono_le h;rw [V_zero] at this;exact this
theorem V_pos {k:Int} (h:0<k):0<V k:=by have:=V_mono h;rw [V_zero] at this;exact this
theorem V_npos {k:Int} (h:k≤0):V k≤0:=by have:=V_mono_le h;rw [V_zero] at this;exact this
theorem V_lt0 {k:Int} (h:k<0):V k<0:=by have:=V_mono h;rw [V_zero] at this;exact this
structure Ex where
 le:Int→Prop
 ge:Int→Prop
structure Ex.Ok (x:Ex):Prop where
 down:∀{h k:Int},h≤k→x.le k→x.le h
 total:∀h:Int,x.le h∨x.ge h
 sep:∀{h k:Int},x.ge h→x.le k→k≤h
def Ex.amt (g:Bool) (x:Ex):Cut:=if g then ⟨fun h=>x.ge (-(h:Int)),fun h=>x.le (-(h:Int))∧x.ge (-(h:Int))⟩ else ⟨fun h=>x.le (h:Int),fun h=>x.le (h:Int)∧x.ge (h:Int)⟩
theorem Ex.Ok.up {x:Ex} (ok:x.Ok) {h k:Int} (hk:h≤k) (g:x.ge h):x.ge k:=by
 rcases ok.total k with c | c
 · have:=ok.sep g c
   have:h=k:=by omega
   subst this;exact g
 · exact c
theorem Ex.Ok.cut {x:Ex} (ok:x.Ok) {g:Bool} (hg:if g then x.ge 0 else x.le 0):(x.amt g).Ok:=by
 cases g
 · simp only [Bool.false_eq_true,if_false] at hg
   exact⟨fun {h k} c d=>ok.down (by omega) (show x.le (k:Int) from d),fun {h} c=>c.1,fun {h k} c d e=>by have:=ok.sep c.2 (show x.le (k:Int) from e);omega,hg⟩
 · simp only [if_true] at hg
   exact⟨fun {h k} c d=>ok.up (show -(k:Int)≤-(h:Int) by omega) (show x.ge (-(k:Int)) from d),fun {h} c=>c.2,fun {h k} c d e=>by have:=ok.sep (show x.ge (-(k:Int)) from e) c.1;omega,hg⟩
structure KDown (x:Ex) (k:Int):Prop where
 bot:-9218868437227405312≤k
 top:k≤9218868437227405311
 low:k=-9218868437227405312∨x.le (2*V k)
 up:k=9218868437227405311∨¬x.le (2*V (k+1))
theorem kdown_mono {x y:Ex} (oky:y.Ok) (h:∀h,x.le h→y.le h) {k l:Int} (hk:KDown x k) (hl:KDown y l):k≤l:=by
 rcases Int.lt_or_le l k with c | c
 · exfalso
   rcases hl.up with u | u
   · have:=hk.top;omega
   · rcases hk.low with w | w
     · have:=hl.bot;omega
     · exact u (oky.down (by have:=V_mono_le (show l+1≤k by omega);omega) (h _ w))
 · exact c
theorem kdown_of {x:Ex} (ok:x.Ok) {g:Bool} (hg:if g then x.ge 0 else x.le 0) {r:Nat} (h:IsR (x.amt g) (if g then 2 else 0) r):KDown x (if g then -(r:Int) else r):=by
 obtain⟨d,hd,h0,h2, -⟩:=h
 have dt:=hd.top
 cases g
 · simp only [Bool.false_eq_true,if_false] at *
   obtain rfl:=h0 trivial
   have lo:x.le ((2*val r:Nat):Int):=hd.low
   have up:r=9218868437227405311∨¬x.le ((2*val (r+1):Nat):Int):=hd.up
   refine⟨by omega,by omega,Or.inr ?_, ?_⟩
   · rw [V_nat];exact ok.down (by omega) lo
   · rcases up with u | u
     · left;omega
     · right
       have e:((r:Int)+1)=((r+1:Nat):Int):=by omega
       rw [e,V_nat]
       exact fun c=>u (ok.down (by omega) c)
 · simp only [if_true] at *
   have lo:x.ge (-((2*val d:Nat):Int)):=hd.low
   have up:d=9218868437227405311∨¬x.ge (-((2*val (d+1):Nat):Int)):=hd.up
   rcases h2 trivial with ⟨e,rfl⟩ | ⟨e,rfl⟩
   · have e1:x.le (-((2*val r:Nat):Int)):=e.1
     refine⟨by omega,by omega,Or.inr ?_,Or.inr ?_⟩
     · rw [V_negnat];exact ok.down (by omega) e1
     · intro c
       have c1:=ok.sep lo c
       have c2:=V_mono (show -(r:Int) < -(r:Int)+1 by omega)
       rw [V_negnat] at c2
       omega
   · refine⟨by omega,by omega, ?_,Or.inr ?_⟩
     · rcases up with u | u
       · left;omega
       · right
         rcases ok.total (-((2*val (d+1):Nat):Int)) with c | c
         · rw [V_negnat];exact ok.down (by omega) c
         · exact absurd c u
     · have e3:(-((d+1:Nat):Int)+1)=-(d:Int):=by omega
       rw [e3,V_negnat]
       intro c
       refine e ⟨ok.down ?_ c,lo⟩
       omega
end Go.Proofs.YtopfabemfbdccaaGreat
namespace Go.Proofs.YtopfabemfbdccaaGreat
theorem knuth_lt {u v y:Nat} (hu:u<y) (hv:v<4294967296):(u*4294967296+v)/y<4294967296:=by
 refine Nat.div_lt_of_lt_mul ?_
 have h:(u+1)*4294967296≤y*4294967296:=Nat.mul_le_mul_right _ hu
 omega
theorem knuth_start {u v y yn1 yn0:Nat} (hy:y=yn1*4294967296+yn0) (h1:2147483648≤yn1) (hv:v<4294967296):(u*4294967296+v)/y≤u/yn1:=by
 rw [Nat.le_div_iff_mul_le (by omega)]
 have h:=Nat.div_mul_le_self (u*4294967296+v) y
 generalize (u*4294967296+v)/y=q at *
 subst hy
 rw [Nat.mul_add,←Nat.mul_assoc] at h
 have h2:q*yn1*4294967296<(u+1)*4294967296:=by omega
 have h3:=Nat.lt_of_mul_lt_mul_right h2
 omega
theorem knuth_top {u y yn1 yn0:Nat} (hy:y=yn1*4294967296+yn0) (h1:2147483648≤yn1) (h0:yn0<4294967296) (hu:u<y):u/yn1≤4294967297:=by
 have:u/yn1<4294967298:=by
   refine Nat.div_lt_of_lt_mul ?_
   omega
 omega
theorem knuth_step {u v y yn1 yn0 a b:Nat} (hy:y=yn1*4294967296+yn0) (h1:2147483648≤yn1) (h:b+a*yn1=u):(u*4294967296+v)/y<a↔4294967296*b+v<a*yn0:=by
 rw [Nat.div_lt_iff_lt_mul (by omega)]
 subst hy
 subst h
 rw [Nat.mul_add,←Nat.mul_assoc,Nat.add_mul]
 omega
end Go.Proofs.YtopfabemfbdccaaGreat
namespace Go.Proofs.YtopfabemfbdccaaGreat
open Go.ChangeShapes Go.WideShapes Go.ChangeAt Go.RowKit
set_option maxHeartbeats 2000000 in
set_option maxRecDepth 100000 in
theorem div64_core (hi lo y yn1 yn0 un1 un0 qh rh Q1 R1 q2 r2 Q0 R0:Nat) (hy:((y:Int)==0)=false) (hle:¬(y:Int)≤(hi:Int)) (hh:((hi:Int)==0)=false)
   (hyl:y<18446744073709551616) (hll:lo<18446744073709551616) (hyn:¬yn1=0) (hyn1:yn1<4294967296) (hun1:un1<4294967296) (hun0:un0<4294967296)
   (hlz:∀w,Calls Tryz.prog 249 #[.int .u64 y] w fun r w'=>r=.returned (.int .i64 0)∧w=w')
   (e1:(y:Int)/4294967296=(yn1:Int)) (e2:bits .and .u64 (y:Int) 4294967295=(yn0:Int)) (e3:(lo:Int)/4294967296=(un1:Int)) (e4:bits .and .u64 (lo:Int) 4294967295=(un0:Int))
   (e5:(lo:Int)/18446744073709551616=0) (e6:bits .or .u64 (hi:Int) 0=(hi:Int))
   (e7:IntKind.u64.wrap ((hi:Int)/(yn1:Int))=(qh:Int)) (e8:IntKind.u64.wrap ((hi:Int)-IntKind.u64.wrap ((qh:Int)*(yn1:Int)))=(rh:Int))
   (P1 P2:Nat→Nat→Prop) (hq0:P1 qh rh) (hqb:∀a b,P1 a b→Q1≤a∧a≤4294967297∧b<4294967296)
   (hqA:∀a b,P1 a b→a<4294967296→∃A:Nat,IntKind.u64.wrap ((a:Int)*(yn0:Int))=(A:Int)∧(Q1<a↔4294967296*b+un1<A))
   (hqn:∀a b,P1 a b→Q1<a→b+yn1<4294967296→P1 (a-1) (b+yn1))
   (hqe:∀a b,P1 a b→Q1<a→4294967296≤b+yn1→a-1=Q1) (hQ1:Q1<4294967296)
   (f1:IntKind.u64.wrap (IntKind.u64.wrap (IntKind.u64.wrap ((hi:Int)*4294967296)+(un1:Int))-IntKind.u64.wrap ((Q1:Int)*(y:Int)))=(R1:Int))
   (f7:IntKind.u64.wrap ((R1:Int)/(yn1:Int))=(q2:Int)) (f8:IntKind.u64.wrap ((R1:Int)-IntKind.u64.wrap ((q2:Int)*(yn1:Int)))=(r2:Int))
   (gq0:P2 q2 r2) (gqb:∀a b,P2 a b→Q0≤a∧a≤4294967297∧b<4294967296)
   (gqA:∀a b,P2 a b→a<4294967296→∃A:Nat,IntKind.u64.wrap ((a:Int)*(yn0:Int))=(A:Int)∧(Q0<a↔4294967296*b+un0<A))
   (gqn:∀a b,P2 a b→Q0<a→b+yn1<4294967296→P2 (a-1) (b+yn1))
   (gqe:∀a b,P2 a b→Q0<a→4294967296≤b+yn1→a-1=Q0) (hQ0:Q0<4294967296)
   (f9:IntKind.u64.wrap (IntKind.u64.wrap (IntKind.u64.wrap ((R1:Int)*4294967296)+(un0:Int))-IntKind.u64.wrap ((Q0:Int)*(y:Int)))=(R0:Int))
   (w:World) :
   Calls Tryz.prog 273 #[.int .u64 hi,.int .u64 lo,.int .u64 y] w fun r w'=>r=.returned (.tuple #[.int .u64 ((Q1:Int)*4294967296+Q0),.int .u64 R0])∧w=w':=by
 go_enter Tryz.func273,Tryz.ntmps273
 go_upto_block 0 with (go_at_call 249;refine (hlz _).mono ?_;rintro _ _ ⟨rfl,rfl⟩)
 go_cut [15,16] from 67 to 85 (fun s15 _ wx=>w=wx∧s15=.int .u64 (Q1:Int))
 case first =>
   clear f1 f7 f8 gq0 gqb gqA gqn gqe hQ0 f9
   go_wp2_with fail
   obtain⟨N,hN⟩:∃N:Nat,4294967297<N:=⟨4294967298,by omega⟩
   go_loopg [15,16] N (fun g s15 s16 wx=>w=wx∧∃a b:Nat,a≤g∧P1 a b∧s15=.int .u64 (a:Int)∧s16=.int .u64 (b:Int))
   case atStart=>exact⟨rfl,qh,rh,by have:=hqb _ _ hq0;omega,hq0,rfl,rfl⟩
   case round =>
     obtain⟨rfl,a,b,hag,hP,rfl,rfl⟩:=hrel
     clear e1 e2 e3 e4 e5 e6 e7 e8 hy hle hh hlz hq0 hN
     obtain⟨b1,b2,b3⟩:=hqb _ _ hP
     by_cases hbig:a<4294967296
     · obtain⟨A,hA,hAiff⟩:=hqA _ _ hP hbig
       by_cases ht:Q1<a
       · have ht2:(4294967296:Int)*(b:Int)+(un1:Int)<(A:Int):=by have:=hAiff.1 ht;omega
         by_cases hbr:b+yn1<4294967296
         · have hnew:=hqn _ _ hP ht hbr
           clear hqb hqA hqn hqe hAiff hP
           have hbigZ:¬(4294967296:Int)≤(a:Int):=by omega
           have hbrZ:¬(4294967296:Int)≤(b:Int)+(yn1:Int):=by omega
           have HT:Hid (Q1<a):=ht
           have HN:=(show Hid _ from hnew)
           have ha1:(1:Int)≤(a:Int):=by omega
           clear ht hnew hbr
           clear hbig b2
           go_upto_if 85 with fail
           have ht:=HT.out
           have hnew:=HN.out
           refine wp_cond_false (by simp [Act.eval]) ?_
           refine wp_skip ?_
           simp only [Exit.inBlock,Exit.then]
           apply_assumption
           refine Handed.intro (a-1) (by omega) ?_
           apply_assumption
           (repeat apply Exists.intro)
           refine⟨?_,rfl⟩
           exact⟨rfl,a-1,b+yn1,Nat.le_refl _,hnew,by congr 1;omega,by congr 1⟩
         · have hnew:=hqe _ _ hP ht (by omega)
           clear hqb hqA hqn hqe hAiff hP
           have hbigZ:¬(4294967296:Int)≤(a:Int):=by omega
           have hbrZ:(4294967296:Int)≤(b:Int)+(yn1:Int):=by omega
           have HT:Hid (Q1<a):=ht
           have HN:=(show Hid _ from hnew)
           have ha1:(1:Int)≤(a:Int):=by omega
           clear ht hnew hbr
           clear hbig b2
           go_upto_if 85 with fail
           have ht:=HT.out
           have hnew:=HN.out
           refine wp_cond_true (by simp [Act.eval]) ?_
           refine wp_exit ?_
           simp only [Exit.inBlock,Exit.then,Nat.zero_ne_one,if_false,if_true]
           apply_assumption
           refine Met.intro ?_
           apply_assumption
           (repeat apply Exists.intro)
           refine⟨?_,rfl⟩
           exact⟨rfl,by congr 1;omega⟩
       · have ht2:¬(4294967296:Int)*(b:Int)+(un1:Int)<(A:Int):=by intro hx;exact ht (hAiff.2 (by omega))
         have hnew:a=Q1:=by omega
         clear hqb hqA hqn hqe hAiff hP ht
         have hid:Hid (a=Q1):=hnew
         clear hnew
         have hbigZ:¬(4294967296:Int)≤(a:Int):=by omega
         clear hbig b2
         go_upto_if 78 with fail
         have hnew:=hid.out
         refine wp_cond_false (by simp [Act.eval]) ?_
         refine wp_exit ?_
         simp only [Exit.inBlock,Exit.then,if_true]
         apply_assumption
         refine Met.intro ?_
         apply_assumption
         (repeat apply Exists.intro)
         refine⟨?_,rfl⟩
         exact⟨rfl,by rw [hnew]⟩
     · have ht:Q1<a:=by omega
       by_cases hbr:b+yn1<4294967296
       · have hnew:=hqn _ _ hP ht hbr
         clear hqb hqA hqn hqe hP
         have hbigZ:(4294967296:Int)≤(a:Int)∧(a:Int)≤4294967297:=by omega
         have hbrZ:¬(4294967296:Int)≤(b:Int)+(yn1:Int):=by omega
         have HT:Hid (Q1<a):=ht
         have HN:=(show Hid _ from hnew)
         have ha1:(1:Int)≤(a:Int):=by omega
         clear ht hnew hbr
         clear hbig b2
         go_upto_if 85 with fail
         have ht:=HT.out
         have hnew:=HN.out
         refine wp_cond_false (by simp [Act.eval]) ?_
         refine wp_skip ?_
         simp only [Exit.inBlock,Exit.then]
         apply_assumption
         refine Handed.intro (a-1) (by omega) ?_
         apply_assumption
         (repeat apply Exists.intro)
         refine⟨?_,rfl⟩
         exact⟨rfl,a-1,b+yn1,Nat.le_refl _,hnew,by congr 1;omega,by congr 1⟩
       · have hnew:=hqe _ _ hP ht (by omega)
         clear hqb hqA hqn hqe hP
         have hbigZ:(4294967296:Int)≤(a:Int)∧(a:Int)≤4294967297:=by omega
         have hbrZ:(4294967296:Int)≤(b:Int)+(yn1:Int):=by omega
         have HT:Hid (Q1<a):=ht
         have HN:=(show Hid _ from hnew)
         have ha1:(1:Int)≤(a:Int):=by omega
         clear ht hnew hbr
         clear hbig b2
         go_upto_if 85 with fail
         have ht:=HT.out
         have hnew:=HN.out
         refine wp_cond_true (by simp [Act.eval]) ?_
         refine wp_exit ?_
         simp only [Exit.inBlock,Exit.then,Nat.zero_ne_one,if_false,if_true]
         apply_assumption
         refine Met.intro ?_
         apply_assumption
         (repeat apply Exists.intro)
         refine⟨?_,rfl⟩
         exact⟨rfl,by congr 1;omega⟩
 case rest =>
 obtain⟨rfl,rfl⟩:=hcut
 clear hqb hqA hqn hqe hq0 e7 e8
 go_upto_block 2 with fail
 go_cut [18,16] from 102 to 120 (fun s18 _ wx=>w=wx∧s18=.int .u64 (Q0:Int))
 case first =>
   clear f1 f7 f8 f9
   go_wp2_with fail
   obtain⟨N,hN⟩:∃N:Nat,4294967297<N:=⟨4294967298,by omega⟩
   go_loopg [18,16] N (fun g s18 s16 wx=>w=wx∧∃a b:Nat,a≤g∧P2 a b∧s18=.int .u64 (a:Int)∧s16=.int .u64 (b:Int))
   case atStart=>exact⟨rfl,q2,r2,by have:=gqb _ _ gq0;omega,gq0,rfl,rfl⟩
   case round =>
     obtain⟨rfl,a,b,hag,hP,rfl,rfl⟩:=hrel
     clear e1 e2 e3 e4 e5 e6 hy hle hh hlz gq0 hN
     obtain⟨b1,b2,b3⟩:=gqb _ _ hP
     by_cases hbig:a<4294967296
     · obtain⟨A,hA,hAiff⟩:=gqA _ _ hP hbig
       by_cases ht:Q0<a
       · have ht2:(4294967296:Int)*(b:Int)+(un0:Int)<(A:Int):=by have:=hAiff.1 ht;omega
         by_cases hbr:b+yn1<4294967296
         · have hnew:=gqn _ _ hP ht hbr
           clear gqb gqA gqn gqe hAiff hP
           have hbigZ:¬(4294967296:Int)≤(a:Int):=by omega
           have hbrZ:¬(4294967296:Int)≤(b:Int)+(yn1:Int):=by omega
           have HT:Hid (Q0<a):=ht
           have HN:=(show Hid _ from hnew)
           have ha1:(1:Int)≤(a:Int):=by omega
           clear ht hnew hbr
           clear hbig b2
           go_upto_if 120 with fail
           have ht:=HT.out
           have hnew:=HN.out
           refine wp_cond_false (by simp [Act.eval]) ?_
           refine wp_skip ?_
           simp only [Exit.inBlock,Exit.then]
           apply_assumption
           refine Handed.intro (a-1) (by omega) ?_
           apply_assumption
           (repeat apply Exists.intro)
           refine⟨?_,rfl⟩
           exact⟨rfl,a-1,b+yn1,Nat.le_refl _,hnew,by congr 1;omega,by congr 1⟩
         · have hnew:=gqe _ _ hP ht (by omega)
           clear gqb gqA gqn gqe hAiff hP
           have hbigZ:¬(4294967296:Int)≤(a:Int):=by omega
           have hbrZ:(4294967296:Int)≤(b:Int)+(yn1:Int):=by omega
           have HT:Hid (Q0<a):=ht
           have HN:=(show Hid _ from hnew)
           have ha1:(1:Int)≤(a:Int):=by omega
           clear ht hnew hbr
           clear hbig b2
           go_upto_if 120 with fail
           have ht:=HT.out
           have hnew:=HN.out
           refine wp_cond_true (by simp [Act.eval]) ?_
           refine wp_exit ?_
           simp only [Exit.inBlock,Exit.then,show ¬(2:Nat)=3 by decide,if_false,if_true]
           apply_assumption
           refine Met.intro ?_
           apply_assumption
           (repeat apply Exists.intro)
           refine⟨?_,rfl⟩
           exact⟨rfl,by congr 1;omega⟩
       · have ht2:¬(4294967296:Int)*(b:Int)+(un0:Int)<(A:Int):=by intro hx;exact ht (hAiff.2 (by omega))
         have hnew:a=Q0:=by omega
         clear gqb gqA gqn gqe hAiff hP ht
         have hid:Hid (a=Q0):=hnew
         clear hnew
         have hbigZ:¬(4294967296:Int)≤(a:Int):=by omega
         clear hbig b2
         go_upto_if 113 with fail
         have hnew:=hid.out
         refine wp_cond_false (by simp [Act.eval]) ?_
         refine wp_exit ?_
         simp only [Exit.inBlock,Exit.then,if_true]
         apply_assumption
         refine Met.intro ?_
         apply_assumption
         (repeat apply Exists.intro)
         refine⟨?_,rfl⟩
         exact⟨rfl,by rw [hnew]⟩
     · have ht:Q0<a:=by omega
       by_cases hbr:b+yn1<4294967296
       · have hnew:=gqn _ _ hP ht hbr
         clear gqb gqA gqn gqe hP
         have hbigZ:(4294967296:Int)≤(a:Int)∧(a:Int)≤4294967297:=by omega
         have hbrZ:¬(4294967296:Int)≤(b:Int)+(yn1:Int):=by omega
         have HT:Hid (Q0<a):=ht
         have HN:=(show Hid _ from hnew)
         have ha1:(1:Int)≤(a:Int):=by omega
         clear ht hnew hbr
         clear hbig b2
         go_upto_if 120 with fail
         have ht:=HT.out
         have hnew:=HN.out
         refine wp_cond_false (by simp [Act.eval]) ?_
         refine wp_skip ?_
         simp only [Exit.inBlock,Exit.then]
         apply_assumption
         refine Handed.intro (a-1) (by omega) ?_
         apply_assumption
         (repeat apply Exists.intro)
         refine⟨?_,rfl⟩
         exact⟨rfl,a-1,b+yn1,Nat.le_refl _,hnew,by congr 1;omega,by congr 1⟩
       · have hnew:=gqe _ _ hP ht (by omega)
         clear gqb gqA gqn gqe hP
         have hbigZ:(4294967296:Int)≤(a:Int)∧(a:Int)≤4294967297:=by omega
         have hbrZ:(4294967296:Int)≤(b:Int)+(yn1:Int):=by omega
         have HT:Hid (Q0<a):=ht
         have HN:=(show Hid _ from hnew)
         have ha1:(1:Int)≤(a:Int):=by omega
         clear ht hnew hbr
         clear hbig b2
         go_upto_if 120 with fail
         have ht:=HT.out
         have hnew:=HN.out
         refine wp_cond_true (by simp [Act.eval]) ?_
         refine wp_exit ?_
         simp only [Exit.inBlock,Exit.then,show ¬(2:Nat)=3 by decide,if_false,if_true]
         apply_assumption
         refine Met.intro ?_
         apply_assumption
         (repeat apply Exists.intro)
         refine⟨?_,rfl⟩
         exact⟨rfl,by congr 1;omega⟩
 case rest =>
 obtain⟨rfl,rfl⟩:=hcut
 clear gqb gqA gqn gqe gq0 f7 f8
 go_wp2_with fail
 go_ret2
 exact⟨rfl,rfl⟩
end Go.Proofs.YtopfabemfbdccaaGreat
