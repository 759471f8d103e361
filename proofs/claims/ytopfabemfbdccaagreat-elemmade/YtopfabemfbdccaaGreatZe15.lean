/- The reference's numbers between two: root. -/
import Derived.Test.YtopfabemfbdccaaGreatZe13
namespace Go.Proofs.YtopfabemfbdccaaGreat
open Go.ChangeShapes Go.WideShapes Go.ChangeAt Go.RowKit
def isqN:Nat→Nat→Nat→Nat
 | 0,_,r=>r
 | k+1,m,r=>isqN k m (if (r+2^k)*(r+2^k)≤m then r+2^k else r)
theorem isqN_succ (k m r:Nat):isqN (k+1) m r=isqN k m (if (r+2^k)*(r+2^k)≤m then r+2^k else r):=rfl
def rtU (r M:Nat) (lo:Bool):Nat:=r+(if lo=false∧r*r≠M then 1 else 0)
def rtN (M:Nat) (lo:Bool):Nat:=rtU (isqN (bitsN M/2+2) M 0) M lo
set_option maxRecDepth 4000 in
set_option maxHeartbeats 1600000 in
theorem rootP_core {g:Bool} {ao:Option Addr} {l ca:Nat} {e:Int} (he:-10000≤e∧e≤10000) (lo:Bool) (n0 n M KR:Nat) (hKR:KR≤20000) (hM:M<2^KR) (Na:Nat) (hNa:400-(Na:Int)=(n0:Int)) (w:World) (hl:((l:Int)==0)=false) (t:Int) (ht:Int.tmod (e-(n0:Int)) 2=t) (hodd:(t=0∧n=n0)∨((t != 0)=true∧(n0:Int)+1=(n:Int))) (E2:Int) (hE2:Int.tdiv (e-(n:Int)) 2=E2) (hw64:wrap64 E2=E2) (NM:Nat) (hNM:(NM:Int)≤20000) (RES:Nat) (hRES:isqN (NM/2+2) M 0=RES)
   (ca1:∀W,Below w.heap.size w W→Calls Tryz.prog 87 #[.slice ao l ca] W fun e w'=>e=.returned (.int .i64 (Na:Int))∧W=w')
   (cl:∀W,Below w.heap.size w W→Calls Tryz.prog 143 #[.slice ao l ca,.int .i64 (n:Int)] W fun e w'=>(∃v',e=.returned v'∧BigIs w' v' M)∧Below W.heap.size W w')
   (cb2:∀W v,BigIs W v M→Calls Tryz.prog 87 #[v] W fun e w'=>e=.returned (.int .i64 (NM:Int))∧W=w') :
   Calls Tryz.prog 139 #[.agg #[.bool g,.slice ao l ca,.int .i64 e],.int .i64 (dirZ lo)] w fun r w'=>(∃v,r=.returned (.agg #[.bool false,v,.int .i64 E2])∧BigIs w' v (rtU RES M lo))∧Below w.heap.size w w':=by
 have X:=(has3_new w (.bool g) (.slice ao l ca) (.int .i64 e) 29).alloc (.cells #[.bool false,.slice none 0 0,.int .i64 0] 29)
 have R:=has3_new (w.alloc (.cells #[.bool g,.slice ao l ca,.int .i64 e] 29)) (.bool false) (.slice none 0 0) (.int .i64 0) 29
 have B:=Boxed.new (w.alloc (.cells #[.bool g,.slice ao l ca,.int .i64 e] 29)) #[.bool false,.slice none 0 0,.int .i64 0]
 simp only [World.size_alloc] at R B
 have HB:Below w.heap.size w ((w.alloc (.cells #[.bool g,.slice ao l ca,.int .i64 e] 29)).alloc (.cells #[.bool false,.slice none 0 0,.int .i64 0] 29)):=by go_grown
 obtain⟨he1,he2⟩:=he
 have hn1:¬(n0:Int)<0:=by omega
 have hn2:(n0:Int)≤400:=by omega
 replace hRES:Hid (isqN (NM/2+2) M 0=RES):=hRES
 go_enter Tryz.func139,Tryz.ntmps139
 go_upto_region 1 with fail
 generalize ((w.alloc (.cells #[.bool g,.slice ao l ca,.int .i64 e] 29)).alloc (.cells #[.bool false,.slice none 0 0,.int .i64 0] 29))=V1 at *
 obtain⟨x0,x1,x2,x3,x4,x5,xl⟩:=id X
 go_upto_region 3 with fail
 go_upto_region 4 with (go_at_call 87;refine (ca1 _ HB).mono ?_;rintro _ _ ⟨rfl,rfl⟩)
 go_upto_region 6 with fail
 rcases hodd with ⟨rfl,rfl⟩ | ⟨q1,q2⟩
 all_goals
   go_upto_region 8 with fail
   go_upto_region 9 with (go_at_call 143;refine (cl _ HB).mono ?_;rintro _ V3 ⟨⟨v2,rfl,hv⟩,hb1⟩;obtain⟨o2,k2,c2,rfl, -⟩:=hv.shape;replace X:=X.keep hb1;replace R:=R.keep hb1;replace B:=B.keep hb1;replace HB:=later HB hb1;clear hb1 x0 x1 x2 x3 x4 x5 xl)
   go_upto_region 10 with fail
   have hq0:BigIs (V3.alloc (.cells #[] 132)) (.slice (some ⟨V3.heap.size,0,none⟩) 0 0) 0:=⟨[],Digs.nil,trimmed_nil,rfl,(own_empty V3).row⟩
   have hb1:Below V3.heap.size V3 (V3.alloc (.cells #[] 132)):=by go_grown
   replace hv:=hv.keep hb1
   replace X:=X.keep hb1;replace R:=R.keep hb1;replace B:=B.keep hb1;replace HB:=later HB hb1;clear hb1
   clear cl ca1
   generalize V3.alloc (.cells #[] 132)=V4 at *
   generalize V3.heap.size=bq at *
   go_upto_region 11 with (go_at_call 87;refine (cb2 _ _ hv).mono ?_;rintro _ _ ⟨rfl,rfl⟩)
   clear cb2 ht
   have X5:=X
   have R5:=R
   have B5:=B
   have HB5:=HB
   have HK:Hid (M<2^KR):=hM
   obtain⟨Q,hQ⟩:∃Q,Q=KR+10002:=⟨_,rfl⟩
   clear hM
   go_loopg [7,8] (NM/2+2) (fun G s7 s8 wx=>∃(i r:Nat),s8=.int .i64 ((i:Int)-1)∧i≤G∧i≤NM/2+2∧Below V4.heap.size V4 wx∧BigIs wx s7 r∧Hid (isqN i M r=RES)∧Hid (r*r≤M))
   case atStart=>exact⟨NM/2+2,0,by rw [show (NM:Int)/2+1=((NM/2+2:Nat):Int)-1 by omega],Nat.le_refl _,Nat.le_refl _,Below.refl _ _,hq0,hRES,Nat.zero_le _⟩
   case round =>
     clear hq0 X R B HB hRES
     obtain⟨i,r,rfl,hiG,hi2,HV,hqv,hE,hL⟩:=hrel
     have X:=X5.keep HV
     have R:=R5.keep HV
     have B:=B5.keep HV
     have HB:=later HB5 HV
     replace hv:=hv.keep HV
     obtain⟨o9,k9,c9,rfl, -⟩:=hqv.shape
     clear X5 R5 B5 HB5
     have hrr:r<2^KR:=by
       have h1:=hL.out
       have h2:=HK.out
       rcases Nat.eq_zero_or_pos r with z | z
       · rw [z];exact Nat.two_pow_pos _
       · have:r*1≤r*r:=Nat.mul_le_mul_left _ z
         omega
     have one:(1:Nat)<2^(Q+1):=by
       have:2^1≤2^(Q+1):=Nat.pow_le_pow_right (by omega) (by omega)
       omega
     have hKM:2^KR≤2^(Q+1):=Nat.pow_le_pow_right (by omega) (by omega)
     have c1:=fun W=>of_w 1 (by omega) W
     rcases Nat.eq_zero_or_pos i with rfl | hi0
     · have hres:r=RES:=hE.out
       have cb:=fun W v (p1:BigIs W v r)=>by_w v v r r (Q+1) (by omega) (by omega) (by omega) W p1 p1
       have hrM:r*r<2^KR:=Nat.lt_of_le_of_lt hL.out HK.out
       have cc:=fun W v1 v2 (p1:BigIs W v1 (r*r)) (p2:BigIs W v2 M)=>cmp_w v1 v2 (r*r) M KR (by omega) hrM HK.out W p1 p2
       have cq:=fun W v1 v2 (p1:BigIs W v1 r) (p2:BigIs W v2 1)=>plus_w v1 v2 r 1 (Q+1) (by omega) (by omega) one W p1 p2
       have HP:Hid (rtU RES M lo=r+(if lo=false∧r*r≠M then 1 else 0)):=by show _=_;rw [←hres];rfl
       have hcz:cmpN (r*r) M=0↔r*r=M:=by
         unfold cmpN
         constructor
         · intro c
           split at c
           · omega
           · split at c
             · omega
             · omega
         · intro c
           rw [if_neg (by omega),if_neg (by omega)]
       generalize r*r=rr at *
       generalize cmpN rr M=cz at *
       clear hE hL HK HV hiG hi2 hrM hrr one hKM hres
       obtain⟨x0,x1,x2,x3,x4,x5,xl⟩:=id X
       obtain⟨r0,r1,r2,r3,r4,r5,rl⟩:=id R
       cases lo <;> simp only [dirZ,if_true,Bool.false_eq_true,if_false] at *
       · by_cases z:rr=M
         · have HP2:Hid (rtU RES M false=r):=by show _=_;rw [HP.out,if_neg (fun c=>c.2 z),Nat.add_zero]
           have hz:=hcz.2 z
           subst hz
           clear HP z hcz cq c1
           go_wp2_with (first
             | (go_at_call 171;refine (cb _ _ hqv).mono ?_;rintro _ W4 ⟨⟨u4,rfl,p4⟩,hb1⟩;obtain⟨f1,f2,f3,rfl, -⟩:=p4.shape;replace X:=X.keep hb1;replace R:=R.keep hb1;replace B:=B.keep hb1;replace HB:=later HB hb1;replace hqv:=hqv.keep hb1;replace hv:=hv.keep hb1;clear hb1 x0 x1 x2 x3 x4 x5 xl r0 r1 r2 r3 r4 r5 rl;obtain⟨x0,x1,x2,x3,x4,x5,xl⟩:=id X;obtain⟨r0,r1,r2,r3,r4,r5,rl⟩:=id R)
             | (go_at_call 89;refine (cc _ _ _ p4 hv).mono ?_;rintro _ W5 ⟨rfl,hb1⟩;replace X:=X.keep hb1;replace R:=R.keep hb1;replace B:=B.keep hb1;replace HB:=later HB hb1;replace hqv:=hqv.keep hb1;replace hv:=hv.keep hb1;clear hb1 x0 x1 x2 x3 x4 x5 xl r0 r1 r2 r3 r4 r5 rl;obtain⟨x0,x1,x2,x3,x4,x5,xl⟩:=id X;obtain⟨r0,r1,r2,r3,r4,r5,rl⟩:=id R))
           refine bodyPost_ret (v:=.agg #[.bool false,.slice o9 k9 c9,.int .i64 E2]) (by simp [results,Tryz.results139,go_sem, *]) rfl ⟨⟨.slice o9 k9 c9,rfl, ?_⟩, ?_⟩
           · rw [HP2.out]
             repeat' (first | (with_reducible exact hqv) | (with_reducible exact B) | (with_reducible refine BigIs.put ?_ ?_ _ _) | (with_reducible refine Boxed.set ?_ _ _ _))
           · repeat' (first | (with_reducible exact HB) | (with_reducible refine Below.setCell ?_ ?_ _) | go_size)
         · have HP2:Hid (rtU RES M false=r+1):=by show _=_;rw [HP.out,if_pos ⟨by simp,z⟩]
           have hz:(cz != 0)=true:=by simp;intro c;exact z (hcz.1 c)
           clear HP z hcz
           go_wp2_with (first
             | (go_at_call 171;refine (cb _ _ hqv).mono ?_;rintro _ W4 ⟨⟨u4,rfl,p4⟩,hb1⟩;obtain⟨f1,f2,f3,rfl, -⟩:=p4.shape;replace X:=X.keep hb1;replace R:=R.keep hb1;replace B:=B.keep hb1;replace HB:=later HB hb1;replace hqv:=hqv.keep hb1;replace hv:=hv.keep hb1;clear hb1 x0 x1 x2 x3 x4 x5 xl r0 r1 r2 r3 r4 r5 rl;obtain⟨x0,x1,x2,x3,x4,x5,xl⟩:=id X;obtain⟨r0,r1,r2,r3,r4,r5,rl⟩:=id R)
             | (go_at_call 89;refine (cc _ _ _ p4 hv).mono ?_;rintro _ W5 ⟨rfl,hb1⟩;replace X:=X.keep hb1;replace R:=R.keep hb1;replace B:=B.keep hb1;replace HB:=later HB hb1;replace hqv:=hqv.keep hb1;replace hv:=hv.keep hb1;clear hb1 x0 x1 x2 x3 x4 x5 xl r0 r1 r2 r3 r4 r5 rl;obtain⟨x0,x1,x2,x3,x4,x5,xl⟩:=id X;obtain⟨r0,r1,r2,r3,r4,r5,rl⟩:=id R)
             | (go_at_call 90;refine (c1 _).mono ?_;rintro _ W6 ⟨⟨u6,rfl,p6⟩,hb1⟩;obtain⟨a1,a2,a3,rfl, -⟩:=p6.shape;replace X:=X.keep hb1;replace R:=R.keep hb1;replace B:=B.keep hb1;replace HB:=later HB hb1;replace hqv:=hqv.keep hb1;replace hv:=hv.keep hb1;clear hb1 x0 x1 x2 x3 x4 x5 xl r0 r1 r2 r3 r4 r5 rl;obtain⟨x0,x1,x2,x3,x4,x5,xl⟩:=id X;obtain⟨r0,r1,r2,r3,r4,r5,rl⟩:=id R)
             | (go_at_call 145;refine (cq _ _ _ hqv p6).mono ?_;rintro _ W7 ⟨⟨u7,rfl,p7⟩,hb1⟩;obtain⟨o7,k7,c7,rfl, -⟩:=p7.shape;replace X:=X.keep hb1;replace R:=R.keep hb1;replace B:=B.keep hb1;replace HB:=later HB hb1;replace hqv:=hqv.keep hb1;replace hv:=hv.keep hb1;clear hb1 x0 x1 x2 x3 x4 x5 xl r0 r1 r2 r3 r4 r5 rl;obtain⟨x0,x1,x2,x3,x4,x5,xl⟩:=id X;obtain⟨r0,r1,r2,r3,r4,r5,rl⟩:=id R))
           refine bodyPost_ret (v:=.agg #[.bool false,.slice o7 k7 c7,.int .i64 E2]) (by simp [results,Tryz.results139,go_sem, *]) rfl ⟨⟨.slice o7 k7 c7,rfl, ?_⟩, ?_⟩
           · rw [HP2.out]
             repeat' (first | (with_reducible exact p7) | (with_reducible exact B) | (with_reducible refine BigIs.put ?_ ?_ _ _) | (with_reducible refine Boxed.set ?_ _ _ _))
           · repeat' (first | (with_reducible exact HB) | (with_reducible refine Below.setCell ?_ ?_ _) | go_size)
       · have HP2:Hid (rtU RES M true=r):=by show _=_;rw [HP.out,if_neg (fun c=>by simp at c),Nat.add_zero]
         clear HP hcz cq c1 cc cb
         go_wp2_with fail
         refine bodyPost_ret (v:=.agg #[.bool false,.slice o9 k9 c9,.int .i64 E2]) (by simp [results,Tryz.results139,go_sem, *]) rfl ⟨⟨.slice o9 k9 c9,rfl, ?_⟩, ?_⟩
         · rw [HP2.out]
           repeat' (first | (with_reducible exact hqv) | (with_reducible exact B) | (with_reducible refine BigIs.put ?_ ?_ _ _) | (with_reducible refine Boxed.set ?_ _ _ _))
         · repeat' (first | (with_reducible exact HB) | (with_reducible refine Below.setCell ?_ ?_ _) | go_size)
     · obtain⟨j,rfl⟩:∃j,i=j+1:=⟨i-1,by omega⟩
       have h1:(j:Int)+1-1=(j:Int):=by omega
       have hjb:(j:Int)≤10001:=by omega
       have hpj:2^j<2^(Q):=Nat.pow_lt_pow_right (by omega) (by omega)
       have hK2:2^(Q+1)=2^(Q)+2^(Q):=by rw [Nat.pow_succ];omega
       have hr2:r<2^(Q):=Nat.lt_of_lt_of_le hrr (Nat.pow_le_pow_right (by omega) (by omega))
       have cl2:=fun W v (p:BigIs W v 1)=>left_w v 1 j (j/32) (j%32) (Q+1) (by omega) one (by omega) (by omega) (by omega) W p
       have cp:=fun W v1 v2 (p1:BigIs W v1 r) (p2:BigIs W v2 (1*2^j))=>plus_w v1 v2 r (1*2^j) (Q+1) (by omega) (by omega) (by omega) W p1 p2
       have htt:r+1*2^j<2^(Q+1):=by omega
       have hE3:=hE.out
       rw [isqN_succ] at hE3
       have e1:r+2^j=r+1*2^j:=by omega
       rw [e1] at hE3
       clear e1 hpj hK2 hr2
       generalize 1*2^j=pj at *
       generalize r+pj=tt at *
       have cb:=fun W v (p1:BigIs W v tt)=>by_w v v tt tt (Q+1) (by omega) htt htt W p1 p1
       have hsq:tt*tt<2^((Q+1+(Q+1))):=by rw [Nat.pow_add];exact Nat.mul_lt_mul'' htt htt
       have hMK:M<2^((Q+1+(Q+1))):=Nat.lt_of_lt_of_le HK.out (Nat.pow_le_pow_right (by omega) (by omega))
       have cc:=fun W v1 v2 (p1:BigIs W v1 (tt*tt)) (p2:BigIs W v2 M)=>cmp_w v1 v2 (tt*tt) M ((Q+1+(Q+1))) (by omega) hsq hMK W p1 p2
       have hHC:Below wr.heap.size wr wr:=Below.refl _ _
       clear htt one hKM hrr hi0 hE hsq hMK
       by_cases cmp:tt*tt≤M
       · rw [if_pos cmp] at hE3
         have M1:Hid _:=hE3
         have hcz:cmpN (tt*tt) M≤0:=by unfold cmpN;split;omega;split;omega;omega
         have M2:Hid (tt*tt≤M):=cmp
         obtain⟨t2,ht2⟩:∃t2,tt*tt=t2:=⟨_,rfl⟩
         rw [ht2] at cb cc hcz
         clear hE3 cmp hL ht2
         generalize cmpN t2 M=cz at *
         go_wp2_with (first
           | (go_at_call 90;refine (c1 _).mono ?_;rintro _ W1 ⟨⟨u1,rfl,p1⟩,hb1⟩;obtain⟨a1,a2,a3,rfl, -⟩:=p1.shape;replace hqv:=hqv.keep hb1;replace hv:=hv.keep hb1;replace hHC:=later hHC hb1;clear hb1)
           | (go_at_call 143;refine (cl2 _ _ p1).mono ?_;rintro _ W2 ⟨⟨u2,rfl,p2⟩,hb1⟩;obtain⟨b1,b2,b3,rfl, -⟩:=p2.shape;replace hqv:=hqv.keep hb1;replace hv:=hv.keep hb1;replace hHC:=later hHC hb1;clear hb1)
           | (go_at_call 145;refine (cp _ _ _ hqv p2).mono ?_;rintro _ W3 ⟨⟨u3,rfl,p3⟩,hb1⟩;obtain⟨d1,d2,d3,rfl, -⟩:=p3.shape;replace hqv:=hqv.keep hb1;replace hv:=hv.keep hb1;replace hHC:=later hHC hb1;clear hb1)
           | (go_at_call 171;refine (cb _ _ p3).mono ?_;rintro _ W4 ⟨⟨u4,rfl,p4⟩,hb1⟩;obtain⟨f1,f2,f3,rfl, -⟩:=p4.shape;replace hqv:=hqv.keep hb1;replace hv:=hv.keep hb1;replace hHC:=later hHC hb1;replace p3:=p3.keep hb1;clear hb1)
           | (go_at_call 89;refine (cc _ _ _ p4 hv).mono ?_;rintro _ W5 ⟨rfl,hb1⟩;replace hqv:=hqv.keep hb1;replace hv:=hv.keep hb1;replace hHC:=later hHC hb1;replace p3:=p3.keep hb1;clear hb1))
         go_roundg j
         case measure=>omega
         case rel=>exact⟨j,tt,by go_num,Nat.le_refl _,by omega,later HV hHC,p3,M1,M2⟩
       · rw [if_neg cmp] at hE3
         have M1:Hid _:=hE3
         have hcz:¬cmpN (tt*tt) M≤0:=by unfold cmpN;rw [if_neg (by omega),if_pos (by omega)];omega
         clear hE3 cmp
         generalize tt*tt=t2 at *
         generalize cmpN t2 M=cz at *
         go_wp2_with (first
           | (go_at_call 90;refine (c1 _).mono ?_;rintro _ W1 ⟨⟨u1,rfl,p1⟩,hb1⟩;obtain⟨a1,a2,a3,rfl, -⟩:=p1.shape;replace hqv:=hqv.keep hb1;replace hv:=hv.keep hb1;replace hHC:=later hHC hb1;clear hb1)
           | (go_at_call 143;refine (cl2 _ _ p1).mono ?_;rintro _ W2 ⟨⟨u2,rfl,p2⟩,hb1⟩;obtain⟨b1,b2,b3,rfl, -⟩:=p2.shape;replace hqv:=hqv.keep hb1;replace hv:=hv.keep hb1;replace hHC:=later hHC hb1;clear hb1)
           | (go_at_call 145;refine (cp _ _ _ hqv p2).mono ?_;rintro _ W3 ⟨⟨u3,rfl,p3⟩,hb1⟩;obtain⟨d1,d2,d3,rfl, -⟩:=p3.shape;replace hqv:=hqv.keep hb1;replace hv:=hv.keep hb1;replace hHC:=later hHC hb1;clear hb1)
           | (go_at_call 171;refine (cb _ _ p3).mono ?_;rintro _ W4 ⟨⟨u4,rfl,p4⟩,hb1⟩;obtain⟨f1,f2,f3,rfl, -⟩:=p4.shape;replace hqv:=hqv.keep hb1;replace hv:=hv.keep hb1;replace hHC:=later hHC hb1;replace p3:=p3.keep hb1;clear hb1)
           | (go_at_call 89;refine (cc _ _ _ p4 hv).mono ?_;rintro _ W5 ⟨rfl,hb1⟩;replace hqv:=hqv.keep hb1;replace hv:=hv.keep hb1;replace hHC:=later hHC hb1;replace p3:=p3.keep hb1;clear hb1))
         go_roundg j
         case measure=>omega
         case rel=>exact⟨j,r,by go_num,Nat.le_refl _,by omega,later HV hHC,hqv,M1,hL⟩
end Go.Proofs.YtopfabemfbdccaaGreat
