/- The reference's numbers between two: quotient. -/
import Derived.Test.YtopfabemfbdccaaGreatZe13
namespace Go.Proofs.YtopfabemfbdccaaGreat
open Go.ChangeShapes Go.WideShapes Go.ChangeAt Go.RowKit
theorem quot_step {b q rest R k:Nat} (h:R=b*(q*2^(k+1))+rest) (hl:rest<b*2^(k+1)):(b*2^k≤rest→R=b*((2*q+1)*2^k)+(rest-b*2^k)∧rest-b*2^k<b*2^k)∧(¬b*2^k≤rest→R=b*((2*q)*2^k)+rest∧rest<b*2^k):=by
 have e1:b*(q*2^(k+1))=b*(2*q*2^k):=by rw [Nat.pow_succ];congr 1;rw [Nat.mul_comm (2^k) 2,←Nat.mul_assoc,Nat.mul_comm q 2]
 have e2:b*2^(k+1)=b*2^k+b*2^k:=by rw [Nat.pow_succ];rw [←Nat.mul_assoc];omega
 rw [e1] at h
 rw [e2] at hl
 have e3:b*((2*q+1)*2^k)=b*(2*q*2^k)+b*2^k:=by rw [Nat.add_mul,Nat.one_mul,Nat.mul_add]
 rw [e3]
 constructor
 · intro c;omega
 · intro c;omega
theorem quot_end {b q rest R:Nat} (h:R=b*(q*2^0)+rest) (hl:rest<b*2^0):q=R/b∧rest=R%b:=by
 rw [Nat.pow_zero,Nat.mul_one] at h hl
 constructor
 · rw [h,Nat.mul_add_div (by omega),Nat.div_eq_of_lt hl,Nat.add_zero]
 · rw [h,Nat.mul_add_mod,Nat.mod_eq_of_lt hl]
theorem bits_mul {a n:Nat} (ha:a≠0):bitsN (a*2^n)=bitsN a+n:=by
 obtain⟨b,e,h1,h2⟩:=bitsN_low ha
 rw [e,show b+1+n=b+n+1 by omega]
 apply bitsN_of
 · rw [Nat.pow_add];exact Nat.mul_le_mul_right _ h1
 · rw [show b+n+1=(b+1)+n by omega,Nat.pow_add];exact Nat.mul_lt_mul_of_pos_right h2 (Nat.two_pow_pos n)
def quN (R b:Nat) (lo g:Bool):Nat:=R/b+(if R%b≠0∧lo=g then 1 else 0)
set_option maxRecDepth 4000 in
set_option maxHeartbeats 4000000 in
theorem quot_core {g h:Bool} {ao bo:Option Addr} {l ca k cb:Nat} {e f:Int} (he:-10000≤e∧e≤10000) (hf:-10000≤f∧f≤10000) (lo:Bool) (b n Rn KR:Nat) (hb0:b≠0) (hKR:KR≤20000) (hR:Rn<2^KR) (hbK:b*2^201<2^KR) (Na Nb:Nat) (hNa:(Na:Int)≤20000) (hNb:(Nb:Int)≤20000) (hn:200+(Nb:Int)-(Na:Int)=(n:Int)) (w:World) (hl:((l:Int)==0)=false) (hb:BigIs w (.slice bo k cb) b) (hRl:Rn<b*2^201)
   (ca1:∀W,Below w.heap.size w W→Calls Tryz.prog 87 #[.slice ao l ca] W fun e w'=>e=.returned (.int .i64 (Na:Int))∧w'=W)
   (cb1:∀W,Below w.heap.size w W→Calls Tryz.prog 87 #[.slice bo k cb] W fun e w'=>e=.returned (.int .i64 (Nb:Int))∧w'=W)
   (cl:∀W,Below w.heap.size w W→Calls Tryz.prog 143 #[.slice ao l ca,.int .i64 (n:Int)] W fun e w'=>(∃v',e=.returned v'∧BigIs w' v' Rn)∧Below W.heap.size W w')
   (cb2:∀W v,BigIs W v Rn→Calls Tryz.prog 87 #[v] W fun e w'=>e=.returned (.int .i64 ((Nb:Int)+200))∧w'=W) :
   Calls Tryz.prog 83 #[.agg #[.bool g,.slice ao l ca,.int .i64 e],.agg #[.bool h,.slice bo k cb,.int .i64 f],.int .i64 (dirZ lo)] w fun r w'=>(∃v,r=.returned (.agg #[.bool (g&&decide (0<quN Rn b lo g)),v,.int .i64 (e-f-n)])∧BigIs w' v (quN Rn b lo g))∧Below w.heap.size w w':=by
 have X:=((has3_new w (.bool g) (.slice ao l ca) (.int .i64 e) 29).alloc (.cells #[.bool h,.slice bo k cb,.int .i64 f] 29)).alloc (.cells #[.bool false,.slice none 0 0,.int .i64 0] 29)
 have Y:=(has3_new (w.alloc (.cells #[.bool g,.slice ao l ca,.int .i64 e] 29)) (.bool h) (.slice bo k cb) (.int .i64 f) 29).alloc (.cells #[.bool false,.slice none 0 0,.int .i64 0] 29)
 have R:=has3_new ((w.alloc (.cells #[.bool g,.slice ao l ca,.int .i64 e] 29)).alloc (.cells #[.bool h,.slice bo k cb,.int .i64 f] 29)) (.bool false) (.slice none 0 0) (.int .i64 0) 29
 have B:=Boxed.new ((w.alloc (.cells #[.bool g,.slice ao l ca,.int .i64 e] 29)).alloc (.cells #[.bool h,.slice bo k cb,.int .i64 f] 29)) #[.bool false,.slice none 0 0,.int .i64 0]
 simp only [World.size_alloc] at Y R B
 have HB:Below w.heap.size w (((w.alloc (.cells #[.bool g,.slice ao l ca,.int .i64 e] 29)).alloc (.cells #[.bool h,.slice bo k cb,.int .i64 f] 29)).alloc (.cells #[.bool false,.slice none 0 0,.int .i64 0] 29)):=by go_grown
 obtain⟨he1,he2⟩:=he
 obtain⟨hf1,hf2⟩:=hf
 have hn0:(0:Int)≤(n:Int):=by omega
 have hn1:¬(n:Int)<0:=by omega
 have hn2:(n:Int)≤21000:=by omega
 go_enter Tryz.func83,Tryz.ntmps83
 go_upto_region 1 with fail
 generalize (((w.alloc (.cells #[.bool g,.slice ao l ca,.int .i64 e] 29)).alloc (.cells #[.bool h,.slice bo k cb,.int .i64 f] 29)).alloc (.cells #[.bool false,.slice none 0 0,.int .i64 0] 29))=V1 at *
 obtain⟨x0,x1,x2,x3,x4,x5,xl⟩:=id X
 obtain⟨y0,y1,y2,y3,y4,y5,yl⟩:=id Y
 go_upto_region 3 with fail
 go_quiet (first
   | (go_at_call_of 87 (Value.slice bo k cb);exact Calls.quiet_of_same (cb1 _ (below_drewN HB _)))
   | (go_at_call_of 87 (Value.slice ao l ca);exact Calls.quiet_of_same (ca1 _ (below_drewN HB _))))
 have hb1:Below V1.heap.size V1 (V1.drewN nq):=below_drewN (Below.refl _ _) nq
 replace X:=X.keep hb1
 replace Y:=Y.keep hb1
 replace R:=R.keep hb1
 replace B:=B.keep hb1
 replace HB:=later HB hb1
 clear hb1 x0 x1 x2 x3 x4 x5 xl y0 y1 y2 y3 y4 y5 yl ca1
 generalize V1.drewN nq=V2 at *
 obtain⟨x0,x1,x2,x3,x4,x5,xl⟩:=id X
 go_upto_region 7 with (go_at_call 143;refine (cl _ HB).mono ?_;rintro _ V3 ⟨⟨v2,rfl,hv⟩,hb1⟩;obtain⟨o2,k2,c2,rfl, -⟩:=hv.shape;replace X:=X.keep hb1;replace Y:=Y.keep hb1;replace R:=R.keep hb1;replace B:=B.keep hb1;replace HB:=later HB hb1;clear hb1 x0 x1 x2 x3 x4 x5 xl)
 go_upto_region 8 with fail
 have hq0:BigIs (V3.alloc (.cells #[] 132)) (.slice (some ⟨V3.heap.size,0,none⟩) 0 0) 0:=⟨[],Digs.nil,trimmed_nil,rfl,(own_empty V3).row⟩
 have hb1:Below V3.heap.size V3 (V3.alloc (.cells #[] 132)):=by go_grown
 replace X:=X.keep hb1
 replace Y:=Y.keep hb1
 replace R:=R.keep hb1
 replace B:=B.keep hb1
 replace HB:=later HB hb1
 replace hv:=hv.keep hb1
 clear hb1 cl
 generalize V3.alloc (.cells #[] 132)=V4 at *
 generalize V3.heap.size=bq at *
 obtain⟨y0,y1,y2,y3,y4,y5,yl⟩:=id Y
 go_quiet (first
   | (go_at_call_of 87 (Value.slice bo k cb);exact Calls.quiet_of_same (cb1 _ (below_drewN HB _)))
   | (go_at_call_of 87 (Value.slice o2 k2 c2);exact Calls.quiet_of_same (cb2 _ _ (hv.keep (below_drewN (Below.refl _ _) _)))))
 have hb1:Below V4.heap.size V4 (V4.drewN nq):=below_drewN (Below.refl _ _) nq
 replace X:=X.keep hb1
 replace Y:=Y.keep hb1
 replace R:=R.keep hb1
 replace B:=B.keep hb1
 replace HB:=later HB hb1
 replace hv:=hv.keep hb1
 replace hq0:=hq0.keep hb1
 clear hb1 y0 y1 y2 y3 y4 y5 yl cb1 cb2
 generalize V4.drewN nq=V5 at *
 go_wp2_with fail
 have hbw:=hb.keep HB
 have hKb:b<2^KR:=by
   have:b*1≤b*2^201:=Nat.mul_le_mul_left _ (Nat.two_pow_pos 201)
   omega
 have one:(1:Nat)<2^KR:=by
   have:2^1≤b*2^201:=Nat.le_trans (Nat.pow_le_pow_right (by omega) (show 1≤201 by omega)) (by have:=Nat.mul_le_mul_right (2^201) (show 1≤b by omega);rw [Nat.one_mul] at this;exact this)
   omega
 have HK:Hid (b<2^KR∧1<2^KR∧Rn<2^KR∧b*2^201<2^KR):=⟨hKb,one,hR,hbK⟩
 have HS:Hid (Rn<b*2^201):=hRl
 clear hKb one hR hbK hRl
 have X5:=X
 have Y5:=Y
 have R5:=R
 have B5:=B
 have HB5:=HB
 go_loopg [8,9,10] 201 (fun G s8 s9 s10 wx=>∃(i q rest:Nat),s10=.int .i64 ((i:Int)-1)∧i≤G∧i≤201∧Below V5.heap.size V5 wx∧BigIs wx s8 rest∧BigIs wx s9 q∧Hid (Rn=b*(q*2^i)+rest)∧Hid (rest<b*2^i))
 case atStart=>exact⟨201,0,Rn,by rw [show (Nb:Int)+200-(Nb:Int)=((201:Nat):Int)-1 by omega],Nat.le_refl _,Nat.le_refl _,Below.refl _ _,hv,hq0,by show _=_;simp,HS⟩
 case round =>
   clear hv hq0 X Y R B HB
   obtain⟨i,q,rest,rfl,hiG,hi2,HV,hv,hqv,hE,hL⟩:=hrel
   have X:=X5.keep HV
   have Y:=Y5.keep HV
   have R:=R5.keep HV
   have B:=B5.keep HV
   have HB:=later HB5 HV
   have hbw:=hbw.keep HV
   obtain⟨o8,k8,c8,rfl,hk8⟩:=hv.shape
   obtain⟨o9,k9,c9,rfl,hk9⟩:=hqv.shape
   clear X5 Y5 R5 B5 HB5
   rcases Nat.eq_zero_or_pos i with rfl | hi0
   · obtain⟨hqe,hre⟩:=quot_end hE.out hL.out
     have HP:Hid (quN Rn b lo g=q+(if rest≠0∧lo=g then 1 else 0)):=by show _=_;unfold quN;rw [←hqe,←hre]
     have hqb:q<2^KR:=by
       rw [hqe]
       exact Nat.lt_of_le_of_lt (Nat.div_le_self _ _) HK.out.2.2.1
     have cq:=fun W v1 v2 (p1:BigIs W v1 q) (p2:BigIs W v2 1)=>plus_w v1 v2 q 1 KR (by omega) hqb HK.out.2.1 W p1 p2
     have c1:=fun W=>of_w 1 (by omega) W
     clear hE hL hqe hre hqb HK HS HV hiG hi2 hbw hb
     obtain⟨x0,x1,x2,x3,x4,x5,xl⟩:=id X
     obtain⟨y0,y1,y2,y3,y4,y5,yl⟩:=id Y
     obtain⟨r0,r1,r2,r3,r4,r5,rl⟩:=id R
     have hr0:(rest=0∧k8=0)∨(rest≠0∧0<k8):=by
       rcases Nat.eq_zero_or_pos rest with z | z
       · exact .inl ⟨z,hk8.2 z⟩
       · refine .inr ⟨by omega, ?_⟩
         rcases Nat.eq_zero_or_pos k8 with y | y
         · have:=hk8.1 y;omega
         · exact y
     clear hk8
     cases g <;> cases lo <;> simp only [dirZ,if_true,Bool.false_eq_true,if_false] at *
     · rcases hr0 with ⟨rz,rfl⟩ | ⟨hr1,hr2⟩
       · have HP2:Hid (quN Rn b false false=q):=by show _=_;rw [HP.out,if_neg (fun z=>z.1 rz),Nat.add_zero]
         clear HP cq c1 rz
         go_wp2_with fail
         refine bodyPost_ret (v:=.agg #[.bool false,.slice o9 k9 c9,.int .i64 (e-f-n)]) (by simp [results,Tryz.results83,go_sem, *]) rfl ⟨⟨.slice o9 k9 c9, ?_, ?_⟩, ?_⟩
         · first | rfl | simp
         · rw [HP2.out]
           repeat' (first | (with_reducible exact hqv) | (with_reducible exact B) | (with_reducible refine BigIs.put ?_ ?_ _ _) | (with_reducible refine Boxed.set ?_ _ _ _))
         · repeat' (first | (with_reducible exact HB) | (with_reducible refine Below.setCell ?_ ?_ _) | go_size)
       · have HP2:Hid (quN Rn b false false=q+1):=by show _=_;rw [HP.out,if_pos ⟨hr1,by simp⟩]
         clear HP hr1 hk9
         go_upto_region 18 with (first
           | (go_at_call 90;refine (c1 _).mono ?_;rintro _ V6 ⟨⟨v6,rfl,h6⟩,hb1⟩;obtain⟨o6,k6,c6,rfl, -⟩:=h6.shape;replace hqv:=hqv.keep hb1;replace X:=X.keep hb1;replace Y:=Y.keep hb1;replace R:=R.keep hb1;replace B:=B.keep hb1;replace HB:=later HB hb1;clear hb1 x0 x1 x2 x3 x4 x5 xl y0 y1 y2 y3 y4 y5 yl r0 r1 r2 r3 r4 r5 rl;obtain⟨x0,x1,x2,x3,x4,x5,xl⟩:=id X;obtain⟨y0,y1,y2,y3,y4,y5,yl⟩:=id Y;obtain⟨r0,r1,r2,r3,r4,r5,rl⟩:=id R)
           | (go_at_call 145;refine (cq _ _ _ hqv h6).mono ?_;rintro _ V7 ⟨⟨v7,rfl,h7⟩,hb1⟩;obtain⟨o7,k7,c7,rfl,hk7⟩:=h7.shape;replace X:=X.keep hb1;replace Y:=Y.keep hb1;replace R:=R.keep hb1;replace B:=B.keep hb1;replace HB:=later HB hb1;clear hb1 x0 x1 x2 x3 x4 x5 xl y0 y1 y2 y3 y4 y5 yl r0 r1 r2 r3 r4 r5 rl;obtain⟨x0,x1,x2,x3,x4,x5,xl⟩:=id X;obtain⟨y0,y1,y2,y3,y4,y5,yl⟩:=id Y;obtain⟨r0,r1,r2,r3,r4,r5,rl⟩:=id R))
         have z7:k7≠0:=fun y=>by have:=hk7.1 y;omega
         have q1:0<k7:=by omega
         have z2:Hid (decide (0<q+1)=true):=decide_eq_true (show 0<q+1 by omega)
         clear hqv h6 hk7
         go_wp2_with fail
         refine bodyPost_ret (v:=.agg #[.bool false,.slice o7 k7 c7,.int .i64 (e-f-n)]) (by simp [results,Tryz.results83,go_sem, *]) rfl ⟨⟨.slice o7 k7 c7, ?_, ?_⟩, ?_⟩
         · first | rfl | (rw [HP2.out,z2.out];rfl)
         · rw [HP2.out]
           repeat' (first | (with_reducible exact h7) | (with_reducible exact B) | (with_reducible refine BigIs.put ?_ ?_ _ _) | (with_reducible refine Boxed.set ?_ _ _ _))
         · repeat' (first | (with_reducible exact HB) | (with_reducible refine Below.setCell ?_ ?_ _) | go_size)
     · rcases hr0 with ⟨rz,rfl⟩ | ⟨hr1,hr2⟩
       · have HP2:Hid (quN Rn b true false=q):=by show _=_;rw [HP.out,if_neg (fun z=>z.1 rz),Nat.add_zero]
         clear HP cq c1 rz
         go_wp2_with fail
         refine bodyPost_ret (v:=.agg #[.bool false,.slice o9 k9 c9,.int .i64 (e-f-n)]) (by simp [results,Tryz.results83,go_sem, *]) rfl ⟨⟨.slice o9 k9 c9, ?_, ?_⟩, ?_⟩
         · first | rfl | simp
         · rw [HP2.out]
           repeat' (first | (with_reducible exact hqv) | (with_reducible exact B) | (with_reducible refine BigIs.put ?_ ?_ _ _) | (with_reducible refine Boxed.set ?_ _ _ _))
         · repeat' (first | (with_reducible exact HB) | (with_reducible refine Below.setCell ?_ ?_ _) | go_size)
       · have HP2:Hid (quN Rn b true false=q):=by show _=_;rw [HP.out,if_neg (fun z=>by simp at z),Nat.add_zero]
         clear HP cq c1 hr1
         go_wp2_with fail
         refine bodyPost_ret (v:=.agg #[.bool false,.slice o9 k9 c9,.int .i64 (e-f-n)]) (by simp [results,Tryz.results83,go_sem, *]) rfl ⟨⟨.slice o9 k9 c9, ?_, ?_⟩, ?_⟩
         · first | rfl | simp
         · rw [HP2.out]
           repeat' (first | (with_reducible exact hqv) | (with_reducible exact B) | (with_reducible refine BigIs.put ?_ ?_ _ _) | (with_reducible refine Boxed.set ?_ _ _ _))
         · repeat' (first | (with_reducible exact HB) | (with_reducible refine Below.setCell ?_ ?_ _) | go_size)
     · rcases hr0 with ⟨rz,rfl⟩ | ⟨hr1,hr2⟩
       · have HP2:Hid (quN Rn b false true=q):=by show _=_;rw [HP.out,if_neg (fun z=>z.1 rz),Nat.add_zero]
         clear HP cq c1 rz
         by_cases z:q=0
         · have z5:k9=0:=hk9.2 z
           subst z5
           have z2:Hid (decide (0<q)=false):=by show _=_;rw [z];rfl
           clear hk9 z
           go_wp2_with fail
           refine bodyPost_ret (v:=.agg #[.bool false,.slice o9 0 c9,.int .i64 (e-f-n)]) (by simp [results,Tryz.results83,go_sem, *]) rfl ⟨⟨.slice o9 0 c9, ?_, ?_⟩, ?_⟩
           · rw [HP2.out,z2.out];rfl
           · rw [HP2.out]
             repeat' (first | (with_reducible exact hqv) | (with_reducible exact B) | (with_reducible refine BigIs.put ?_ ?_ _ _) | (with_reducible refine Boxed.set ?_ _ _ _))
           · repeat' (first | (with_reducible exact HB) | (with_reducible refine Below.setCell ?_ ?_ _) | go_size)
         · have z5:k9≠0:=fun y=>z (hk9.1 y)
           have q1:0<k9:=by omega
           have z2:Hid (decide (0<q)=true):=decide_eq_true (show 0<q by omega)
           clear z hk9
           go_wp2_with fail
           refine bodyPost_ret (v:=.agg #[.bool true,.slice o9 k9 c9,.int .i64 (e-f-n)]) (by simp [results,Tryz.results83,go_sem, *]) rfl ⟨⟨.slice o9 k9 c9, ?_, ?_⟩, ?_⟩
           · rw [HP2.out,z2.out];rfl
           · rw [HP2.out]
             repeat' (first | (with_reducible exact hqv) | (with_reducible exact B) | (with_reducible refine BigIs.put ?_ ?_ _ _) | (with_reducible refine Boxed.set ?_ _ _ _))
           · repeat' (first | (with_reducible exact HB) | (with_reducible refine Below.setCell ?_ ?_ _) | go_size)
       · have HP2:Hid (quN Rn b false true=q):=by show _=_;rw [HP.out,if_neg (fun z=>by simp at z),Nat.add_zero]
         clear HP cq c1 hr1
         by_cases z:q=0
         · have z5:k9=0:=hk9.2 z
           subst z5
           have z2:Hid (decide (0<q)=false):=by show _=_;rw [z];rfl
           clear hk9 z
           go_wp2_with fail
           refine bodyPost_ret (v:=.agg #[.bool false,.slice o9 0 c9,.int .i64 (e-f-n)]) (by simp [results,Tryz.results83,go_sem, *]) rfl ⟨⟨.slice o9 0 c9, ?_, ?_⟩, ?_⟩
           · rw [HP2.out,z2.out];rfl
           · rw [HP2.out]
             repeat' (first | (with_reducible exact hqv) | (with_reducible exact B) | (with_reducible refine BigIs.put ?_ ?_ _ _) | (with_reducible refine Boxed.set ?_ _ _ _))
           · repeat' (first | (with_reducible exact HB) | (with_reducible refine Below.setCell ?_ ?_ _) | go_size)
         · have z5:k9≠0:=fun y=>z (hk9.1 y)
           have q1:0<k9:=by omega
           have z2:Hid (decide (0<q)=true):=decide_eq_true (show 0<q by omega)
           clear z hk9
           go_wp2_with fail
           refine bodyPost_ret (v:=.agg #[.bool true,.slice o9 k9 c9,.int .i64 (e-f-n)]) (by simp [results,Tryz.results83,go_sem, *]) rfl ⟨⟨.slice o9 k9 c9, ?_, ?_⟩, ?_⟩
           · rw [HP2.out,z2.out];rfl
           · rw [HP2.out]
             repeat' (first | (with_reducible exact hqv) | (with_reducible exact B) | (with_reducible refine BigIs.put ?_ ?_ _ _) | (with_reducible refine Boxed.set ?_ _ _ _))
           · repeat' (first | (with_reducible exact HB) | (with_reducible refine Below.setCell ?_ ?_ _) | go_size)
     · rcases hr0 with ⟨rz,rfl⟩ | ⟨hr1,hr2⟩
       · have HP2:Hid (quN Rn b true true=q):=by show _=_;rw [HP.out,if_neg (fun z=>z.1 rz),Nat.add_zero]
         clear HP cq c1 rz
         by_cases z:q=0
         · have z5:k9=0:=hk9.2 z
           subst z5
           have z2:Hid (decide (0<q)=false):=by show _=_;rw [z];rfl
           clear hk9 z
           go_wp2_with fail
           refine bodyPost_ret (v:=.agg #[.bool false,.slice o9 0 c9,.int .i64 (e-f-n)]) (by simp [results,Tryz.results83,go_sem, *]) rfl ⟨⟨.slice o9 0 c9, ?_, ?_⟩, ?_⟩
           · rw [HP2.out,z2.out];rfl
           · rw [HP2.out]
             repeat' (first | (with_reducible exact hqv) | (with_reducible exact B) | (with_reducible refine BigIs.put ?_ ?_ _ _) | (with_reducible refine Boxed.set ?_ _ _ _))
           · repeat' (first | (with_reducible exact HB) | (with_reducible refine Below.setCell ?_ ?_ _) | go_size)
         · have z5:k9≠0:=fun y=>z (hk9.1 y)
           have q1:0<k9:=by omega
           have z2:Hid (decide (0<q)=true):=decide_eq_true (show 0<q by omega)
           clear z hk9
           go_wp2_with fail
           refine bodyPost_ret (v:=.agg #[.bool true,.slice o9 k9 c9,.int .i64 (e-f-n)]) (by simp [results,Tryz.results83,go_sem, *]) rfl ⟨⟨.slice o9 k9 c9, ?_, ?_⟩, ?_⟩
           · rw [HP2.out,z2.out];rfl
           · rw [HP2.out]
             repeat' (first | (with_reducible exact hqv) | (with_reducible exact B) | (with_reducible refine BigIs.put ?_ ?_ _ _) | (with_reducible refine Boxed.set ?_ _ _ _))
           · repeat' (first | (with_reducible exact HB) | (with_reducible refine Below.setCell ?_ ?_ _) | go_size)
       · have HP2:Hid (quN Rn b true true=q+1):=by show _=_;rw [HP.out,if_pos ⟨hr1,by simp⟩]
         clear HP hr1 hk9
         go_upto_region 18 with (first
           | (go_at_call 90;refine (c1 _).mono ?_;rintro _ V6 ⟨⟨v6,rfl,h6⟩,hb1⟩;obtain⟨o6,k6,c6,rfl, -⟩:=h6.shape;replace hqv:=hqv.keep hb1;replace X:=X.keep hb1;replace Y:=Y.keep hb1;replace R:=R.keep hb1;replace B:=B.keep hb1;replace HB:=later HB hb1;clear hb1 x0 x1 x2 x3 x4 x5 xl y0 y1 y2 y3 y4 y5 yl r0 r1 r2 r3 r4 r5 rl;obtain⟨x0,x1,x2,x3,x4,x5,xl⟩:=id X;obtain⟨y0,y1,y2,y3,y4,y5,yl⟩:=id Y;obtain⟨r0,r1,r2,r3,r4,r5,rl⟩:=id R)
           | (go_at_call 145;refine (cq _ _ _ hqv h6).mono ?_;rintro _ V7 ⟨⟨v7,rfl,h7⟩,hb1⟩;obtain⟨o7,k7,c7,rfl,hk7⟩:=h7.shape;replace X:=X.keep hb1;replace Y:=Y.keep hb1;replace R:=R.keep hb1;replace B:=B.keep hb1;replace HB:=later HB hb1;clear hb1 x0 x1 x2 x3 x4 x5 xl y0 y1 y2 y3 y4 y5 yl r0 r1 r2 r3 r4 r5 rl;obtain⟨x0,x1,x2,x3,x4,x5,xl⟩:=id X;obtain⟨y0,y1,y2,y3,y4,y5,yl⟩:=id Y;obtain⟨r0,r1,r2,r3,r4,r5,rl⟩:=id R))
         have z7:k7≠0:=fun y=>by have:=hk7.1 y;omega
         have q1:0<k7:=by omega
         have z2:Hid (decide (0<q+1)=true):=decide_eq_true (show 0<q+1 by omega)
         clear hqv h6 hk7
         go_wp2_with fail
         refine bodyPost_ret (v:=.agg #[.bool true,.slice o7 k7 c7,.int .i64 (e-f-n)]) (by simp [results,Tryz.results83,go_sem, *]) rfl ⟨⟨.slice o7 k7 c7, ?_, ?_⟩, ?_⟩
         · first | rfl | (rw [HP2.out,z2.out];rfl)
         · rw [HP2.out]
           repeat' (first | (with_reducible exact h7) | (with_reducible exact B) | (with_reducible refine BigIs.put ?_ ?_ _ _) | (with_reducible refine Boxed.set ?_ _ _ _))
         · repeat' (first | (with_reducible exact HB) | (with_reducible refine Below.setCell ?_ ?_ _) | go_size)
   · obtain⟨j,rfl⟩:∃j,i=j+1:=⟨i-1,by omega⟩
     obtain⟨n1,n2⟩:=quot_step hE.out hL.out
     have h1:(j:Int)+1-1=(j:Int):=by omega
     have hqb:q<2^KR:=by
       have e:=hE.out
       have:q*1≤q*2^(j+1):=Nat.mul_le_mul_left _ (Nat.two_pow_pos _)
       have:1*(q*2^(j+1))≤b*(q*2^(j+1)):=Nat.mul_le_mul_right _ (by omega)
       have:=HK.out.2.2.1
       omega
     have hdb:b*2^j<2^KR:=by
       have:b*2^j≤b*2^201:=Nat.mul_le_mul_left _ (Nat.pow_le_pow_right (by omega) (by omega))
       have:=HK.out.2.2.2
       omega
     have hrb:rest<2^KR:=by
       have:=hE.out
       have:=HK.out.2.2.1
       omega
     have cd:=fun W (hW:Below wr.heap.size wr W)=>left_w (.slice bo k cb) b j (j/32) (j%32) KR (by omega) HK.out.1 (by omega) (by omega) (by omega) W (hbw.keep hW)
     have cq1:=fun W (hW:Below wr.heap.size wr W)=>left_w (.slice o9 k9 c9) q 1 0 1 KR (by omega) hqb (by omega) (by omega) (by omega) W (hqv.keep hW)
     have hq2:q*2^1=2*q:=by omega
     rw [hq2] at cq1
     have h2q:2*q<2^(KR+1):=by rw [Nat.pow_succ];omega
     have on2:(1:Nat)<2^(KR+1):=by rw [Nat.pow_succ];have:=HK.out.2.1;omega
     have cp:=fun W v1 v2 (p1:BigIs W v1 (2*q)) (p2:BigIs W v2 1)=>plus_w v1 v2 (2*q) 1 (KR+1) (by omega) h2q on2 W p1 p2
     have c1:=fun W=>of_w 1 (by omega) W
     generalize hd:b*2^j=d at *
     have cc:=fun W v1 v2 (p1:BigIs W v1 d) (p2:BigIs W v2 rest)=>cmp_w v1 v2 d rest KR (by omega) hdb hrb W p1 p2
     have hij:(j:Int)≤200:=by omega
     clear hdb hqb h2q on2 hi0 hE hL
     obtain⟨y0,y1,y2,y3,y4,y5,yl⟩:=id Y
     by_cases cmp:d≤rest
     · obtain⟨m1,m2⟩:=n1 cmp
       have cs:=fun W v1 v2 (p1:BigIs W v1 rest) (p2:BigIs W v2 d)=>less_w v1 v2 rest d KR (by omega) hrb cmp W p1 p2
       have hcz:cmpN d rest≤0:=by unfold cmpN;split;omega;split;omega;omega
       have M1:Hid _:=m1
       have M2:Hid (rest-d<b*2^j):=by show _<_;rw [hd];exact m2
       clear n1 n2 m1 m2 cmp hd hrb
       generalize cmpN d rest=cz at *
       have HC:Below wr.heap.size wr wr:=Below.refl _ _
       go_wp2_with (first
         | (go_at_call_of 143 (Value.slice bo k cb);refine (cd _ HC).mono ?_;rintro _ W1 ⟨⟨u1,rfl,p1⟩,hb1⟩;obtain⟨a1,a2,a3,rfl, -⟩:=p1.shape;replace hv:=hv.keep hb1;replace Y:=Y.keep hb1;replace HC:=later HC hb1;clear hb1 y0 y1 y2 y3 y4 y5 yl;obtain⟨y0,y1,y2,y3,y4,y5,yl⟩:=id Y)
         | (go_at_call_of 143 (Value.slice o9 k9 c9);refine (cq1 _ HC).mono ?_;rintro _ W2 ⟨⟨u2,rfl,p2⟩,hb1⟩;obtain⟨b1,b2,b3,rfl, -⟩:=p2.shape;replace hv:=hv.keep hb1;replace p1:=p1.keep hb1;replace HC:=later HC hb1;clear hb1)
         | (go_at_call 89;refine (cc _ _ _ p1 hv).mono ?_;rintro _ W3 ⟨rfl,hb1⟩;replace hv:=hv.keep hb1;replace p1:=p1.keep hb1;replace p2:=p2.keep hb1;replace HC:=later HC hb1;clear hb1)
         | (go_at_call 144;refine (cs _ _ _ hv p1).mono ?_;rintro _ W4 ⟨⟨u4,rfl,p4⟩,hb1⟩;obtain⟨d1,d2,d3,rfl, -⟩:=p4.shape;replace p2:=p2.keep hb1;replace HC:=later HC hb1;clear hb1)
         | (go_at_call 90;refine (c1 _).mono ?_;rintro _ W5 ⟨⟨u5,rfl,p5⟩,hb1⟩;obtain⟨e1,e2,e3,rfl, -⟩:=p5.shape;replace p2:=p2.keep hb1;replace p4:=p4.keep hb1;replace HC:=later HC hb1;clear hb1)
         | (go_at_call 145;refine (cp _ _ _ p2 p5).mono ?_;rintro _ W6 ⟨⟨u6,rfl,p6⟩,hb1⟩;replace p4:=p4.keep hb1;replace HC:=later HC hb1;clear hb1))
       go_roundg j
       case measure=>omega
       case rel=>exact⟨j,2*q+1,rest-d,by go_num,Nat.le_refl _,by omega,later HV HC,p4,p6,M1,M2⟩
     · obtain⟨m1,m2⟩:=n2 cmp
       have hcz:¬cmpN d rest≤0:=by unfold cmpN;rw [if_neg (by omega),if_pos (by omega)];omega
       have M1:Hid _:=m1
       have M2:Hid (rest<b*2^j):=by show _<_;rw [hd];exact m2
       clear n1 n2 m1 m2 cmp hd hrb cp c1
       generalize cmpN d rest=cz at *
       have HC:Below wr.heap.size wr wr:=Below.refl _ _
       go_wp2_with (first
         | (go_at_call_of 143 (Value.slice bo k cb);refine (cd _ HC).mono ?_;rintro _ W1 ⟨⟨u1,rfl,p1⟩,hb1⟩;obtain⟨a1,a2,a3,rfl, -⟩:=p1.shape;replace hv:=hv.keep hb1;replace Y:=Y.keep hb1;replace HC:=later HC hb1;clear hb1 y0 y1 y2 y3 y4 y5 yl;obtain⟨y0,y1,y2,y3,y4,y5,yl⟩:=id Y)
         | (go_at_call_of 143 (Value.slice o9 k9 c9);refine (cq1 _ HC).mono ?_;rintro _ W2 ⟨⟨u2,rfl,p2⟩,hb1⟩;replace hv:=hv.keep hb1;replace p1:=p1.keep hb1;replace HC:=later HC hb1;clear hb1)
         | (go_at_call 89;refine (cc _ _ _ p1 hv).mono ?_;rintro _ W3 ⟨rfl,hb1⟩;replace hv:=hv.keep hb1;replace p1:=p1.keep hb1;replace p2:=p2.keep hb1;replace HC:=later HC hb1;clear hb1))
       go_roundg j
       case measure=>omega
       case rel=>exact⟨j,2*q,rest,by go_num,Nat.le_refl _,by omega,later HV HC,hv,p2,M1,M2⟩
end Go.Proofs.YtopfabemfbdccaaGreat
