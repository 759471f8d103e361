/- TapeTrimmed: the law's walk. TapeTrimmed of tapes as they lie in memory. -/
import Derived.Test.YtfdelmgingefkaaGreatZ53
namespace Go.Proofs.YtfdelmgingefkaaGreat
open Go.ChangeShapes Go.WideShapes Go.ChangeAt Go.RowKit
theorem alive5_w (w:World):Calls Tryz.prog 26 #[] w fun x w'=>x=.returned (.bool true)∧w=w':=by
 have hn:nextB 4607182418800017408=4607182418800017409:=by decide
 have ho:FloatKind.f64.format.order 4607182418800017409 4607182418800017408=some Ordering.gt:=by rw [order_eq _ _ (by omega) (by omega)];rfl
 go_enter Tryz.func26,Tryz.ntmps26
 go_wp2_with (go_at_call 65;refine (next_w 4607182418800017408 (by omega) _).mono ?_;rintro _ _ ⟨rfl,rfl⟩)
 go_ret
 exact⟨rfl,rfl⟩
set_option maxRecDepth 4000 in
set_option maxHeartbeats 4000000 in
theorem tt_bad (v:Int) (A:Option Addr) (n C:Nat) (D:Option Addr) (m E L:Nat) (xs:Value) (hn:n≤400) (hv:v≤12) (hL:L≤n) (w:World)
   (P:World→Option Addr→Option Addr→Prop) (hP:∀W W' A' D',P W A' D'→Below W.heap.size W W'→P W' A' D')
   (cR:∀W,Below w.heap.size w W→Calls Tryz.prog 27 #[tapeV v A n C D m E] W fun e w'=>e=.returned (.int .i64 0)∧Below W.heap.size W w')
   (cT:∀W,Below w.heap.size w W→Calls Tryz.prog 28 #[tapeV v A n C D m E] W fun e w'=>(∃A1 C1 D1 E1,e=.returned (.tuple #[tapeV v A1 L C1 D1 m E1,.int .i64 0])∧P w' A1 D1)∧Below W.heap.size W w')
   (cU:∀W A1 C1 D1 E1,P W A1 D1→Calls Tryz.prog 28 #[tapeV v A1 L C1 D1 m E1] W fun e w'=>(∃A2 C2 D2 E2,e=.returned (.tuple #[tapeV v A2 L C2 D2 m E2,.int .i64 0])∧P w' A2 D2)∧Below W.heap.size W w')
   (cL:∀W A1 C1 D1 E1 A2 C2 D2 E2,P W A1 D1→P W A2 D2→Calls Tryz.prog 29 #[tapeV v A1 L C1 D1 m E1,tapeV v A2 L C2 D2 m E2] W fun e w'=>e=.returned (.bool true)∧Below W.heap.size W w')
   (g:Int) (hg:(g != 0)=true) (cG:∀W,Below w.heap.size w W→Calls Tryz.prog 30 #[tapeV v A n C D m E,xs] W fun e w'=>e=.returned (.tuple #[.slice none 0 0,.slice none 0 0,.int .i64 g])∧Below W.heap.size W w')
   (cH:∀W A1 C1 D1 E1,Below w.heap.size w W→P W A1 D1→Calls Tryz.prog 30 #[tapeV v A1 L C1 D1 m E1,xs] W fun e w'=>(∃vb vd h,e=.returned (.tuple #[vb,vd,.int .i64 h])∧(h=0∨h=g∨h=51∨h=5))∧Below W.heap.size W w') :
   Calls Tryz.prog 4 #[tapeV v A n C D m E,xs] w fun e w'=>e=.returned (.bool true)∧Below w.heap.size w w':=by
 have t:=tap3_new w (.int .i64 v) (.slice A n C) (.slice D m E) 45
 have HB:Below w.heap.size w (w.alloc (.cells #[.int .i64 v,.slice A n C,.slice D m E] 45)):=by go_grown
 have q1:¬(n:Int)>400:=by omega
 have q2:¬v>12:=by omega
 have q3:¬(L:Int)>(n:Int):=by omega
 have HP:Hid (∀W W' A' D',P W A' D'→Below W.heap.size W W'→P W' A' D'):=hP
 clear hP
 unfold tapeV at *
 go_enter Tryz.func4,Tryz.ntmps4
 go_upto_region 1 with fail
 generalize w.alloc (.cells #[.int .i64 v,.slice A n C,.slice D m E] 45)=V1 at *
 obtain⟨t0,t1,t2,t3,t4,t5,tl⟩:=id t
 go_upto_region 5 with (first
   | (go_at_call 26;refine (alive5_w _).mono ?_;rintro _ _ ⟨rfl,rfl⟩)
   | (go_at_call 27;refine (cR _ HB).mono ?_;rintro _ V2 ⟨rfl,hb1⟩;replace t:=t.keep hb1;replace HB:=later HB hb1;clear hb1 t0 t1 t2 t3 t4 t5 tl;obtain⟨t0,t1,t2,t3,t4,t5,tl⟩:=id t))
 clear cR
 go_upto_region 6 with (go_at_call 28;refine (cT _ HB).mono ?_;rintro _ V3 ⟨⟨A1,C1,D1,E1,rfl,p1⟩,hb1⟩;replace t:=t.keep hb1;replace HB:=later HB hb1;clear hb1 t0 t1 t2 t3 t4 t5 tl)
 have s:=tap3_new V3 (.int .i64 v) (.slice A1 L C1) (.slice D1 m E1) 45
 have hb1:Below V3.heap.size V3 (V3.alloc (.cells #[.int .i64 v,.slice A1 L C1,.slice D1 m E1] 45)):=by go_grown
 replace t:=t.keep hb1
 replace HB:=later HB hb1
 replace p1:=HP.out _ _ _ _ p1 hb1
 clear hb1 cT
 generalize V3.alloc (.cells #[.int .i64 v,.slice A1 L C1,.slice D1 m E1] 45)=V4 at *
 generalize V3.heap.size=bs at *
 obtain⟨s0,s1,s2,s3,s4,s5,sl⟩:=id s
 go_upto_region 7 with (go_at_call 28;refine (cU _ _ _ _ _ p1).mono ?_;rintro _ V5 ⟨⟨A2,C2,D2,E2,rfl,p2⟩,hb1⟩;replace t:=t.keep hb1;replace s:=s.keep hb1;replace HB:=later HB hb1;replace p1:=HP.out _ _ _ _ p1 hb1;clear hb1 s0 s1 s2 s3 s4 s5 sl)
 have u:=tap3_new V5 (.int .i64 v) (.slice A2 L C2) (.slice D2 m E2) 45
 have hb1:Below V5.heap.size V5 (V5.alloc (.cells #[.int .i64 v,.slice A2 L C2,.slice D2 m E2] 45)):=by go_grown
 replace t:=t.keep hb1
 replace s:=s.keep hb1
 replace HB:=later HB hb1
 replace p1:=HP.out _ _ _ _ p1 hb1
 replace p2:=HP.out _ _ _ _ p2 hb1
 clear hb1 cU
 generalize V5.alloc (.cells #[.int .i64 v,.slice A2 L C2,.slice D2 m E2] 45)=V6 at *
 generalize V5.heap.size=bu at *
 obtain⟨t0,t1,t2,t3,t4,t5,tl⟩:=id t
 obtain⟨s0,s1,s2,s3,s4,s5,sl⟩:=id s
 obtain⟨u0,u1,u2,u3,u4,u5,ul⟩:=id u
 go_upto_region 9 with (go_at_call 29;refine (cL _ _ _ _ _ _ _ _ _ p1 p2).mono ?_;rintro _ V7 ⟨rfl,hb1⟩;replace t:=t.keep hb1;replace s:=s.keep hb1;replace HB:=later HB hb1;replace p1:=HP.out _ _ _ _ p1 hb1;clear hb1 p2 u t0 t1 t2 t3 t4 t5 tl s0 s1 s2 s3 s4 s5 sl u0 u1 u2 u3 u4 u5 ul;obtain⟨t0,t1,t2,t3,t4,t5,tl⟩:=id t;obtain⟨s0,s1,s2,s3,s4,s5,sl⟩:=id s)
 clear cL
 go_upto_region 10 with (go_at_call 30;refine (cG _ HB).mono ?_;rintro _ V8 ⟨rfl,hb1⟩;replace s:=s.keep hb1;replace HB:=later HB hb1;replace p1:=HP.out _ _ _ _ p1 hb1;clear hb1 s0 s1 s2 s3 s4 s5 sl;obtain⟨s0,s1,s2,s3,s4,s5,sl⟩:=id s)
 go_upto_region 11 with (go_at_call 30;refine (cH _ _ _ _ _ HB p1).mono ?_;rintro _ V9 ⟨⟨vb,vd,h,rfl,hh⟩,hb1⟩;replace HB:=later HB hb1)
 rcases hh with rfl | rfl | rfl | rfl
 · go_wp2_with fail
   go_ret
   exact⟨by simp,HB⟩
 · by_cases c:h=0
   · subst c
     simp at hg
   · have e0:(h==0)=false:=by rw [beq_eq_false_iff_ne];exact c
     go_wp2_with fail
     go_ret
     exact⟨by simp,HB⟩
 · by_cases c:g=51
   · subst c
     go_wp2_with fail
     go_ret
     exact⟨by simp,HB⟩
   · have e0:((51:Int)==g)=false:=by rw [beq_eq_false_iff_ne];omega
     go_wp2_with fail
     go_ret
     exact⟨by simp,HB⟩
 · by_cases c:g=5
   · subst c
     go_wp2_with fail
     go_ret
     exact⟨by simp,HB⟩
   · have e0:((5:Int)==g)=false:=by rw [beq_eq_false_iff_ne];omega
     go_wp2_with fail
     go_ret
     exact⟨by simp,HB⟩
set_option maxRecDepth 4000 in
set_option maxHeartbeats 4000000 in
theorem tt_good (v:Int) (A:Option Addr) (n C:Nat) (D:Option Addr) (m E L:Nat) (xs:Value) (hn:n≤400) (hv:v≤12) (hL:L≤n) (w:World)
   (P:World→Option Addr→Option Addr→Prop) (hP:∀W W' A' D',P W A' D'→Below W.heap.size W W'→P W' A' D')
   (cR:∀W,Below w.heap.size w W→Calls Tryz.prog 27 #[tapeV v A n C D m E] W fun e w'=>e=.returned (.int .i64 0)∧Below W.heap.size W w')
   (cT:∀W,Below w.heap.size w W→Calls Tryz.prog 28 #[tapeV v A n C D m E] W fun e w'=>(∃A1 C1 D1 E1,e=.returned (.tuple #[tapeV v A1 L C1 D1 m E1,.int .i64 0])∧P w' A1 D1)∧Below W.heap.size W w')
   (cU:∀W A1 C1 D1 E1,P W A1 D1→Calls Tryz.prog 28 #[tapeV v A1 L C1 D1 m E1] W fun e w'=>(∃A2 C2 D2 E2,e=.returned (.tuple #[tapeV v A2 L C2 D2 m E2,.int .i64 0])∧P w' A2 D2)∧Below W.heap.size W w')
   (cL:∀W A1 C1 D1 E1 A2 C2 D2 E2,P W A1 D1→P W A2 D2→Calls Tryz.prog 29 #[tapeV v A1 L C1 D1 m E1,tapeV v A2 L C2 D2 m E2] W fun e w'=>e=.returned (.bool true)∧Below W.heap.size W w')
   (mx:Nat) (XV ZV:Nat→Nat×Nat) (XR ZR:Nat→Nat→Nat×Nat) (hm:m≤400) (hW:∀i,i<m→W2 (XV i)) (hXZ:∀i,i<m→XV i=ZV i) (hRZ:∀i,i<m→XR i=ZR i)
   (cG:∀W,Below w.heap.size w W→Calls Tryz.prog 30 #[tapeV v A n C D m E,xs] W fun e w'=>(∃g h SA SC,e=.returned (.tuple #[.slice (some ⟨g,0,none⟩) m m,.slice (some ⟨h,0,none⟩) m m,.int .i64 0])∧Img w' g m XV∧Rws w' (some ⟨h,0,none⟩) m SA (fun _=>mx) SC XR)∧Below W.heap.size W w')
   (cH:∀W A1 C1 D1 E1,Below w.heap.size w W→P W A1 D1→Calls Tryz.prog 30 #[tapeV v A1 L C1 D1 m E1,xs] W fun e w'=>(∃g h SA SC,e=.returned (.tuple #[.slice (some ⟨g,0,none⟩) m m,.slice (some ⟨h,0,none⟩) m m,.int .i64 0])∧Img w' g m ZV∧Rws w' (some ⟨h,0,none⟩) m SA (fun _=>mx) SC ZR)∧Below W.heap.size W w') :
   Calls Tryz.prog 4 #[tapeV v A n C D m E,xs] w fun e w'=>e=.returned (.bool true)∧Below w.heap.size w w':=by
 have t:=tap3_new w (.int .i64 v) (.slice A n C) (.slice D m E) 45
 have HB:Below w.heap.size w (w.alloc (.cells #[.int .i64 v,.slice A n C,.slice D m E] 45)):=by go_grown
 have q1:¬(n:Int)>400:=by omega
 have q2:¬v>12:=by omega
 have q3:¬(L:Int)>(n:Int):=by omega
 have HP:Hid (∀W W' A' D',P W A' D'→Below W.heap.size W W'→P W' A' D'):=hP
 clear hP
 unfold tapeV at *
 go_enter Tryz.func4,Tryz.ntmps4
 go_upto_region 1 with fail
 generalize w.alloc (.cells #[.int .i64 v,.slice A n C,.slice D m E] 45)=V1 at *
 obtain⟨t0,t1,t2,t3,t4,t5,tl⟩:=id t
 go_upto_region 5 with (first
   | (go_at_call 26;refine (alive5_w _).mono ?_;rintro _ _ ⟨rfl,rfl⟩)
   | (go_at_call 27;refine (cR _ HB).mono ?_;rintro _ V2 ⟨rfl,hb1⟩;replace t:=t.keep hb1;replace HB:=later HB hb1;clear hb1 t0 t1 t2 t3 t4 t5 tl;obtain⟨t0,t1,t2,t3,t4,t5,tl⟩:=id t))
 clear cR
 go_upto_region 6 with (go_at_call 28;refine (cT _ HB).mono ?_;rintro _ V3 ⟨⟨A1,C1,D1,E1,rfl,p1⟩,hb1⟩;replace t:=t.keep hb1;replace HB:=later HB hb1;clear hb1 t0 t1 t2 t3 t4 t5 tl)
 have s:=tap3_new V3 (.int .i64 v) (.slice A1 L C1) (.slice D1 m E1) 45
 have hb1:Below V3.heap.size V3 (V3.alloc (.cells #[.int .i64 v,.slice A1 L C1,.slice D1 m E1] 45)):=by go_grown
 replace t:=t.keep hb1
 replace HB:=later HB hb1
 replace p1:=HP.out _ _ _ _ p1 hb1
 clear hb1 cT
 generalize V3.alloc (.cells #[.int .i64 v,.slice A1 L C1,.slice D1 m E1] 45)=V4 at *
 generalize V3.heap.size=bs at *
 obtain⟨s0,s1,s2,s3,s4,s5,sl⟩:=id s
 go_upto_region 7 with (go_at_call 28;refine (cU _ _ _ _ _ p1).mono ?_;rintro _ V5 ⟨⟨A2,C2,D2,E2,rfl,p2⟩,hb1⟩;replace t:=t.keep hb1;replace s:=s.keep hb1;replace HB:=later HB hb1;replace p1:=HP.out _ _ _ _ p1 hb1;clear hb1 s0 s1 s2 s3 s4 s5 sl)
 have u:=tap3_new V5 (.int .i64 v) (.slice A2 L C2) (.slice D2 m E2) 45
 have hb1:Below V5.heap.size V5 (V5.alloc (.cells #[.int .i64 v,.slice A2 L C2,.slice D2 m E2] 45)):=by go_grown
 replace t:=t.keep hb1
 replace s:=s.keep hb1
 replace HB:=later HB hb1
 replace p1:=HP.out _ _ _ _ p1 hb1
 replace p2:=HP.out _ _ _ _ p2 hb1
 clear hb1 cU
 generalize V5.alloc (.cells #[.int .i64 v,.slice A2 L C2,.slice D2 m E2] 45)=V6 at *
 generalize V5.heap.size=bu at *
 obtain⟨t0,t1,t2,t3,t4,t5,tl⟩:=id t
 obtain⟨s0,s1,s2,s3,s4,s5,sl⟩:=id s
 obtain⟨u0,u1,u2,u3,u4,u5,ul⟩:=id u
 go_upto_region 9 with (go_at_call 29;refine (cL _ _ _ _ _ _ _ _ _ p1 p2).mono ?_;rintro _ V7 ⟨rfl,hb1⟩;replace t:=t.keep hb1;replace s:=s.keep hb1;replace HB:=later HB hb1;replace p1:=HP.out _ _ _ _ p1 hb1;clear hb1 p2 u t0 t1 t2 t3 t4 t5 tl s0 s1 s2 s3 s4 s5 sl u0 u1 u2 u3 u4 u5 ul;obtain⟨t0,t1,t2,t3,t4,t5,tl⟩:=id t;obtain⟨s0,s1,s2,s3,s4,s5,sl⟩:=id s)
 clear cL
 have HW:Hid (∀i,i<m→W2 (XV i)):=hW
 have HXZ:Hid (∀i,i<m→XV i=ZV i):=hXZ
 have HRZ:Hid (∀i,i<m→XR i=ZR i):=hRZ
 clear hW hXZ hRZ
 go_upto_region 10 with (go_at_call 30;refine (cG _ HB).mono ?_;rintro _ V8 ⟨⟨g1,h1,SA1,SC1,rfl,I1,R1⟩,hb1⟩;replace s:=s.keep hb1;replace HB:=later HB hb1;replace p1:=HP.out _ _ _ _ p1 hb1;clear hb1 s0 s1 s2 s3 s4 s5 sl;obtain⟨s0,s1,s2,s3,s4,s5,sl⟩:=id s)
 go_upto_region 11 with (go_at_call 30;refine (cH _ _ _ _ _ HB p1).mono ?_;rintro _ V9 ⟨⟨g2,h2,SA2,SC2,rfl,I2,R2⟩,hb1⟩;replace HB:=later HB hb1;replace I1:=I1.keep hb1;replace R1:=R1.keep hb1;clear hb1)
 have J1:=I1.ivs (fun i hi=>HW.out i hi)
 have J2:=I2.ivs (fun i hi=>by have:=HW.out i hi;rw [HXZ.out i hi] at this;exact this)
 have cS:=fun W (hW:Below V9.heap.size V9 W)=>rsameV_w (some ⟨g1,0,none⟩) (some ⟨g2,0,none⟩) m m m XV ZV (by omega) HXZ.out W (J1.keep hW) (J2.keep hW)
 have cA:=fun W (hW:Below V9.heap.size V9 W)=>rsameA_w (some ⟨h1,0,none⟩) (some ⟨h2,0,none⟩) m m m SA1 SA2 (fun _=>mx) SC1 (fun _=>mx) SC2 XR ZR (by omega) (fun _ _=>rfl) (fun r hr c _=>by rw [HRZ.out r hr]) W (R1.keep hW) (R2.keep hW)
 have HC:Below V9.heap.size V9 V9:=Below.refl _ _
 go_wp2_with (first
   | (go_at_call 31;refine (cS _ HC).mono ?_;rintro _ Va ⟨rfl,hb1⟩;replace HC:=later HC hb1;clear hb1)
   | (go_at_call 32;refine (cA _ HC).mono ?_;rintro _ Vb ⟨rfl,hb1⟩;replace HC:=later HC hb1;clear hb1))
 go_ret
 exact⟨rfl,later HB HC⟩
theorem right_all {v:Int} {n:Nat} {X:Nat→Opw} {m:Nat} {Y:Nat→Int} (h:rightT v n X m Y=true):(0≤v∧v≤64∧n≤4000∧m≤400)∧(∀i,i<n→opB (X i) (i:Int) v=true)∧(∀k,k<m→0≤Y k∧Y k<(n:Int)):=by
 unfold rightT sizesB opsB outsB at h
 simp only [Bool.and_eq_true] at h
 obtain⟨⟨h1,h2⟩,h3⟩:=h
 rw [all_upto2] at h2 h3
 exact⟨of_decide_eq_true h1,h2,fun k hk=>of_decide_eq_true (h3 k hk)⟩
theorem right_of {v:Int} {n:Nat} {X:Nat→Opw} {m:Nat} {Y:Nat→Int} (h1:0≤v∧v≤64∧n≤4000∧m≤400) (h2:∀i,i<n→opB (X i) (i:Int) v=true) (h3:∀k,k<m→0≤Y k∧Y k<(n:Int)):rightT v n X m Y=true:=by
 unfold rightT sizesB opsB outsB
 simp only [Bool.and_eq_true]
 refine⟨⟨decide_eq_true h1, ?_⟩, ?_⟩
 · rw [all_upto2];exact h2
 · rw [all_upto2];exact fun k hk=>decide_eq_true (h3 k hk)
theorem Ins.congr {w:World} {A:Option Addr} {n:Nat} {Y Z:Nat→Int} (h:Ins w A n Y) (e:∀i,i<n→Y i=Z i):Ins w A n Z:=fun i hi=>by
 obtain⟨b,o,e1,l,c⟩:=h i hi
 exact⟨b,o,e1,l,by rw [←e i hi];exact c⟩
theorem trim_say (v:Int) (A:Option Addr) (n C:Nat) (D:Option Addr) (m E:Nat) (X:Nat→Opw) (Y:Nat→Int) (hr:rightT v n X m Y=true) (w:World) (VX:Ops w A n X) (VY:Ins w D m Y) :
   Calls Tryz.prog 28 #[tapeV v A n C D m E] w fun e w'=>(∃A1 C1 D1 E1,e=.returned (.tuple #[tapeV v A1 (trimS X (needF X n Y m) n).1.length C1 D1 m E1,.int .i64 0])∧Ops w' A1 (trimS X (needF X n Y m) n).1.length (atL (trimS X (needF X n Y m) n).1)∧Ins w' D1 m (fun k=>(trimS X (needF X n Y m) n).2 (Y k).toNat))∧Below w.heap.size w w':=by
 obtain⟨h1,h2,h3⟩:=right_all hr
 have p4':∀i,i<n→∀j,j<(X i).ar→0≤(X i).at j∧(X i).at j<(n:Int):=fun i hi j hj=>by have:=opB_at (h2 i hi) hj;omega
 have ok:∀i,i<n→(X i).ok:=fun i hi=>by obtain⟨-, -, -, -, -, -, -, -, -, -,l0,l1⟩:=VX i hi;exact⟨l0,l1⟩
 have F:=trim_facts (nd:=needF X n Y m) ok n (Nat.le_refl _)
 refine (trim_good v A n C D m E X Y (by omega) (by omega) (needF X n Y m) h3 p4' ok w VX VY (fun w3 q3=>?_) (fun w3 q3=>need_w v A n C D m E X Y (by omega) (by omega) h3 p4' w3 (VX.keep q3) (VY.keep q3))).mono ?_
 · have:=right_t v A n C D m E X Y (by omega) (by omega) w3 (VX.keep q3) (VY.keep q3)
   rw [hr] at this
   exact this
 · rintro _ w' ⟨⟨S0,S1,vO,vN,rfl,hO,hN⟩,hb⟩
   obtain⟨OA,OC,rfl,VO⟩:=own_ops hO F.1
   obtain⟨NA,NC,rfl,VN⟩:=own_ins hN
   rw [outL_len] at VN ⊢
   refine⟨⟨OA,OC,NA,NC,rfl,VO,VN.congr fun i hi=>?_⟩,hb⟩
   unfold outL
   simp [hi]
set_option maxRecDepth 4000 in
set_option maxHeartbeats 1000000 in
theorem grad_bad (v:Int) (A:Option Addr) (n C:Nat) (D:Option Addr) (m E:Nat) (xs:Value) (ee:Int) (he:(ee != 0)=true) (w:World)
   (c1:∀W,Below w.heap.size w W→Calls Tryz.prog 71 #[tapeV v A n C D m E,xs] W fun e w'=>e=.returned (.int .i64 ee)∧Below W.heap.size W w') :
   Calls Tryz.prog 30 #[tapeV v A n C D m E,xs] w fun e w'=>e=.returned (.tuple #[.slice none 0 0,.slice none 0 0,.int .i64 ee])∧Below w.heap.size w w':=by
 have HB:Below w.heap.size w (w.alloc (.cells #[.int .i64 v,.slice A n C,.slice D m E] 45)):=by go_grown
 unfold tapeV at *
 go_enter Tryz.func30,Tryz.ntmps30
 go_wp2_with (go_at_call 71;refine (c1 _ HB).mono ?_;rintro _ V2 ⟨rfl,hb1⟩;replace HB:=later HB hb1)
 refine bodyPost_ret (v:=.tuple #[.slice none 0 0,.slice none 0 0,.int .i64 ee]) (by simp [results,Tryz.results30,go_sem, *]) rfl ⟨rfl,HB⟩
set_option maxRecDepth 4000 in
set_option maxHeartbeats 1000000 in
theorem tt_early (v:Int) (A:Option Addr) (n C:Nat) (D:Option Addr) (m E:Nat) (xs:Value) (r:Int) (h:(r=50)∨(r=0∧(n:Int)>400)∨(r=0∧¬(n:Int)>400∧v>12)) (w:World)
   (cR:∀W,Below w.heap.size w W→Calls Tryz.prog 27 #[tapeV v A n C D m E] W fun e w'=>e=.returned (.int .i64 r)∧Below W.heap.size W w') :
   Calls Tryz.prog 4 #[tapeV v A n C D m E,xs] w fun e w'=>e=.returned (.bool true)∧Below w.heap.size w w':=by
 have t:=tap3_new w (.int .i64 v) (.slice A n C) (.slice D m E) 45
 have HB:Below w.heap.size w (w.alloc (.cells #[.int .i64 v,.slice A n C,.slice D m E] 45)):=by go_grown
 unfold tapeV at *
 rcases h with rfl | ⟨rfl,h1⟩ | ⟨rfl,h1,h2⟩
 all_goals
   go_enter Tryz.func4,Tryz.ntmps4
   go_upto_region 1 with fail
   generalize w.alloc (.cells #[.int .i64 v,.slice A n C,.slice D m E] 45)=V1 at *
   obtain⟨t0,t1,t2,t3,t4,t5,tl⟩:=id t
   go_wp2_with (first
     | (go_at_call 26;refine (alive5_w _).mono ?_;rintro _ _ ⟨rfl,rfl⟩)
     | (go_at_call 27;refine (cR _ HB).mono ?_;rintro _ V2 ⟨rfl,hb1⟩;replace t:=t.keep hb1;replace HB:=later HB hb1;clear hb1 t0 t1 t2 t3 t4 t5 tl;obtain⟨t0,t1,t2,t3,t4,t5,tl⟩:=id t))
   go_ret
   exact⟨rfl,HB⟩
theorem ref_say (v:Int) (A:Option Addr) (n C:Nat) (D:Option Addr) (m E:Nat) (X:Nat→Opw) (Y:Nat→Int) (hr:rightT v n X m Y=true) (AX:Option Addr) (mx CX:Nat) (XX:Nat→Nat×Nat) (hmx:mx≤9223372036854775807) (w:World) (VX:Ops w A n X) (VY:Ins w D m Y) (VI:Ivs w AX mx XX) :
   Calls Tryz.prog 71 #[tapeV v A n C D m E,.slice AX mx CX] w fun e w'=>e=.returned (.int .i64 (if (mx:Int)=v∧allB mx XX=true then 0 else 1))∧Below w.heap.size w w':=by
 obtain⟨h1,h2,h3⟩:=right_all hr
 have cR:∀W,Below w.heap.size w W→Calls Tryz.prog 27 #[tapeV v A n C D m E] W fun e' w'=>e'=.returned (.int .i64 0)∧Below W.heap.size W w':=fun W hW=>by
   have:=right_t v A n C D m E X Y (by omega) (by omega) W (VX.keep hW) (VY.keep hW)
   rw [hr] at this
   exact this
 by_cases c:(mx:Int)=v
 · have:=ref_all v A n C D m E AX mx CX XX hmx (by simp [c]) w VI cR
   simp only [c,true_and]
   exact this
 · have:=ref_len v A n C D m E AX mx CX (by simpa using c) w cR
   rw [if_neg (fun q=>c q.1)]
   exact this
set_option maxHeartbeats 1000000 in
theorem tapeTrimmed_all (v:Int) (A:Option Addr) (n C:Nat) (D:Option Addr) (m E:Nat) (X:Nat→Opw) (Y:Nat→Int) (AX:Option Addr) (mx CX:Nat) (XX:Nat→Nat×Nat) (hn:n≤9223372036854775807) (hm:m≤9223372036854775807) (hmx:mx≤9223372036854775807) (w:World) (VX:Ops w A n X) (VY:Ins w D m Y) (VI:Ivs w AX mx XX) :
   Calls Tryz.prog 4 #[tapeV v A n C D m E,.slice AX mx CX] w fun e w'=>e=.returned (.bool true)∧Below w.heap.size w w':=by
 have cR0:=fun W (hW:Below w.heap.size w W)=>right_t v A n C D m E X Y hn hm W (VX.keep hW) (VY.keep hW)
 cases hr:rightT v n X m Y
 · rw [hr] at cR0
   exact tt_early v A n C D m E _ 50 (.inl rfl) w cR0
 rw [hr] at cR0
 by_cases h4:(n:Int)>400
 · exact tt_early v A n C D m E _ 0 (.inr (.inl ⟨rfl,h4⟩)) w cR0
 by_cases h5:v>12
 · exact tt_early v A n C D m E _ 0 (.inr (.inr ⟨rfl,h4,h5⟩)) w cR0
 obtain⟨h1,h2,h3⟩:=right_all hr
 have T2:=trim_whole h2 h3
 have cT:=fun W (hW:Below w.heap.size w W)=>trim_say v A n C D m E X Y hr W (VX.keep hW) (VY.keep hW)
 have cRf:=fun W (hW:Below w.heap.size w W)=>ref_say v A n C D m E X Y hr AX mx CX XX hmx W (VX.keep hW) (VY.keep hW) (VI.keep hW)
 generalize hS:(trimS X (needF X n Y m) n).1=S at *
 generalize hp:(trimS X (needF X n Y m) n).2=pl at *
 generalize needF X n Y m=nd at *
 have hr2:rightT v S.length (atL S) m (fun k=>pl (Y k).toNat)=true:=right_of (by have:=T2.len;omega) T2.right (fun k hk=>(T2.outs k hk).2)
 have cU:∀W A1 C1 D1 E1,Ops W A1 S.length (atL S)∧Ins W D1 m (fun k=>pl (Y k).toNat)→Calls Tryz.prog 28 #[tapeV v A1 S.length C1 D1 m E1] W fun e w'=>(∃A2 C2 D2 E2,e=.returned (.tuple #[tapeV v A2 S.length C2 D2 m E2,.int .i64 0])∧Ops w' A2 S.length (atL S)∧Ins w' D2 m (fun k=>pl (Y k).toNat))∧Below W.heap.size W w':=by
   rintro W A1 C1 D1 E1 ⟨q1,q2⟩
   obtain⟨e1,e2⟩:=T2.again S.length (Nat.le_refl _)
   rw [List.take_of_length_le (Nat.le_refl _)] at e1
   have:=trim_say v A1 S.length C1 D1 m E1 (atL S) (fun k=>pl (Y k).toNat) hr2 W q1 q2
   rw [e1] at this
   refine this.mono ?_
   rintro _ w' ⟨⟨A2,C2,D2,E2,rfl,r1,r2⟩,hb⟩
   refine⟨⟨A2,C2,D2,E2,rfl,r1,r2.congr fun k hk=>?_⟩,hb⟩
   have:=(T2.outs k hk).2
   show (trimS _ _ _).2 (pl (Y k).toNat).toNat=pl (Y k).toNat
   rw [e2 _ (by omega)]
   omega
 have cL:∀W A1 C1 D1 E1 A2 C2 D2 E2,Ops W A1 S.length (atL S)∧Ins W D1 m (fun k=>pl (Y k).toNat)→Ops W A2 S.length (atL S)∧Ins W D2 m (fun k=>pl (Y k).toNat)→Calls Tryz.prog 29 #[tapeV v A1 S.length C1 D1 m E1,tapeV v A2 S.length C2 D2 m E2] W fun e w'=>e=.returned (.bool true)∧Below W.heap.size W w' :=
   fun W A1 C1 D1 E1 A2 C2 D2 E2 q r=>like_w v A1 A2 S.length C1 C2 D1 D2 m E1 E2 (atL S) (fun k=>pl (Y k).toNat) (by have:=T2.len;omega) (by omega) W q.1 r.1 q.2 r.2
 have cRs:∀W A1 C1 D1 E1,Below w.heap.size w W→Ops W A1 S.length (atL S)∧Ins W D1 m (fun k=>pl (Y k).toNat)→Calls Tryz.prog 71 #[tapeV v A1 S.length C1 D1 m E1,.slice AX mx CX] W fun e w'=>e=.returned (.int .i64 (if (mx:Int)=v∧allB mx XX=true then 0 else 1))∧Below W.heap.size W w' :=
   fun W A1 C1 D1 E1 hW q=>ref_say v A1 S.length C1 D1 m E1 (atL S) _ hr2 AX mx CX XX hmx W q.1 q.2 (VI.keep hW)
 have hkeep:∀W W' A' D',(Ops W A' S.length (atL S)∧Ins W D' m (fun k=>pl (Y k).toNat))→Below W.heap.size W W'→(Ops W' A' S.length (atL S)∧Ins W' D' m (fun k=>pl (Y k).toNat)):=fun W W' A' D' q hb=>⟨q.1.keep hb,q.2.keep hb⟩
 by_cases hq:(mx:Int)=v∧allB mx XX=true
 · rw [if_pos hq] at cRf cRs
   obtain⟨hv,hall⟩:=hq
   have hmx2:mx≤64:=by omega
   have cG:=fun W (hW:Below w.heap.size w W)=>grad_t v A n C D m E X Y AX mx CX XX (by omega) (by omega) hmx2 hv.symm (by rw [hv];exact h2) h3 W (VX.keep hW) (VY.keep hW) (VI.keep hW) (fun W2 hW2=>cRf W2 (later hW hW2))
   have cH:=fun W A1 C1 D1 E1 (hW:Below w.heap.size w W) (q:Ops W A1 S.length (atL S)∧Ins W D1 m (fun k=>pl (Y k).toNat))=>grad_t v A1 S.length C1 D1 m E1 (atL S) (fun k=>pl (Y k).toNat) AX mx CX XX (by have:=T2.len;omega) (by omega) hmx2 hv.symm (by rw [hv];exact T2.right) (fun k hk=>(T2.outs k hk).2) W q.1 q.2 (VI.keep hW) (fun W2 hW2=>cRs W2 A1 C1 D1 E1 (later hW hW2) (hkeep _ _ _ _ q hW2))
   by_cases hE:∀j,j<n→errG X XX mx j=0
   · have hE2:=trim_free T2 h2 XX mx hE
     have tells:=fun i hi hn=>trim_tells T2 h2 XX (i+1) i (by omega) hi hn
     have hlit:∀i,i<n→W2 ((X i).lo,(X i).hi):=fun i hi=>by obtain⟨b,o,e,l,c0,c1,c2,c3,c4,c5,r⟩:=VX i hi;exact r
     refine tt_good v A n C D m E S.length _ (by omega) (by omega) T2.len w _ hkeep cR0 cT cU cL mx (fun i=>vAt X XX n (Y i).toNat) (fun i=>vAt (atL S) XX S.length (pl (Y i).toNat).toNat) (fun i=>dAt X XX n (Y i).toNat) (fun i=>dAt (atL S) XX S.length (pl (Y i).toNat).toNat) (by omega) ?_ ?_ ?_ ?_ ?_
     · intro i hi
       have:=h3 i hi
       have lj:(Y i).toNat<(vsL X XX n).length:=by rw [vsL_len];omega
       have e:vAt X XX n (Y i).toNat=(vsL X XX n)[(Y i).toNat]:=by unfold vAt;simp [lj]
       show W2 (vAt X XX n (Y i).toNat)
       rw [e]
       exact vsL_W2 h2 hlit (fun i hi=>ivs_words VI i (by omega)) n (Nat.le_refl _) _ (List.getElem_mem lj)
     · intro i hi
       have b:=h3 i hi
       obtain⟨o1,o2,o3⟩:=T2.outs i hi
       show vAt X XX n (Y i).toNat=vAt (atL S) XX S.length (pl (Y i).toNat).toNat
       rw [vAt_val _ _ (by omega),vAt_val (atL S) XX (by omega)]
       exact (tells _ (by omega) o1).1.symm
     · intro i hi
       have b:=h3 i hi
       obtain⟨o1,o2,o3⟩:=T2.outs i hi
       show dAt X XX n (Y i).toNat=dAt (atL S) XX S.length (pl (Y i).toNat).toNat
       rw [dAt_row _ _ (by omega),dAt_row (atL S) XX (by omega)]
       exact (tells _ (by omega) o1).2.1.symm
     · intro W hW
       refine (cG W hW).mono ?_
       rintro _ w' ⟨⟨g,h,SA,SC,e,I,R, -⟩ | ⟨k,hk, -,hne, -⟩,hb⟩
       · exact⟨⟨g,h,SA,SC,e,I,R⟩,hb⟩
       · exact absurd (hE k hk) hne
     · intro W A1 C1 D1 E1 hW q
       refine (cH W A1 C1 D1 E1 hW q).mono ?_
       rintro _ w' ⟨⟨g,h,SA,SC,e,I,R, -⟩ | ⟨k,hk, -,hne, -⟩,hb⟩
       · exact⟨⟨g,h,SA,SC,e,I,R⟩,hb⟩
       · exact absurd (hE2 k hk) hne
   · obtain⟨k0,hk0,hk1,hk2⟩:∃k,k<n∧(∀j,j<k→errG X XX mx j=0)∧errG X XX mx k≠0:=by
       have key:∀d,(∀j,j<d→errG X XX mx j=0)∨∃k,k<d∧(∀j,j<k→errG X XX mx j=0)∧errG X XX mx k≠0:=by
         intro d
         induction d with
         | zero=>exact .inl fun j hj=>by omega
         | succ d ih =>
           rcases ih with ih | ⟨k,q1,q2,q3⟩
           · by_cases c:errG X XX mx d=0
             · refine .inl fun j hj=>?_
               rcases Nat.lt_or_ge j d with q | q
               · exact ih j q
               · rw [show j=d by omega];exact c
             · exact .inr ⟨d,by omega,ih,c⟩
           · exact .inr ⟨k,by omega,q2,q3⟩
       rcases key n with q | q
       · exact absurd q hE
       · exact q
     refine tt_bad v A n C D m E S.length _ (by omega) (by omega) T2.len w _ hkeep cR0 cT cU cL (errG X XX mx k0) (by simpa using hk2) ?_ ?_
     · intro W hW
       refine (cG W hW).mono ?_
       rintro _ w' ⟨⟨g,h,SA,SC,e,I,R,q⟩ | ⟨k,hk,q1,q2,rfl⟩,hb⟩
       · exact absurd (q k0 hk0) hk2
       · have:k=k0:=by
           rcases Nat.lt_trichotomy k k0 with c | c | c
           · exact absurd (hk1 k c) q2
           · exact c
           · exact absurd (q1 k0 c) hk2
         rw [this]
         exact⟨rfl,hb⟩
     · intro W A1 C1 D1 E1 hW q
       refine (cH W A1 C1 D1 E1 hW q).mono ?_
       rintro _ w' ⟨⟨g,h,SA,SC,rfl,I,R,q⟩ | ⟨k,hk,q1,q2,rfl⟩,hb⟩
       · exact⟨⟨_,_,0,rfl,.inl rfl⟩,hb⟩
       · refine⟨⟨_,_,_,rfl, ?_⟩,hb⟩
         rcases errG_three (atL S) XX mx k with c | c | c
         · exact absurd c q2
         · exact .inr (.inr (.inl c))
         · exact .inr (.inr (.inr c))
 · rw [if_neg hq] at cRf cRs
   refine tt_bad v A n C D m E S.length _ (by omega) (by omega) T2.len w _ hkeep cR0 cT cU cL 1 (by decide) (fun W hW=>grad_bad v A n C D m E _ 1 (by decide) W (fun W2 hW2=>cRf W2 (later hW hW2))) (fun W A1 C1 D1 E1 hW q=>?_)
   refine (grad_bad v A1 S.length C1 D1 m E1 _ 1 (by decide) W (fun W2 hW2=>cRs W2 A1 C1 D1 E1 (later hW hW2) (hkeep _ _ _ _ q hW2))).mono ?_
   rintro _ w' ⟨rfl,hb⟩
   exact⟨⟨_,_,1,rfl,.inr (.inl rfl)⟩,hb⟩
end Go.Proofs.YtfdelmgingefkaaGreat
