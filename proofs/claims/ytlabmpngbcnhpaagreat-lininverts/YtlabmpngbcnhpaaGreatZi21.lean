/- The walk of the reference's Rounded. The reference's Rounded: the document's rounding. The reference's finite, inf and Whole. The reference's Mul: the exact product, rounded. The walk of the statement UlpProducts. The reference's Add and Sub: the exact sum, rounded; the walk of the statement UlpSums. The walks of the reference's Hull, Meet, Neg, ends, Add and Sub: they answer as the program's; IvalSums' walk. -/
import Derived.Test.YtlabmpngbcnhpaaGreatZi20
import Derived.Test.YtlabmpngbcnhpaaGreatZi10
namespace Go.Proofs.YtlabmpngbcnhpaaGreat
open Go.ChangeShapes Go.WideShapes Go.ChangeAt Go.RowKit
theorem NumZ.half {w:World} {x:Value} {z:Int} {K:Nat} (h:NumZ (-1074) 1024 K w x z) {K':Nat} (hK:K≤K'):∃g ao l ca e,x=.agg #[.bool g,.slice ao l ca,.int .i64 e]∧-1074≤e∧e≤1024∧NumZ (-1075) 1024 K' w (.agg #[.bool g,.slice ao l ca,.int .i64 (e-1)]) z:=by
 obtain⟨g,v,m,e,h1,h2,h3,h4,h5,h6⟩:=h
 obtain⟨ao,l,ca,rfl, -⟩:=h2.shape
 refine⟨g,ao,l,ca,e,h1,h4,h5,g,_,m,e-1,rfl,h2,Nat.lt_of_lt_of_le h3 (Nat.pow_le_pow_right (by omega) hK),by omega,by omega, ?_⟩
 rw [←h6,show e-1 - -1075=e - -1074 by omega]
set_option maxHeartbeats 2000000 in
theorem rounded_core (ga:Bool) (ao:Option Addr) (la ca:Nat) (ea:Int) (gb:Bool) (bo:Option Addr) (lb cb:Nat) (eb:Int) (root:Bool) (dir d:Int) (F0 F1:Nat) (b1 b2 b3:Bool) (w:World) (hd:-9218868437227405312≤d∧d≤9218868437227405311)
   (P G0 G1 H:World→Value→Prop) (kg:∀W W' v,G0 W v→Below W.heap.size W W'→G0 W' v) (kh:∀W W' v,H W v→Below W.heap.size W W'→H W' v)
   (cd:∀W,Below w.heap.size w W→Calls Tryz.prog 133 #[.agg #[.bool ga,.slice ao la ca,.int .i64 ea,.bool gb,.slice bo lb cb,.int .i64 eb,.bool root]] W fun r w'=>r=.returned (.int .i64 d)∧Below W.heap.size W w')
   (c0:∀W,Calls Tryz.prog 131 #[.int .i64 d] W fun r w'=>r=.returned (.float .f64 F0)∧W=w')
   (c1:∀W,Calls Tryz.prog 131 #[.int .i64 (d+1)] W fun r w'=>r=.returned (.float .f64 F1)∧W=w')
   (cf:d≠-9218868437227405312→∀W,Below w.heap.size w W→Calls Tryz.prog 62 #[.float .f64 F0] W fun r w'=>(∃v,r=.returned v∧P w' v)∧Below W.heap.size W w')
   (cs:d≠-9218868437227405312→∀W v,Below w.heap.size w W→P W v→Calls Tryz.prog 134 #[v,.agg #[.bool ga,.slice ao la ca,.int .i64 ea,.bool gb,.slice bo lb cb,.int .i64 eb,.bool root]] W fun r w'=>r=.returned (.bool b1)∧Below W.heap.size W w')
   (cg0:∀W,Below w.heap.size w W→Calls Tryz.prog 135 #[.int .i64 d] W fun r w'=>(∃v,r=.returned v∧G0 w' v)∧Below W.heap.size W w')
   (cg1:∀W,Below w.heap.size w W→Calls Tryz.prog 135 #[.int .i64 (d+1)] W fun r w'=>(∃v,r=.returned v∧G1 w' v)∧Below W.heap.size W w')
   (cq:∀W v0 v1,Below w.heap.size w W→G0 W v0→G1 W v1→Calls Tryz.prog 65 #[v0,v1] W fun r w'=>(∃g o l c e,r=.returned (.agg #[.bool g,.slice o l c,.int .i64 e])∧-1074≤e∧e≤1024∧H w' (.agg #[.bool g,.slice o l c,.int .i64 (e-1)]))∧Below W.heap.size W w')
   (cs2:∀W v,Below w.heap.size w W→H W v→Calls Tryz.prog 134 #[v,.agg #[.bool ga,.slice ao la ca,.int .i64 ea,.bool gb,.slice bo lb cb,.int .i64 eb,.bool root]] W fun r w'=>r=.returned (.bool b2)∧Below W.heap.size W w')
   (cb3:∀W v,Below w.heap.size w W→H W v→Calls Tryz.prog 136 #[v,.agg #[.bool ga,.slice ao la ca,.int .i64 ea,.bool gb,.slice bo lb cb,.int .i64 eb,.bool root]] W fun r w'=>r=.returned (.bool b3)∧Below W.heap.size W w')
   (hb1:d=-9218868437227405312→b1=false) (R:Nat)
   (hR1:b1=true→R=F0) (hR2:b1=false→dir<0→R=F0) (hR3:b1=false→0<dir→R=F1) (hR4:b1=false→dir=0→b2=true→R=if d.tmod 2=0 then F0 else F1)
   (hR5:b1=false→dir=0→b2=false→b3=true→R=F1) (hR6:b1=false→dir=0→b2=false→b3=false→R=F0) :
   Calls Tryz.prog 130 #[.agg #[.bool ga,.slice ao la ca,.int .i64 ea,.bool gb,.slice bo lb cb,.int .i64 eb,.bool root],.int .i64 dir] w fun r w'=>r=.returned (.float .f64 R)∧Below w.heap.size w w':=by
 go_enter Tryz.func130,Tryz.ntmps130
 go_upto_region 2 with
  (go_at_call 133;refine (cd _ (by go_grown)).mono ?_;rintro _ w1 ⟨rfl,hb⟩
   have Y:Has7 w1 w.heap.size (.bool ga) (.slice ao la ca) (.int .i64 ea) (.bool gb) (.slice bo lb cb) (.int .i64 eb) (.bool root):=Has7.keep ⟨by go_simp,by go_simp,by go_simp,by go_simp,by go_simp,by go_simp,by go_simp,by go_size⟩ hb
   have HB:Below w.heap.size w w1:=later (by go_grown) hb)
 clear hb cd
 go_cut [22] from 10 to 21 (fun s22 wx=>s22=.bool (b1 || decide (dir<0))∧Below w.heap.size w wx∧Has7 wx w.heap.size (.bool ga) (.slice ao la ca) (.int .i64 ea) (.bool gb) (.slice bo lb cb) (.int .i64 eb) (.bool root))
 case first =>
   by_cases hd0:d=-9218868437227405312
   · have:=hb1 hd0
     subst this
     subst hd0
     clear hb1 cf cs hR1 hR2 hR3 hR4 hR5 hR6
     go_quiet (fail)
     go_wp2_with fail
     go_meet
     case rel=>exact⟨by simp,below_drewN HB _,Y.keep (below_drewN (Below.refl _ _) _)⟩
   · have hd1:decide (-9218868437227405311≤d)=true:=by simp;omega
     replace cf:=cf hd0
     replace cs:=cs hd0
     replace Y:=Y.drew
     replace HB:=HB.drew
     clear hb1 hd0 hR1 hR2 hR3 hR4 hR5 hR6
     cases b1
     · go_region_held3 (fun w'=>w'.cell? ⟨w.heap.size,0,none⟩=some (.bool ga)∧w'.cell? ⟨w.heap.size,1,none⟩=some (.slice ao la ca)∧w'.cell? ⟨w.heap.size,2,none⟩=some (.int .i64 ea)∧w'.cell? ⟨w.heap.size,3,none⟩=some (.bool gb)∧w'.cell? ⟨w.heap.size,4,none⟩=some (.slice bo lb cb)∧w'.cell? ⟨w.heap.size,5,none⟩=some (.int .i64 eb)∧w'.cell? ⟨w.heap.size,6,none⟩=some (.bool root)) (first | exact⟨Y.1,Y.2.1,Y.2.2.1,Y.2.2.2.1,Y.2.2.2.2.1,Y.2.2.2.2.2.1,Y.2.2.2.2.2.2.1⟩ | go_keep)
         (first
           | (go_at_call 131;refine (c0 _).mono ?_;rintro _ _ ⟨rfl,rfl⟩)
           | (go_at_call 62;refine (cf _ HB).mono ?_;rintro _ w2 ⟨⟨v,rfl,hv⟩,hb1⟩;replace Y:=Y.keep hb1;replace HB:=later HB hb1;clear hb1)
           | (go_at_call 134;refine (cs _ _ HB hv).mono ?_;rintro _ w3 ⟨rfl,hb1⟩;replace Y:=Y.keep hb1;replace HB:=later HB hb1;clear hb1))
       all_goals
         go_wp2_with fail
         go_meet
         case rel=>exact⟨by simp,HB,Y⟩
     · obtain⟨y0,y1,y2,y3,y4,y5,y6, -⟩:=id Y
       first
         | go_region_with (first
             | (go_at_call 131;refine (c0 _).mono ?_;rintro _ _ ⟨rfl,rfl⟩)
             | (go_at_call 62;refine (cf _ HB).mono ?_;rintro _ w2 ⟨⟨v,rfl,hv⟩,hb1⟩;replace Y:=Y.keep hb1;replace HB:=later HB hb1;clear hb1;obtain⟨x0,x1,x2,x3,x4,x5,x6, -⟩:=id Y)
             | (go_at_call 134;refine (cs _ _ HB hv).mono ?_;rintro _ w3 ⟨rfl,hb1⟩;replace Y:=Y.keep hb1;replace HB:=later HB hb1;clear hb1))
         | fail
       all_goals
         go_wp2_with fail
         go_meet
         case rel=>exact⟨by simp,HB,Y⟩
 case rest =>
   clear Y HB cf cs hb1
   obtain⟨rfl,HB,Y⟩:=hcut
   by_cases hc:(b1 || decide (dir<0))=true
   · have hR:R=F0:=by
       cases b1
       · exact hR2 rfl (by simpa using hc)
       · exact hR1 rfl
     subst hR
     rw [hc]
     clear hR1 hR2 hR3 hR4 hR5 hR6
     go_wp2_with (go_at_call 131;refine (c0 _).mono ?_;rintro _ _ ⟨rfl,rfl⟩)
     go_ret
     exact⟨rfl,HB⟩
   · have hc':(b1 || decide (dir<0))=false:=by simpa using hc
     have h1:b1=false:=by cases b1 <;> simp_all
     have h2:¬dir<0:=by intro q;subst h1;simp at hc;omega
     rw [hc']
     clear hc hc' hR1 hR2
     by_cases h3:0<dir
     · have hR:=hR3 h1 h3
       subst hR
       clear hR3 hR4 hR5 hR6
       go_wp2_with (go_at_call 131;refine (c1 _).mono ?_;rintro _ _ ⟨rfl,rfl⟩)
       go_ret
       exact⟨rfl,HB⟩
     · have h0:dir=0:=by omega
       subst h0
       replace hR4:=hR4 h1 rfl
       replace hR5:=hR5 h1 rfl
       replace hR6:=hR6 h1 rfl
       clear hR3 h1 h2 h3
       go_upto_region 8 with (first
         | (go_at_call_of 135 (Value.int .i64 d);refine (cg0 _ HB).mono ?_;rintro _ w2 ⟨⟨v0,rfl,hv0⟩,hb⟩;replace Y:=Y.keep hb;replace HB:=later HB hb;clear hb)
         | (go_at_call 135;refine (cg1 _ HB).mono ?_;rintro _ w3 ⟨⟨v1,rfl,hv1⟩,hb⟩;replace Y:=Y.keep hb;replace HB:=later HB hb;replace hv0:=kg _ _ _ hv0 hb;clear hb)
         | (go_at_call 65;refine (cq _ _ _ HB hv0 hv1).mono ?_;rintro _ w4 ⟨⟨g2,o2,l2,p2,e2,rfl,q1,q2,hh⟩,hb⟩;replace Y:=Y.keep hb;replace HB:=later HB hb;clear hb))
       clear hv0 hv1 cg0 cg1 cq kg
       have hz:Below w4.heap.size w4 ((w4.alloc (.cells #[.bool g2,.slice o2 l2 p2,.int .i64 e2] 56)).alloc (.cells #[.bool g2,.slice o2 l2 p2,.int .i64 (e2-1)] 56)):=by go_grown
       have Z:Has3 ((w4.alloc (.cells #[.bool g2,.slice o2 l2 p2,.int .i64 e2] 56)).alloc (.cells #[.bool g2,.slice o2 l2 p2,.int .i64 (e2-1)] 56)) (w4.heap.size+1) (.bool g2) (.slice o2 l2 p2) (.int .i64 (e2-1)):=⟨by go_simp,by go_simp,by go_simp,by go_simp,by go_simp,by go_simp,by go_size⟩
       replace Y:=Y.keep hz
       replace HB:=later HB hz
       replace hh:=kh _ _ _ hh hz
       clear hz
       generalize ((w4.alloc (.cells #[.bool g2,.slice o2 l2 p2,.int .i64 e2] 56)).alloc (.cells #[.bool g2,.slice o2 l2 p2,.int .i64 (e2-1)] 56))=V5 at *
       generalize w4.heap.size+1=q at *
       obtain⟨z0,z1,z2, -, -, -,zl⟩:=Z
       obtain⟨y0,y1,y2,y3,y4,y5,y6,yl⟩:=id Y
       have hb2:b2=true∨b2=false:=by cases b2 <;> simp
       rcases hb2 with h2 | h2
       · subst h2
         replace hR4:=hR4 rfl
         clear hR5 hR6 cb3 kh
         by_cases hp:d.tmod 2=0
         · rw [if_pos hp] at hR4
           subst hR4
           have hp':(d.tmod 2==0)=true:=by rw [hp];rfl
           go_wp2_with (first
             | (go_at_call 134;refine (cs2 _ _ HB hh).mono ?_;rintro _ w6 ⟨rfl,hb⟩;replace HB:=later HB hb;clear hb)
             | (go_at_call 131;refine (c0 _).mono ?_;rintro _ _ ⟨rfl,rfl⟩))
           go_ret
           exact⟨rfl,HB⟩
         · rw [if_neg hp] at hR4
           subst hR4
           have hp':(d.tmod 2==0)=false:=by rw [beq_eq_false_iff_ne];exact hp
           go_wp2_with (first
             | (go_at_call 134;refine (cs2 _ _ HB hh).mono ?_;rintro _ w6 ⟨rfl,hb⟩;replace HB:=later HB hb;clear hb)
             | (go_at_call 131;refine (c1 _).mono ?_;rintro _ _ ⟨rfl,rfl⟩))
           go_ret
           exact⟨rfl,HB⟩
       · subst h2
         clear hR4
         have hb3:b3=true∨b3=false:=by cases b3 <;> simp
         rcases hb3 with h3 | h3
         · subst h3
           replace hR5:=hR5 rfl rfl
           subst hR5
           clear hR6
           go_wp2_with (first
             | (go_at_call 134;refine (cs2 _ _ HB hh).mono ?_;rintro _ w6 ⟨rfl,hb⟩;replace HB:=later HB hb;replace hh:=kh _ _ _ hh hb;replace Y:=Y.keep hb;obtain⟨x0,x1,x2,x3,x4,x5,x6, -⟩:=Y;have u0:=keepsC hb z0 zl;have u1:=keepsC hb z1 zl;have u2:=keepsC hb z2 zl;clear hb)
             | (go_at_call 136;refine (cb3 _ _ HB hh).mono ?_;rintro _ w7 ⟨rfl,hb⟩;replace HB:=later HB hb;clear hb)
             | (go_at_call 131;refine (c1 _).mono ?_;rintro _ _ ⟨rfl,rfl⟩))
           go_ret
           exact⟨rfl,HB⟩
         · subst h3
           replace hR6:=hR6 rfl rfl
           subst hR6
           clear hR5
           go_wp2_with (first
             | (go_at_call 134;refine (cs2 _ _ HB hh).mono ?_;rintro _ w6 ⟨rfl,hb⟩;replace HB:=later HB hb;replace hh:=kh _ _ _ hh hb;replace Y:=Y.keep hb;obtain⟨x0,x1,x2,x3,x4,x5,x6, -⟩:=Y;have u0:=keepsC hb z0 zl;have u1:=keepsC hb z1 zl;have u2:=keepsC hb z2 zl;clear hb)
             | (go_at_call 136;refine (cb3 _ _ HB hh).mono ?_;rintro _ w7 ⟨rfl,hb⟩;replace HB:=later HB hb;clear hb)
             | (go_at_call 131;refine (c0 _).mono ?_;rintro _ _ ⟨rfl,rfl⟩))
           go_ret
           exact⟨rfl,HB⟩
theorem kdown_unique {X:Ex} (ok:X.Ok) {d e:Int} (h1:KDown X d) (h2:KDown X e):d=e :=
 Int.le_antisymm (kdown_mono ok (fun _ c=>c) h1 h2) (kdown_mono ok (fun _ c=>c) h2 h1)
theorem tmod_zero (d:Int):d.tmod 2=0↔d%2=0:=by
 obtain⟨h1,h2,h3⟩:=tdiv2 d
 generalize d.tdiv 2=q at *
 generalize d.tmod 2=r at *
 omega
theorem rounded_x {X:Ex} (ok:X.Ok) {dir k:Int} (hk:IsRnd X dir k) {x:Value} {w:World} (hx:XIs w x X) :
   Calls Tryz.prog 130 #[x,.int .i64 dir] w fun r w'=>r=.returned (.float .f64 (ofKey k))∧Below w.heap.size w w':=by
 obtain⟨d,hd,hcase⟩:=hk
 have hx':=hx
 obtain⟨ga,ao,la,ca,ea,gb,bo,lb,cb,eb,root,rfl, -⟩:=hx'
 have bt:=hd.bot
 have tp:=hd.top
 have:∃b1 b2 b3:Bool,(b1=true↔d≠-9218868437227405312∧X.le (2*V d)∧X.ge (2*V d))∧(b2=true↔X.le (V d+V (d+1))∧X.ge (V d+V (d+1)))∧(b3=true↔X.le (V d+V (d+1))):=by
   classical
   exact⟨decide _,decide _,decide _,decide_eq_true_iff,decide_eq_true_iff,decide_eq_true_iff⟩
 obtain⟨b1,b2,b3,e1,e2,e3⟩:=this
 have same_of:∀{b c:Bool} {p:Prop},(b=true↔p)→(c=true↔p)→b=c:=fun h1 h2=>by
   rename_i b c p
   cases b <;> cases c <;> simp_all
 refine rounded_core ga ao la ca ea gb bo lb cb eb root dir d (ofKey d) (ofKey (d+1)) b1 b2 b3 w ⟨bt,tp⟩
   (fun W v=>NumZ (-1075) 1024 3000 W v (2*V d)) (fun W v=>NumZ (-1074) 1024 53 W v (V d)) (fun W v=>NumZ (-1074) 1024 53 W v (V (d+1))) (fun W v=>NumZ (-1075) 1024 3000 W v (V d+V (d+1)))
   (fun W W' v h hb=>h.keep hb) (fun W W' v h hb=>h.keep hb) ?_ (fun W=>at_w d (by omega) (by omega) W) (fun W=>at_w (d+1) (by omega) (by omega) W) ?_ ?_ (fun W _=>grid_z d (by omega) W) (fun W _=>grid_z (d+1) (by omega) W) ?_ ?_ ?_ ?_ (ofKey k) ?_ ?_ ?_ ?_ ?_ ?_
 · intro W hW
   refine (down_w _ X W (hx.keep hW)).mono ?_
   rintro _ w' ⟨⟨j,rfl,hj⟩,hb⟩
   rw [kdown_unique ok hj hd]
   exact⟨rfl,hb⟩
 · intro hd0 W hW
   obtain⟨k1,k2,k3⟩:=ofKey_facts (M:=d) (by omega)
   refine (float_z (ofKey d) k1 k2 W).mono ?_
   rintro _ w' ⟨⟨v,rfl,hv⟩,hb⟩
   rw [k3] at hv
   exact⟨⟨v,rfl,hv.halves⟩,hb⟩
 · intro hd0 W v hW hv
   refine (same_x hv (hx.keep hW)).mono ?_
   rintro _ w' ⟨⟨b,rfl,hbt⟩,hb⟩
   have:b=b1:=same_of hbt (e1.trans ⟨fun h=>h.2,fun h=>⟨hd0,h⟩⟩)
   rw [this]
   exact⟨rfl,hb⟩
 · intro W v0 v1 hW h0 h1
   obtain⟨L,hL⟩:∃L:Nat,L=2152:=⟨_,rfl⟩
   refine (sum_z (S:=-1074) (T:=1024) (K:=53) (L:=L) (by omega) (by omega) (by omega) (by omega) h0 h1).mono ?_
   rintro _ w' ⟨⟨v,rfl,hv⟩,hb⟩
   obtain⟨g,o,l,c,e,rfl,q1,q2,hh⟩:=hv.half (K':=3000) (by omega)
   exact⟨⟨g,o,l,c,e,rfl,q1,q2,hh⟩,hb⟩
 · intro W v hW hv
   refine (same_x hv (hx.keep hW)).mono ?_
   rintro _ w' ⟨⟨b,rfl,hbt⟩,hb⟩
   rw [same_of hbt e2]
   exact⟨rfl,hb⟩
 · intro W v hW hv
   refine (below_x hv (hx.keep hW)).mono ?_
   rintro _ w' ⟨⟨b,rfl,hbt⟩,hb⟩
   rw [same_of hbt e3]
   exact⟨rfl,hb⟩
 · intro h0
   cases b1
   · rfl
   · exact absurd h0 (e1.1 rfl).1
 all_goals
   clear same_of
   rcases hcase with ⟨a,rfl⟩ | ⟨a,c1,c2,c3⟩
 · intro _;rfl
 · intro h;exact absurd (e1.1 h) a
 · intro h;rw [e1.2 a] at h;cases h
 · intro _ h;rw [c1 h]
 · intro h;rw [e1.2 a] at h;cases h
 · intro _ h;rw [c2 h]
 · intro h;rw [e1.2 a] at h;cases h
 · intro _ h hb
   rcases c3 h with ⟨p1,p2,p3⟩ | ⟨p1, -⟩
   · rw [p3]
     by_cases hp:d%2=0
     · rw [if_pos hp,if_pos ((tmod_zero d).2 hp)]
     · rw [if_neg hp,if_neg (fun q=>hp ((tmod_zero d).1 q))]
   · exact absurd (e2.1 hb) p1
 · intro h;rw [e1.2 a] at h;cases h
 · intro _ h hb hb3
   rcases c3 h with ⟨p1,p2, -⟩ | ⟨p1,⟨p2,p3⟩ | ⟨p2,p3⟩⟩
   · rw [e2.2 ⟨p1,p2⟩] at hb;cases hb
   · rw [p3]
   · exact absurd (e3.1 hb3) p2
 · intro h;rw [e1.2 a] at h;cases h
 · intro _ h hb hb3
   rcases c3 h with ⟨p1,p2, -⟩ | ⟨p1,⟨p2,p3⟩ | ⟨p2,p3⟩⟩
   · rw [e2.2 ⟨p1,p2⟩] at hb;cases hb
   · rw [e3.2 p2] at hb3;cases hb3
   · rw [p3]
theorem fin_num {x:Nat} (h:finB x=true):nanB x=false:=by
 unfold finB at h;unfold nanB;simp at h ⊢;omega
theorem rfinite_core (x:Nat) (g b n:Bool) (m:Nat) (e:Int) (hx:x<18446744073709551616) (hn:nanB x=n) (hb:(!n&&b)=b) (cs:∀w,Calls Tryz.prog 89 #[.float .f64 x] w fun r w'=>r=.returned (.tuple #[.agg #[.bool g,.int .u64 m,.int .i64 e],.bool b])∧Below w.heap.size w w') (w:World) :
   Calls Tryz.prog 120 #[.float .f64 x] w fun r w'=>r=.returned (.bool b)∧Below w.heap.size w w':=by
 have ci:=fun w=>isNum_w x hx w
 rw [hn] at ci
 cases n
 · go_enter Tryz.func120,Tryz.ntmps120
   go_wp2_with (first | (go_at_call 89;refine (cs _).mono ?_;rintro _ w1 ⟨rfl,hb1⟩;have HB:Below w.heap.size w w1:=hb1) | (go_at_call 119;refine (ci _).mono ?_;rintro _ _ ⟨rfl,rfl⟩))
   go_ret
   exact⟨rfl,later HB (by go_grown)⟩
 · have:b=false:=by simpa using hb.symm
   subst this
   go_enter Tryz.func120,Tryz.ntmps120
   go_wp2_with (first | (go_at_call 89;refine (cs _).mono ?_;rintro _ w1 ⟨rfl,hb1⟩;have HB:Below w.heap.size w w1:=hb1) | (go_at_call 119;refine (ci _).mono ?_;rintro _ _ ⟨rfl,rfl⟩))
   go_ret
   exact⟨rfl,later HB (by go_grown)⟩
theorem rfinite_w (x:Nat) (hx:x<18446744073709551616) (w:World) :
   Calls Tryz.prog 120 #[.float .f64 x] w fun r w'=>r=.returned (.bool (finB x))∧Below w.heap.size w w':=by
 cases hf:finB x
 · exact rfinite_core x _ false (nanB x) _ _ hx rfl (by simp) (fun w=>rsplit_not x hx hf w) w
 · exact rfinite_core x _ true (nanB x) _ _ hx rfl (by rw [fin_num hf];rfl) (fun w=>rsplit_w x hx hf w) w
theorem rinf_w' (g:Bool) (w:World) :
   Calls Tryz.prog 122 #[.bool g] w fun r w'=>r=.returned (.float .f64 (infW g))∧w=w':=by
 have c1:=fun w=>at_w (-9218868437227405312) (by omega) (by omega) w
 have c2:=fun w=>at_w 9218868437227405312 (by omega) (by omega) w
 rw [show ofKey (-9218868437227405312)=18442240474082181120 from rfl] at c1
 rw [show ofKey 9218868437227405312=9218868437227405312 from rfl] at c2
 cases g
 · clear c1
   go_enter Tryz.func122,Tryz.ntmps122
   go_wp2_with (go_at_call 131;refine (c2 _).mono ?_;rintro _ _ ⟨rfl,rfl⟩)
   go_ret
   exact⟨rfl,rfl⟩
 · clear c2
   go_enter Tryz.func122,Tryz.ntmps122
   go_wp2_with (go_at_call 131;refine (c1 _).mono ?_;rintro _ _ ⟨rfl,rfl⟩)
   go_ret
   exact⟨rfl,rfl⟩
set_option maxHeartbeats 1000000 in
theorem rwhole_core (ga:Bool) (ao:Option Addr) (la ca:Nat) (ea dir:Int) (R:Nat) (w:World) (P:World→Value→Prop) (kp:∀W v,P W v→∃g o l c e,v=.agg #[.bool g,.slice o l c,.int .i64 e])
   (ci:∀W,Calls Tryz.prog 63 #[.int .i64 1] W fun r w'=>(∃v,r=.returned v∧P w' v)∧Below W.heap.size W w')
   (cr:∀W gb bo lb cb eb,Below w.heap.size w W→P W (.agg #[.bool gb,.slice bo lb cb,.int .i64 eb])→Calls Tryz.prog 130 #[.agg #[.bool ga,.slice ao la ca,.int .i64 ea,.bool gb,.slice bo lb cb,.int .i64 eb,.bool false],.int .i64 dir] W fun r w'=>r=.returned (.float .f64 R)∧Below W.heap.size W w') :
   Calls Tryz.prog 121 #[.agg #[.bool ga,.slice ao la ca,.int .i64 ea],.int .i64 dir] w fun r w'=>r=.returned (.float .f64 R)∧Below w.heap.size w w':=by
 go_enter Tryz.func121,Tryz.ntmps121
 go_upto_region 1 with fail
 have X:Has3 (w.alloc (.cells #[.bool ga,.slice ao la ca,.int .i64 ea] 56)).drew w.heap.size (.bool ga) (.slice ao la ca) (.int .i64 ea):=⟨by go_simp,by go_simp,by go_simp,by go_simp,by go_simp,by go_simp,by go_size⟩
 have HB:Below w.heap.size w (w.alloc (.cells #[.bool ga,.slice ao la ca,.int .i64 ea] 56)).drew:=by go_grown
 go_region_held3 (fun w'=>w'.cell? ⟨w.heap.size,0,none⟩=some (.bool ga)∧w'.cell? ⟨w.heap.size,1,none⟩=some (.slice ao la ca)∧w'.cell? ⟨w.heap.size,2,none⟩=some (.int .i64 ea)) (first | exact⟨X.1,X.2.1,X.2.2.1⟩ | go_keep)
   (first
     | (go_at_call 63;refine (ci _).mono ?_;rintro _ w2 ⟨⟨v,rfl,hv⟩,hb1⟩;obtain⟨gb,bo,lb,cb,eb,rfl⟩:=kp _ _ hv;replace X:=X.keep hb1;replace HB:=later HB hb1;clear hb1)
     | (go_at_call 130;refine (cr _ _ _ _ _ _ HB hv).mono ?_;rintro _ w3 ⟨rfl,hb1⟩;replace X:=X.keep hb1;replace HB:=later HB hb1;clear hb1))
 all_goals
   go_wp2_with fail
   go_ret
   exact⟨rfl,HB⟩
theorem whole_x {N:Int} {t:Nat} (ht:t≤5000) {dir k:Int} (hk:IsRnd (exQ N (2^t)) dir k) {x:Value} {w:World} (hx:NumZ (-(t:Int)-1075) 6000 20000 w x N) :
   Calls Tryz.prog 121 #[x,.int .i64 dir] w fun r w'=>r=.returned (.float .f64 (ofKey k))∧Below w.heap.size w w':=by
 have hx':=hx
 obtain⟨ga,ao,la,ca,ea,rfl⟩:=hx'.shape
 have hp:=Nat.two_pow_pos t
 refine rwhole_core ga ao la ca ea dir _ w (fun W v=>NumZ 0 0 1 W v 1) (fun W v h=>h.shape) (fun W=>int_z W) (fun W gb bo lb cb eb hW hv=>?_)
 refine rounded_x (exQ_ok N hp) hk ⟨ga,ao,la,ca,ea,gb,bo,lb,cb,eb,false,rfl,Or.inl ⟨rfl, -(t:Int),N,((2^t:Nat):Int),by omega,by omega,hx.keep hW, ?_, ?_⟩⟩
 · have:=(hv.scale (S':=-(t:Int)) (t:=t) (by omega)).wide (T':=1024) (K':=3000) (by omega) (by omega)
   rw [Int.one_mul] at this
   exact this
 · generalize 2^t=D at *
   unfold exQ exD
   have:¬(D:Int)<0:=by omega
   simp only [this,if_false]
theorem ofKey_key {r:Nat} (hr:r<18446744073709551616) (hz:r≠9223372036854775808):ofKey (key r)=r:=by
 unfold key ofKey
 by_cases h:r<9223372036854775808
 · rw [if_pos h,if_neg (by omega)];omega
 · rw [if_neg h,if_pos (by omega)];omega
theorem sign_order {x:Nat} (hx:x<18446744073709551616) (hn:nanB x=false) (hz:isZ x=false):FloatKind.f64.format.order x 0=some .lt∧signB x=true∨FloatKind.f64.format.order x 0=some .gt∧signB x=false:=by
 unfold isZ at hz
 simp at hz
 unfold signB
 rcases cases0 x hx with ⟨h,_,_⟩ | ⟨_,ho,hc⟩ | ⟨_,ho,hc⟩ | ⟨_,ho,hc⟩
 · rw [hn] at h;cases h
 · omega
 · right;exact⟨ho,by simp;omega⟩
 · left;exact⟨ho,by simp;omega⟩
theorem rmul_nan (a b:Nat) (dir:Int) (ha:a<18446744073709551616) (hb:b<18446744073709551616) (h:nanB a=true∨nanB a=false∧nanB b=true) (w:World) :
   Calls Tryz.prog 100 #[.float .f64 a,.float .f64 b,.int .i64 dir] w fun x w'=>Ans none x∧Below w.heap.size w w':=by
 rcases h with h | ⟨h1,h2⟩
 all_goals
   go_enter Tryz.func100,Tryz.ntmps100
   go_wp2_with (first | (go_at_call 119;refine (isNum_w _ (by assumption) _).mono ?_;rintro _ _ ⟨rfl,rfl⟩) | (go_at_call 83;refine (nan_w _).mono ?_;rintro _ _ ⟨rfl,rfl⟩))
   go_ret
   exact⟨ans_nan,Below.refl _ _⟩
theorem rmul_zero (a b:Nat) (dir:Int) (ha:a<18446744073709551616) (hb:b<18446744073709551616) (na:nanB a=false) (nb:nanB b=false) (h:(FloatKind.f64.format.order a 0==some .eq)=true∨(FloatKind.f64.format.order a 0==some .eq)=false∧(FloatKind.f64.format.order b 0==some .eq)=true) (w:World) :
   Calls Tryz.prog 100 #[.float .f64 a,.float .f64 b,.int .i64 dir] w fun x w'=>x=.returned (.float .f64 0)∧Below w.heap.size w w':=by
 rcases h with h | ⟨h1,h2⟩
 all_goals
   go_enter Tryz.func100,Tryz.ntmps100
   go_wp2_with (first | (go_at_call 119;refine (isNum_w _ (by assumption) _).mono ?_;rintro _ _ ⟨rfl,rfl⟩) | (go_at_call 83;refine (nan_w _).mono ?_;rintro _ _ ⟨rfl,rfl⟩))
   go_ret
   exact⟨rfl,Below.refl _ _⟩
set_option maxHeartbeats 400000 in
theorem rmul_inf (a b:Nat) (dir:Int) (ha:a<18446744073709551616) (hb:b<18446744073709551616) (na:nanB a=false) (nb:nanB b=false) (za:isZ a=false) (zb:isZ b=false) (hf:finB a=false∨finB a=true∧finB b=false) (w:World) :
   Calls Tryz.prog 100 #[.float .f64 a,.float .f64 b,.int .i64 dir] w fun x w'=>x=.returned (.float .f64 (infW (signB a != signB b)))∧Below w.heap.size w w':=by
 have ca:=fun w=>rfinite_w a ha w
 have cb:=fun w=>rfinite_w b hb w
 have HB:Below w.heap.size w w:=Below.refl _ _
 rcases sign_order ha na za with ⟨oa,sa⟩ | ⟨oa,sa⟩ <;> rcases sign_order hb nb zb with ⟨ob,sb⟩ | ⟨ob,sb⟩ <;> rcases hf with fa | ⟨fa,fb⟩
 all_goals
   rw [sa,sb]
   rw [fa] at ca
   try rw [fb] at cb
   clear sa sb za zb
   go_enter Tryz.func100,Tryz.ntmps100
   go_wp2_with (first | (go_at_call 119;refine (isNum_w _ (by assumption) _).mono ?_;rintro _ _ ⟨rfl,rfl⟩) | (go_at_call_of 120 (Value.float .f64 a);refine (ca _).mono ?_;rintro _ w1 ⟨rfl,hb1⟩;replace HB:=later HB hb1;clear hb1) | (go_at_call_of 120 (Value.float .f64 b);refine (cb _).mono ?_;rintro _ w2 ⟨rfl,hb1⟩;replace HB:=later HB hb1;clear hb1) | (go_at_call 122;refine (rinf_w' _ _).mono ?_;rintro _ _ ⟨rfl,rfl⟩))
   go_ret
   exact⟨rfl,HB⟩
set_option maxHeartbeats 1000000 in
theorem rmul_fin (a b:Nat) (dir:Int) (ha:a<18446744073709551616) (hb:b<18446744073709551616) (fa:finB a=true) (fb:finB b=true) (za:isZ a=false) (zb:isZ b=false) (w:World) :
   Calls Tryz.prog 100 #[.float .f64 a,.float .f64 b,.int .i64 dir] w fun x w'=>x=.returned (.float .f64 (mulF a b dir))∧Below w.heap.size w w':=by
 have ca:=fun w=>rfinite_w a ha w
 have cb:=fun w=>rfinite_w b hb w
 rw [fa] at ca
 rw [fb] at cb
 have na:=fin_num fa
 have nb:=fin_num fb
 have f0:=fun w=>float_z a ha fa w
 have f1:=fun w=>float_z b hb fb w
 have oa:=ord_zero ha na
 have ob:=ord_zero hb nb
 rw [za] at oa
 rw [zb] at ob
 obtain⟨u,hu⟩:∃u:Nat,u=1073:=⟨_,rfl⟩
 have hr:=mulF_is dir hu ha hb fa fb (splitM_zero za) (splitM_zero zb)
 have hfacts:nanB (mulF a b dir)=false∧mulF a b dir≠9223372036854775808∧mulF a b dir<18446744073709551616:=by
   have h1:=splitM_lt a
   have h2:=splitM_lt b
   exact roundN_facts _ _ _ dir (prodM_lt (splitM_zero za) (splitM_zero zb) (show splitM a<18446744073709551616 by omega) (show splitM b<18446744073709551616 by omega))
 have hok:=ofKey_key hfacts.2.2 hfacts.2.1
 clear hfacts
 generalize mulF a b dir=M at *
 have cp:=fun W v0 v1 (h0:NumZ (-1074) 971 53 W v0 (V (key a))) (h1:NumZ (-1074) 971 53 W v1 (V (key b)))=>prod_z (S:=-1074) (T:=971) (S':=-1074) (T':=971) (K:=53) (by omega) (by omega) (by omega) (by omega) h0 h1
 have cw:=fun W x (hx:NumZ (-1074+-1074) (971+971) (53+53) W x (V (key a)*V (key b)))=>whole_x (t:=u) (by omega) hr (x:=x) (w:=W) (by
   have:=hx.wide (T':=6000) (K':=20000) (by omega) (by omega)
   rw [show (-1074:Int)+-1074=-(u:Int)-1075 by omega] at this
   exact this)
 rw [hok] at cw
 clear hr hok hu
 generalize V (key a)=A at *
 generalize V (key b)=B at *
 have HB:Below w.heap.size w w:=Below.refl _ _
 go_enter Tryz.func100,Tryz.ntmps100
 go_wp2_with (first
   | (go_at_call 119;refine (isNum_w _ (by assumption) _).mono ?_;rintro _ _ ⟨rfl,rfl⟩)
   | (go_at_call_of 120 (Value.float .f64 a);refine (ca _).mono ?_;rintro _ w1 ⟨rfl,hb1⟩;replace HB:=later HB hb1;clear hb1)
   | (go_at_call_of 120 (Value.float .f64 b);refine (cb _).mono ?_;rintro _ w2 ⟨rfl,hb1⟩;replace HB:=later HB hb1;clear hb1)
   | (go_at_call_of 62 (Value.float .f64 a);refine (f0 _).mono ?_;rintro _ w3 ⟨⟨v0,rfl,hv0⟩,hb1⟩;replace HB:=later HB hb1;clear hb1)
   | (go_at_call_of 62 (Value.float .f64 b);refine (f1 _).mono ?_;rintro _ w4 ⟨⟨v1,rfl,hv1⟩,hb1⟩;replace HB:=later HB hb1;replace hv0:=hv0.keep hb1;clear hb1)
   | (go_at_call 64;refine (cp _ _ _ hv0 hv1).mono ?_;rintro _ w5 ⟨⟨v2,rfl,hv2⟩,hb1⟩;replace HB:=later HB hb1;clear hb1)
   | (go_at_call 121;refine (cw _ _ hv2).mono ?_;rintro _ w6 ⟨rfl,hb1⟩;replace HB:=later HB hb1;clear hb1))
 go_ret
 exact⟨rfl,HB⟩
theorem rmul_w (a b:Nat) (dir:Int) (ha:a<18446744073709551616) (hb:b<18446744073709551616) (w:World) :
   Calls Tryz.prog 100 #[.float .f64 a,.float .f64 b,.int .i64 dir] w fun x w'=>Ans (mulR a b dir) x∧Below w.heap.size w w':=by
 unfold mulR
 cases na:nanB a
 · cases nb:nanB b
   · simp only [Bool.or_self,Bool.false_eq_true,if_false]
     have oa:=ord_zero ha na
     have ob:=ord_zero hb nb
     cases za:isZ a
     · rw [za] at oa
       cases zb:isZ b
       · simp only [Bool.or_self,Bool.false_eq_true,if_false]
         cases fa:finB a
         · simp only [Bool.false_and,Bool.false_eq_true,if_false]
           exact (rmul_inf a b dir ha hb na nb za zb (Or.inl fa) w).mono fun x w' h=>⟨⟨_,h.1,infW_lt _,rfl⟩,h.2⟩
         · cases fb:finB b
           · simp only [Bool.and_false,Bool.false_eq_true,if_false]
             exact (rmul_inf a b dir ha hb na nb za zb (Or.inr ⟨fa,fb⟩) w).mono fun x w' h=>⟨⟨_,h.1,infW_lt _,rfl⟩,h.2⟩
           · simp only [Bool.and_self,if_true]
             have h1:=splitM_lt a
             have h2:=splitM_lt b
             have hm:=(roundN_facts (splitG a != splitG b) _ (prodE (splitM a) (splitE a) (splitM b) (splitE b)) dir (prodM_lt (splitM_zero za) (splitM_zero zb) (show splitM a<18446744073709551616 by omega) (show splitM b<18446744073709551616 by omega))).2.2
             exact (rmul_fin a b dir ha hb fa fb za zb w).mono fun x w' h=>⟨⟨_,h.1,hm,rfl⟩,h.2⟩
       · rw [zb] at ob
         simp only [Bool.or_true,if_true]
         exact (rmul_zero a b dir ha hb na nb (Or.inr ⟨oa,ob⟩) w).mono fun x w' h=>⟨⟨_,h.1,by omega,rfl⟩,h.2⟩
     · rw [za] at oa
       simp only [Bool.true_or,if_true]
       exact (rmul_zero a b dir ha hb na nb (Or.inl oa) w).mono fun x w' h=>⟨⟨_,h.1,by omega,rfl⟩,h.2⟩
   · simp only [Bool.or_true,if_true]
     exact rmul_nan a b dir ha hb (Or.inr ⟨na,nb⟩) w
 · simp only [Bool.true_or,if_true]
   exact rmul_nan a b dir ha hb (Or.inl na) w
theorem radd_nan (a b:Nat) (dir:Int) (ha:a<18446744073709551616) (hb:b<18446744073709551616) (h:nanB a=true∨nanB a=false∧nanB b=true) (w:World) :
   Calls Tryz.prog 98 #[.float .f64 a,.float .f64 b,.int .i64 dir] w fun x w'=>Ans none x∧Below w.heap.size w w':=by
 rcases h with h | ⟨h1,h2⟩
 all_goals
   go_enter Tryz.func98,Tryz.ntmps98
   go_wp2_with (first | (go_at_call 119;refine (isNum_w _ (by assumption) _).mono ?_;rintro _ _ ⟨rfl,rfl⟩) | (go_at_call 83;refine (nan_w _).mono ?_;rintro _ _ ⟨rfl,rfl⟩))
   go_ret
   exact⟨ans_nan,Below.refl _ _⟩
set_option maxHeartbeats 400000 in
theorem radd_inf (a b:Nat) (dir:Int) (ha:a<18446744073709551616) (hb:b<18446744073709551616) (na:nanB a=false) (nb:nanB b=false) (R:Option Nat) (hR:∀r,R=some r→r<18446744073709551616)
   (h:finB a=true∧finB b=false∧R=some b∨finB a=false∧(FloatKind.f64.format.order a b==some .eq)=true∧R=some b∨finB a=false∧(FloatKind.f64.format.order a b==some .eq)=false∧finB b=true∧R=some a∨finB a=false∧(FloatKind.f64.format.order a b==some .eq)=false∧finB b=false∧R=none) (w:World) :
   Calls Tryz.prog 98 #[.float .f64 a,.float .f64 b,.int .i64 dir] w fun x w'=>Ans R x∧Below w.heap.size w w':=by
 have ca:=fun w=>rfinite_w a ha w
 have cb:=fun w=>rfinite_w b hb w
 have HB:Below w.heap.size w w:=Below.refl _ _
 rcases h with ⟨fa,fb,rfl⟩ | ⟨fa,ho,rfl⟩ | ⟨fa,ho,fb,rfl⟩ | ⟨fa,ho,fb,rfl⟩
 · rw [fa] at ca
   rw [fb] at cb
   go_enter Tryz.func98,Tryz.ntmps98
   go_wp2_with (first
     | (go_at_call 119;refine (isNum_w _ (by assumption) _).mono ?_;rintro _ _ ⟨rfl,rfl⟩)
     | (go_at_call_of 120 (Value.float .f64 a);refine (ca _).mono ?_;rintro _ w1 ⟨rfl,hb1⟩;replace HB:=later HB hb1;clear hb1)
     | (go_at_call_of 120 (Value.float .f64 b);refine (cb _).mono ?_;rintro _ w2 ⟨rfl,hb1⟩;replace HB:=later HB hb1;clear hb1)
     | (go_at_call 83;refine (nan_w _).mono ?_;rintro _ _ ⟨rfl,rfl⟩))
   go_ret
   exact⟨⟨_,rfl,hR _ rfl,rfl⟩,HB⟩
 · rw [fa] at ca
   go_enter Tryz.func98,Tryz.ntmps98
   go_wp2_with (first
     | (go_at_call 119;refine (isNum_w _ (by assumption) _).mono ?_;rintro _ _ ⟨rfl,rfl⟩)
     | (go_at_call_of 120 (Value.float .f64 a);refine (ca _).mono ?_;rintro _ w1 ⟨rfl,hb1⟩;replace HB:=later HB hb1;clear hb1)
     | (go_at_call_of 120 (Value.float .f64 b);refine (cb _).mono ?_;rintro _ w2 ⟨rfl,hb1⟩;replace HB:=later HB hb1;clear hb1)
     | (go_at_call 83;refine (nan_w _).mono ?_;rintro _ _ ⟨rfl,rfl⟩))
   go_ret
   exact⟨⟨_,rfl,hR _ rfl,rfl⟩,HB⟩
 · rw [fa] at ca
   rw [fb] at cb
   go_enter Tryz.func98,Tryz.ntmps98
   go_wp2_with (first
     | (go_at_call 119;refine (isNum_w _ (by assumption) _).mono ?_;rintro _ _ ⟨rfl,rfl⟩)
     | (go_at_call_of 120 (Value.float .f64 a);refine (ca _).mono ?_;rintro _ w1 ⟨rfl,hb1⟩;replace HB:=later HB hb1;clear hb1)
     | (go_at_call_of 120 (Value.float .f64 b);refine (cb _).mono ?_;rintro _ w2 ⟨rfl,hb1⟩;replace HB:=later HB hb1;clear hb1)
     | (go_at_call 83;refine (nan_w _).mono ?_;rintro _ _ ⟨rfl,rfl⟩))
   go_ret
   exact⟨⟨_,rfl,hR _ rfl,rfl⟩,HB⟩
 · rw [fa] at ca
   rw [fb] at cb
   go_enter Tryz.func98,Tryz.ntmps98
   go_wp2_with (first
     | (go_at_call 119;refine (isNum_w _ (by assumption) _).mono ?_;rintro _ _ ⟨rfl,rfl⟩)
     | (go_at_call_of 120 (Value.float .f64 a);refine (ca _).mono ?_;rintro _ w1 ⟨rfl,hb1⟩;replace HB:=later HB hb1;clear hb1)
     | (go_at_call_of 120 (Value.float .f64 b);refine (cb _).mono ?_;rintro _ w2 ⟨rfl,hb1⟩;replace HB:=later HB hb1;clear hb1)
     | (go_at_call 83;refine (nan_w _).mono ?_;rintro _ _ ⟨rfl,rfl⟩))
   go_ret
   exact⟨ans_nan,HB⟩
set_option maxHeartbeats 1000000 in
theorem radd_fin (a b:Nat) (dir:Int) (ha:a<18446744073709551616) (hb:b<18446744073709551616) (fa:finB a=true) (fb:finB b=true) (hlt:addF a b dir<18446744073709551616) (hnz:addF a b dir≠9223372036854775808) (w:World) :
   Calls Tryz.prog 98 #[.float .f64 a,.float .f64 b,.int .i64 dir] w fun x w'=>x=.returned (.float .f64 (addF a b dir))∧Below w.heap.size w w':=by
 have ca:=fun w=>rfinite_w a ha w
 have cb:=fun w=>rfinite_w b hb w
 rw [fa] at ca
 rw [fb] at cb
 have na:=fin_num fa
 have nb:=fin_num fb
 have f0:=fun w=>float_z a ha fa w
 have f1:=fun w=>float_z b hb fb w
 have hr:=addF_is dir ha hb fa fb
 have hok:=ofKey_key hlt hnz
 clear hlt hnz
 generalize addF a b dir=M at *
 obtain⟨L,hL⟩:∃L:Nat,L=2099:=⟨_,rfl⟩
 have cp:=fun W v0 v1 (h0:NumZ (-1074) 971 53 W v0 (V (key a))) (h1:NumZ (-1074) 971 53 W v1 (V (key b)))=>sum_z (S:=-1074) (T:=971) (K:=53) (L:=L) (by omega) (by omega) (by omega) (by omega) h0 h1
 have cw:∀W x,NumZ (-1074) 971 L W x (V (key a)+V (key b))→Calls Tryz.prog 121 #[x,.int .i64 dir] W fun r w'=>r=.returned (.float .f64 (ofKey (key M)))∧Below W.heap.size W w':=fun W x hx=>by
   have h1:=(hx.scale (S':=-1075) (t:=1) (by omega)).wide (T':=6000) (K':=20000) (by omega) (by omega)
   rw [show (V (key a)+V (key b))*((2^1:Nat):Int)=2*(V (key a)+V (key b)) by simp;omega] at h1
   exact whole_x (t:=0) (by omega) (by rw [Nat.pow_zero];exact hr) h1
 rw [hok] at cw
 clear hr hok hL
 generalize V (key a)=A at *
 generalize V (key b)=B at *
 have HB:Below w.heap.size w w:=Below.refl _ _
 go_enter Tryz.func98,Tryz.ntmps98
 go_wp2_with (first
   | (go_at_call 119;refine (isNum_w _ (by assumption) _).mono ?_;rintro _ _ ⟨rfl,rfl⟩)
   | (go_at_call_of 120 (Value.float .f64 a);refine (ca _).mono ?_;rintro _ w1 ⟨rfl,hb1⟩;replace HB:=later HB hb1;clear hb1)
   | (go_at_call_of 120 (Value.float .f64 b);refine (cb _).mono ?_;rintro _ w2 ⟨rfl,hb1⟩;replace HB:=later HB hb1;clear hb1)
   | (go_at_call_of 62 (Value.float .f64 a);refine (f0 _).mono ?_;rintro _ w3 ⟨⟨v0,rfl,hv0⟩,hb1⟩;replace HB:=later HB hb1;clear hb1)
   | (go_at_call_of 62 (Value.float .f64 b);refine (f1 _).mono ?_;rintro _ w4 ⟨⟨v1,rfl,hv1⟩,hb1⟩;replace HB:=later HB hb1;replace hv0:=hv0.keep hb1;clear hb1)
   | (go_at_call 65;refine (cp _ _ _ hv0 hv1).mono ?_;rintro _ w5 ⟨⟨v2,rfl,hv2⟩,hb1⟩;replace HB:=later HB hb1;clear hb1)
   | (go_at_call 121;refine (cw _ _ hv2).mono ?_;rintro _ w6 ⟨rfl,hb1⟩;replace HB:=later HB hb1;clear hb1))
 go_ret
 exact⟨rfl,HB⟩
theorem radd_facts (a b:Nat) (d:Int):nanB (addF a b d)=false∧addF a b d≠9223372036854775808∧addF a b d<18446744073709551616:=by
 have hm:=sumM_lt (splitG a) (splitM a) (splitE a) (splitG b) (splitM b) (splitE b) (splitM_lt a) (splitM_lt b)
 exact roundN_facts _ _ _ d hm
theorem radd_w (a b:Nat) (dir:Int) (ha:a<18446744073709551616) (hb:b<18446744073709551616) (w:World) :
   Calls Tryz.prog 98 #[.float .f64 a,.float .f64 b,.int .i64 dir] w fun x w'=>Ans (addR a b dir) x∧Below w.heap.size w w':=by
 unfold addR
 cases na:nanB a
 · cases nb:nanB b
   · simp only [Bool.or_self,Bool.false_eq_true,if_false]
     have ho:=order_eq a b ha hb
     rw [na,nb] at ho
     simp only [Bool.or_self,Bool.false_eq_true,if_false] at ho
     cases fa:finB a
     · have ea:=inf_word ha na fa
       cases fb:finB b
       · have eb:=inf_word hb nb fb
         have sd:(signB a != signB b)=true∨a=b:=by
           unfold signB
           generalize decide (9223372036854775808≤a)=s at *
           generalize decide (9223372036854775808≤b)=t at *
           cases s <;> cases t <;> simp_all
         have hne:(signB a != signB b)=true→(FloatKind.f64.format.order a b==some .eq)=false:=by
           intro h
           rw [ho]
           unfold signB at h
           have hk:compare (key a) (key b)≠.eq:=by
             intro c
             have c:=Int.compare_eq_eq.1 c
             generalize hs:decide (9223372036854775808≤a)=s at *
             generalize ht:decide (9223372036854775808≤b)=t at *
             cases s <;> cases t <;> simp at h <;> simp only [Bool.false_eq_true,if_false,if_true] at ea eb <;> subst ea <;> subst eb <;> exact absurd c (by decide)
           simp [hk]
         cases hs:(signB a != signB b)
         · rcases sd with h | h
           · rw [h] at hs;cases hs
           · subst h
             simp only [Bool.and_self,Bool.false_eq_true,if_false,Bool.not_false,Bool.and_false]
             exact radd_inf a a dir ha ha na na (some a) (fun r h=>by cases h;exact ha) (Or.inr (Or.inl ⟨fa,by rw [ho];simp,rfl⟩)) w
         · simp only [Bool.and_self,Bool.false_eq_true,if_false,Bool.not_false,if_true]
           exact radd_inf a b dir ha hb na nb none (fun r h=>by cases h) (Or.inr (Or.inr (Or.inr ⟨fa,hne hs,fb,rfl⟩))) w
       · have hne:(FloatKind.f64.format.order a b==some .eq)=false:=by
           rw [ho]
           have hk:compare (key a) (key b)≠.eq:=by
             intro c
             have c:=Int.compare_eq_eq.1 c
             have h1:¬a%9223372036854775808<9218868437227405312:=by simpa [finB] using fa
             have h2:b%9223372036854775808<9218868437227405312:=by simpa [finB] using fb
             unfold key at c
             split at c <;> split at c <;> omega
           simp [hk]
         simp only [Bool.false_and,Bool.false_eq_true,if_false,Bool.not_true,Bool.and_false]
         exact radd_inf a b dir ha hb na nb (some a) (fun r h=>by cases h;exact ha) (Or.inr (Or.inr (Or.inl ⟨fa,hne,fb,rfl⟩))) w
     · cases fb:finB b
       · simp only [Bool.and_false,Bool.false_eq_true,if_false,Bool.not_true,Bool.false_and,if_true]
         exact radd_inf a b dir ha hb na nb (some b) (fun r h=>by cases h;exact hb) (Or.inl ⟨fa,fb,rfl⟩) w
       · simp only [Bool.and_self,if_true]
         have hm:=radd_facts a b dir
         exact (radd_fin a b dir ha hb fa fb hm.2.2 hm.2.1 w).mono fun x w' h=>⟨⟨_,h.1,hm.2.2,rfl⟩,h.2⟩
   · simp only [Bool.or_true,if_true]
     exact radd_nan a b dir ha hb (Or.inr ⟨na,nb⟩) w
 · simp only [Bool.true_or,if_true]
   exact radd_nan a b dir ha hb (Or.inl na) w
theorem enter2 (w:World) (a b c d:Value) (T:TypeId):Has2 (((w.alloc (.cells #[a,b] T)).alloc (.cells #[c,d] T)).alloc (.cells #[.float .f64 0,.float .f64 0] T)) w.heap.size a b∧Has2 (((w.alloc (.cells #[a,b] T)).alloc (.cells #[c,d] T)).alloc (.cells #[.float .f64 0,.float .f64 0] T)) (w.heap.size+1) c d ∧
   Has2 (((w.alloc (.cells #[a,b] T)).alloc (.cells #[c,d] T)).alloc (.cells #[.float .f64 0,.float .f64 0] T)) (w.heap.size+1+1) (.float .f64 0) (.float .f64 0)∧Below w.heap.size w (((w.alloc (.cells #[a,b] T)).alloc (.cells #[c,d] T)).alloc (.cells #[.float .f64 0,.float .f64 0] T)) :=
 ⟨⟨by go_simp,by go_simp,by go_simp,by go_simp,by go_size⟩,⟨by go_simp,by go_simp,by go_simp,by go_simp,by go_size⟩,⟨by go_simp,by go_simp,by go_simp,by go_simp,by go_size⟩,by go_grown⟩
theorem enter1 (w:World) (a b:Value) (T:TypeId):Has2 ((w.alloc (.cells #[a,b] T)).alloc (.cells #[.float .f64 0,.float .f64 0] T)) w.heap.size a b ∧
   Has2 ((w.alloc (.cells #[a,b] T)).alloc (.cells #[.float .f64 0,.float .f64 0] T)) (w.heap.size+1) (.float .f64 0) (.float .f64 0)∧Below w.heap.size w ((w.alloc (.cells #[a,b] T)).alloc (.cells #[.float .f64 0,.float .f64 0] T)) :=
 ⟨⟨by go_simp,by go_simp,by go_simp,by go_simp,by go_size⟩,⟨by go_simp,by go_simp,by go_simp,by go_simp,by go_size⟩,by go_grown⟩
theorem rends_core (lo hi l2 h2:Nat) (b1 b2:Bool) (p:Nat×Nat) (o1:(FloatKind.f64.format.order lo 9218868437227405311==some .gt)=b1) (o2:(FloatKind.f64.format.order hi 18442240474082181119==some .lt)=b2)
   (e1:l2=if b1 then 9218868437227405311 else lo) (e2:h2=if b2 then 18442240474082181119 else hi)
   (c3:∀w,Calls Tryz.prog 34 #[.float .f64 l2,.float .f64 h2] w fun e w'=>e=.returned (.agg #[.float .f64 p.1,.float .f64 p.2])∧Below w.heap.size w w') (w:World) :
   Calls Tryz.prog 97 #[.float .f64 lo,.float .f64 hi] w fun e w'=>e=.returned (.agg #[.float .f64 p.1,.float .f64 p.2])∧Below w.heap.size w w':=by
 cases b1 <;> cases b2
 all_goals
   simp only [Bool.false_eq_true,if_true,if_false] at e1 e2
   subst e1 e2
   go_enter Tryz.func97,Tryz.ntmps97
   go_wp2_with (go_at_call 34;refine (c3 _).mono ?_;rintro _ w1 ⟨rfl,hb1⟩
                have R:Has2 w1 w.heap.size (.float .f64 0) (.float .f64 0):=Has2.keep ⟨by go_simp,by go_simp,by go_simp,by go_simp,by go_size⟩ hb1
                obtain⟨r0,r1,r2,r3,r4⟩:=R
                have HB:Below w.heap.size w w1:=later (by go_grown) hb1)
   refine bodyPost_ret (v:=.agg #[.float .f64 p.1,.float .f64 p.2]) (by simp [results,Tryz.results97,go_sem, *]) rfl ⟨rfl, ?_⟩
   repeat' (first | (with_reducible exact HB) | (with_reducible refine Below.setCell ?_ ?_ _) | go_size)
theorem rends_w (lo hi:Nat) (hl:lo<18446744073709551616) (hh:hi<18446744073709551616) (S:Some2 lo hi) (w:World) :
   Calls Tryz.prog 97 #[.float .f64 lo,.float .f64 hi] w fun e w'=>e=.returned (.agg #[.float .f64 lo,.float .f64 hi])∧Below w.heap.size w w':=by
 have h:=rends_core lo hi _ _ _ _ (rendsP lo hi) (o_gt hl (by omega)) (o_lt hh (by omega)) rfl rfl (fun w=>rmake_w _ _ (by split <;> omega) (by split <;> omega) w) w
 rw [rends_is S] at h
 exact h
def addP (xl xh yl yh:Nat):Nat×Nat:=if hsB xl xh&&hsB yl yh then ((addR xl yl (-1)).getD 0,(addR xh yh 1).getD 0) else (infI 1,infI (-1))
theorem addP_lt {xl xh yl yh:Nat} (h1:xl<18446744073709551616) (h2:xh<18446744073709551616) (h3:yl<18446744073709551616) (h4:yh<18446744073709551616):(addP xl xh yl yh).1<18446744073709551616∧(addP xl xh yl yh).2<18446744073709551616:=by
 unfold addP
 have e1:=infI_lt 1
 have e2:=infI_lt (-1)
 cases hx:hsB xl xh <;> cases hy:hsB yl yh
 · rw [if_neg (by simp)];exact⟨e1,e2⟩
 · rw [if_neg (by simp)];exact⟨e1,e2⟩
 · rw [if_neg (by simp)];exact⟨e1,e2⟩
 · rw [if_pos (by simp)]
   obtain⟨l,u,e1,e2, -,e3,e4⟩:=add_some h1 h2 h3 h4 (hs_iff.1 hx) (hs_iff.1 hy)
   rw [e1,e2]
   exact⟨e3,e4⟩
theorem negP_lt {lo hi:Nat} (hl:lo<18446744073709551616) (hh:hi<18446744073709551616):(negP (lo,hi)).1<18446744073709551616∧(negP (lo,hi)).2<18446744073709551616:=by
 have e1:=infI_lt 1
 have e2:=infI_lt (-1)
 unfold negP mirrorP emptyP
 cases hsB lo hi
 · rw [if_neg (by simp)];exact⟨e1,e2⟩
 · rw [if_pos rfl];exact makeP_lt (negB_lt hh) (negB_lt hl)
theorem Add_w (xl xh yl yh:Nat) (h1:xl<18446744073709551616) (h2:xh<18446744073709551616) (h3:yl<18446744073709551616) (h4:yh<18446744073709551616) (w:World) :
   Calls Tryz.prog 59 #[.agg #[.float .f64 xl,.float .f64 xh],.agg #[.float .f64 yl,.float .f64 yh]] w fun e w'=>e=.returned (.agg #[.float .f64 (addP xl xh yl yh).1,.float .f64 (addP xl xh yl yh).2])∧Below w.heap.size w w':=by
 unfold addP
 cases hs:hsB xl xh&&hsB yl yh
 · exact add_none xl xh yl yh h1 h2 h3 h4 hs w
 · obtain⟨hx,hy⟩:=Bool.and_eq_true_iff.1 hs
   obtain⟨l,u,e1,e2, -,e3,e4⟩:=add_some h1 h2 h3 h4 (hs_iff.1 hx) (hs_iff.1 hy)
   refine (add_i xl xh yl yh h1 h2 h3 h4 _ _ (fun w=>add_w xl yl (-1) h1 h3 w) (fun w=>add_w xh yh 1 h2 h4 w) hs w).mono ?_
   rintro _ _ ⟨⟨r1,r2,rfl,t1,t2⟩,hb⟩
   rw [e1] at t1
   rw [e2] at t2
   rw [e1,e2]
   obtain rfl:r1=l:=t1.2
   obtain rfl:r2=u:=t2.2
   exact⟨rfl,hb⟩
theorem Sub_w (xl xh yl yh:Nat) (h1:xl<18446744073709551616) (h2:xh<18446744073709551616) (h3:yl<18446744073709551616) (h4:yh<18446744073709551616) (w:World) :
   Calls Tryz.prog 50 #[.agg #[.float .f64 xl,.float .f64 xh],.agg #[.float .f64 yl,.float .f64 yh]] w fun e w'=>e=.returned (.agg #[.float .f64 (addP xl xh (negP (yl,yh)).1 (negP (yl,yh)).2).1,.float .f64 (addP xl xh (negP (yl,yh)).1 (negP (yl,yh)).2).2])∧Below w.heap.size w w':=by
 have n:=negP_lt h3 h4
 have a:=addP_lt h1 h2 n.1 n.2
 have h:=sub_i xl xh yl yh (negP (yl,yh)).1 (negP (yl,yh)).2 (some (addP xl xh (negP (yl,yh)).1 (negP (yl,yh)).2).1) (some (addP xl xh (negP (yl,yh)).1 (negP (yl,yh)).2).2) (fun w=>neg_w yl yh h3 h4 w)
   (fun w=>(Add_w xl xh _ _ h1 h2 n.1 n.2 w).mono fun _ _ ⟨e,b⟩=>⟨⟨_,_,e,⟨a.1,rfl⟩,⟨a.2,rfl⟩⟩,b⟩) w
 refine h.mono ?_
 rintro _ _ ⟨⟨r1,r2,rfl,t1,t2⟩,hb⟩
 have e1:r1=(addP xl xh (negP (yl,yh)).1 (negP (yl,yh)).2).1:=t1.2
 have e2:r2=(addP xl xh (negP (yl,yh)).1 (negP (yl,yh)).2).2:=t2.2
 rw [e1,e2]
 exact⟨rfl,hb⟩
set_option maxHeartbeats 1000000 in
theorem radd_none (xl xh yl yh:Nat) (b1 b2:Bool)
   (c1:∀w,Calls Tryz.prog 35 #[.agg #[.float .f64 xl,.float .f64 xh]] w fun e w'=>e=.returned (.bool (!b1))∧Below w.heap.size w w')
   (c2:∀w,Calls Tryz.prog 35 #[.agg #[.float .f64 yl,.float .f64 yh]] w fun e w'=>e=.returned (.bool (!b2))∧Below w.heap.size w w')
   (hb:(b1&&b2)=false) (w:World) :
   Calls Tryz.prog 67 #[.agg #[.float .f64 xl,.float .f64 xh],.agg #[.float .f64 yl,.float .f64 yh]] w fun e w'=>e=.returned (.agg #[.float .f64 (infI 1),.float .f64 (infI (-1))])∧Below w.heap.size w w':=by
 obtain⟨X,Y,R,HB⟩:=enter2 w (.float .f64 xl) (.float .f64 xh) (.float .f64 yl) (.float .f64 yh) 36
 cases b1
 case' true=>cases b2
 case true.true=>cases hb
 all_goals
   simp only [Bool.not_true,Bool.not_false] at c1 c2
   go_enter Tryz.func67,Tryz.ntmps67
   go_wp2_with fail
   generalize ((w.alloc (.cells #[.float .f64 xl,.float .f64 xh] 36)).alloc (.cells #[.float .f64 yl,.float .f64 yh] 36)).alloc (.cells #[.float .f64 0,.float .f64 0] 36)=V0 at *
   obtain⟨x0,x1,x2,x3,x4⟩:=id X
   obtain⟨y0,y1,y2,y3,y4⟩:=id Y
   obtain⟨r0,r1,r2,r3,r4⟩:=id R
   go_wp2_with (first
     | (go_at_call_of 35 (Value.agg #[.float .f64 xl,.float .f64 xh]);refine (c1 _).mono ?_;rintro _ w1 ⟨rfl,hb1⟩;replace X:=X.keep hb1;replace Y:=Y.keep hb1;replace R:=R.keep hb1;replace HB:=later HB hb1;clear hb1 x0 x1 x2 x3 x4 y0 y1 y2 y3 y4 r0 r1 r2 r3 r4
        obtain⟨x0,x1,x2,x3,x4⟩:=id X
        obtain⟨y0,y1,y2,y3,y4⟩:=id Y
        obtain⟨r0,r1,r2,r3,r4⟩:=id R)
     | (go_at_call_of 35 (Value.agg #[.float .f64 yl,.float .f64 yh]);refine (c2 _).mono ?_;rintro _ w1 ⟨rfl,hb1⟩;replace X:=X.keep hb1;replace Y:=Y.keep hb1;replace R:=R.keep hb1;replace HB:=later HB hb1;clear hb1 x0 x1 x2 x3 x4 y0 y1 y2 y3 y4 r0 r1 r2 r3 r4
        obtain⟨x0,x1,x2,x3,x4⟩:=id X
        obtain⟨y0,y1,y2,y3,y4⟩:=id Y
        obtain⟨r0,r1,r2,r3,r4⟩:=id R)
     | (go_at_call 70;refine (rempty_w _).mono ?_;rintro _ w1 ⟨rfl,hb1⟩;replace X:=X.keep hb1;replace Y:=Y.keep hb1;replace R:=R.keep hb1;replace HB:=later HB hb1;clear hb1 x0 x1 x2 x3 x4 y0 y1 y2 y3 y4 r0 r1 r2 r3 r4
        obtain⟨x0,x1,x2,x3,x4⟩:=id X
        obtain⟨y0,y1,y2,y3,y4⟩:=id Y
        obtain⟨r0,r1,r2,r3,r4⟩:=id R))
   refine bodyPost_ret (v:=.agg #[.float .f64 (infI 1),.float .f64 (infI (-1))]) (by simp [results,Tryz.results67,go_sem, *]) rfl ⟨rfl, ?_⟩
   repeat' (first | (with_reducible exact HB) | (with_reducible refine Below.setCell ?_ ?_ _) | go_size)
set_option maxHeartbeats 1000000 in
theorem radd_core (xl xh yl yh l u:Nat)
   (c1:∀w,Calls Tryz.prog 35 #[.agg #[.float .f64 xl,.float .f64 xh]] w fun e w'=>e=.returned (.bool false)∧Below w.heap.size w w')
   (c2:∀w,Calls Tryz.prog 35 #[.agg #[.float .f64 yl,.float .f64 yh]] w fun e w'=>e=.returned (.bool false)∧Below w.heap.size w w')
   (ca:∀w,Calls Tryz.prog 98 #[.float .f64 xl,.float .f64 yl,.int .i64 (-1)] w fun e w'=>e=.returned (.float .f64 l)∧Below w.heap.size w w')
   (cb:∀w,Calls Tryz.prog 98 #[.float .f64 xh,.float .f64 yh,.int .i64 1] w fun e w'=>e=.returned (.float .f64 u)∧Below w.heap.size w w')
   (ce:∀w,Calls Tryz.prog 97 #[.float .f64 l,.float .f64 u] w fun e w'=>e=.returned (.agg #[.float .f64 l,.float .f64 u])∧Below w.heap.size w w') (w:World) :
   Calls Tryz.prog 67 #[.agg #[.float .f64 xl,.float .f64 xh],.agg #[.float .f64 yl,.float .f64 yh]] w fun e w'=>e=.returned (.agg #[.float .f64 l,.float .f64 u])∧Below w.heap.size w w':=by
 obtain⟨X,Y,R,HB⟩:=enter2 w (.float .f64 xl) (.float .f64 xh) (.float .f64 yl) (.float .f64 yh) 36
 have ne1:w.heap.size+1+1≠w.heap.size:=by omega
 have ne2:w.heap.size≠w.heap.size+1+1:=by omega
 go_enter Tryz.func67,Tryz.ntmps67
 go_wp2_with fail
 generalize ((w.alloc (.cells #[.float .f64 xl,.float .f64 xh] 36)).alloc (.cells #[.float .f64 yl,.float .f64 yh] 36)).alloc (.cells #[.float .f64 0,.float .f64 0] 36)=V0 at *
 obtain⟨x0,x1,x2,x3,x4⟩:=id X
 obtain⟨y0,y1,y2,y3,y4⟩:=id Y
 obtain⟨r0,r1,r2,r3,r4⟩:=id R
 go_upto_region 3 with (first
     | (go_at_call_of 35 (Value.agg #[.float .f64 xl,.float .f64 xh]);refine (c1 _).mono ?_;rintro _ w1 ⟨rfl,hb1⟩;replace X:=X.keep hb1;replace Y:=Y.keep hb1;replace R:=R.keep hb1;replace HB:=later HB hb1;clear hb1 x0 x1 x2 x3 x4 y0 y1 y2 y3 y4 r0 r1 r2 r3 r4
        obtain⟨x0,x1,x2,x3,x4⟩:=id X
        obtain⟨y0,y1,y2,y3,y4⟩:=id Y
        obtain⟨r0,r1,r2,r3,r4⟩:=id R)
     | (go_at_call_of 35 (Value.agg #[.float .f64 yl,.float .f64 yh]);refine (c2 _).mono ?_;rintro _ w1 ⟨rfl,hb1⟩;replace X:=X.keep hb1;replace Y:=Y.keep hb1;replace R:=R.keep hb1;replace HB:=later HB hb1;clear hb1 x0 x1 x2 x3 x4 y0 y1 y2 y3 y4 r0 r1 r2 r3 r4
        obtain⟨x0,x1,x2,x3,x4⟩:=id X
        obtain⟨y0,y1,y2,y3,y4⟩:=id Y
        obtain⟨r0,r1,r2,r3,r4⟩:=id R))
 clear x0 x1 x2 x3 x4 y0 y1 y2 y3 y4 r0 r1 r2 r3 r4 c1 c2
 replace X:=X.drew
 replace Y:=Y.drew
 replace R:=R.drew
 replace HB:=HB.drew
 go_region_held3 (fun w'=>w'.cell? ⟨w.heap.size,0,none⟩=some (.float .f64 xl)∧w'.cell? ⟨w.heap.size,1,none⟩=some (.float .f64 xh)∧w'.cell? ⟨w.heap.size+1,0,none⟩=some (.float .f64 yl)∧w'.cell? ⟨w.heap.size+1,1,none⟩=some (.float .f64 yh)) (first | exact⟨X.1,X.2.1,Y.1,Y.2.1⟩ | go_keep)
   (first
     | (go_at_call_of 98 (Value.float .f64 xl);refine (ca _).mono ?_;rintro _ w2 ⟨rfl,hb1⟩;replace X:=X.keep hb1;replace Y:=Y.keep hb1;replace R:=R.keep hb1;replace HB:=later HB hb1;clear hb1)
     | (go_at_call_of 98 (Value.float .f64 xh);refine (cb _).mono ?_;rintro _ w2 ⟨rfl,hb1⟩;replace X:=X.keep hb1;replace Y:=Y.keep hb1;replace R:=R.keep hb1;replace HB:=later HB hb1;clear hb1)
     | (go_at_call 97;refine (ce _).mono ?_;rintro _ w3 ⟨rfl,hb1⟩;replace X:=X.keep hb1;replace Y:=Y.keep hb1;replace R:=R.keep hb1;replace HB:=later HB hb1;clear hb1;obtain⟨d0,d1,d2,d3,d4⟩:=R))
 all_goals
   go_wp2_with fail
   refine bodyPost_ret (v:=.agg #[.float .f64 l,.float .f64 u]) (by simp [results,Tryz.results67,go_sem, *]) rfl ⟨rfl, ?_⟩
   repeat' (first | (with_reducible exact HB) | (with_reducible refine Below.setCell ?_ ?_ _) | go_size)
theorem rAdd_w (xl xh yl yh:Nat) (h1:xl<18446744073709551616) (h2:xh<18446744073709551616) (h3:yl<18446744073709551616) (h4:yh<18446744073709551616) (w:World) :
   Calls Tryz.prog 67 #[.agg #[.float .f64 xl,.float .f64 xh],.agg #[.float .f64 yl,.float .f64 yh]] w fun e w'=>e=.returned (.agg #[.float .f64 (addP xl xh yl yh).1,.float .f64 (addP xl xh yl yh).2])∧Below w.heap.size w w':=by
 unfold addP
 cases hs:hsB xl xh&&hsB yl yh
 · exact radd_none xl xh yl yh _ _ (fun w=>none_w xl xh h1 h2 w) (fun w=>none_w yl yh h3 h4 w) hs w
 · obtain⟨hx,hy⟩:=Bool.and_eq_true_iff.1 hs
   obtain⟨l,u,e1,e2,S,e3,e4⟩:=add_some h1 h2 h3 h4 (hs_iff.1 hx) (hs_iff.1 hy)
   have c1:=fun w=>none_w xl xh h1 h2 w
   have c2:=fun w=>none_w yl yh h3 h4 w
   rw [hx] at c1
   rw [hy] at c2
   have ca:=told_calls e1 (fun w=>radd_w xl yl (-1) h1 h3 w)
   have cb:=told_calls e2 (fun w=>radd_w xh yh 1 h2 h4 w)
   rw [e1,e2]
   exact radd_core xl xh yl yh l u c1 c2 ca cb (fun w=>rends_w l u e3 e4 S w) w
end Go.Proofs.YtlabmpngbcnhpaaGreat
