/- The walk of the reference's Rounded. The reference's Rounded: the document's rounding. The reference's finite, inf and Whole. -/
import Derived.Test.YtgocelaghggpmaaDoorKt34
import Derived.Test.YtgocelaghggpmaaDoorKt02
import Derived.Test.YtgocelaghggpmaaDoorKt04
import Derived.Test.YtgocelaghggpmaaDoorKt03
import Derived.WalkKit
import Derived.Deep.CutBlock
import Derived.Deep.CutRange
import Derived.Deep.LoopGhost
namespace Go.Proofs.YtgocelaghggpmaaDoor
open Go.ChangeShapes Go.WideShapes Go.ChangeAt Go.RowKit
theorem NumZ.half {w:World} {x:Value} {z:Int} {K:Nat} (h:NumZ (-1074) 1024 K w x z) {K':Nat} (hK:K≤K'):∃g ao l ca e,x=.agg #[.bool g,.slice ao l ca,.int .i64 e]∧-1074≤e∧e≤1024∧NumZ (-1075) 1024 K' w (.agg #[.bool g,.slice ao l ca,.int .i64 (e-1)]) z:=by
 obtain⟨g,v,m,e,h1,h2,h3,h4,h5,h6⟩:=h
 obtain⟨ao,l,ca,rfl, -⟩:=h2.shape
 refine⟨g,ao,l,ca,e,h1,h4,h5,g,_,m,e-1,rfl,h2,Nat.lt_of_lt_of_le h3 (Nat.pow_le_pow_right (by omega) hK),by omega,by omega, ?_⟩
 rw [←h6,show e-1 - -1075=e - -1074 by omega]
set_option maxHeartbeats 2000000 in
theorem rounded_core (ga:Bool) (ao:Option Addr) (la ca:Nat) (ea:Int) (gb:Bool) (bo:Option Addr) (lb cb:Nat) (eb:Int) (root:Bool) (dir d:Int) (F0 F1:Nat) (b1 b2 b3:Bool) (w:World) (hd:-9218868437227405312≤d∧d≤9218868437227405311)
   (P G0 G1 H:World→Value→Prop) (kg:∀W W' v,G0 W v→Below W.heap.size W W'→G0 W' v) (kh:∀W W' v,H W v→Below W.heap.size W W'→H W' v)
   (cd:∀W,Below w.heap.size w W→Calls Tryd.prog 79 #[.agg #[.bool ga,.slice ao la ca,.int .i64 ea,.bool gb,.slice bo lb cb,.int .i64 eb,.bool root]] W fun r w'=>r=.returned (.int .i64 d)∧Below W.heap.size W w')
   (c0:∀W,Calls Tryd.prog 82 #[.int .i64 d] W fun r w'=>r=.returned (.float .f64 F0)∧W=w')
   (c1:∀W,Calls Tryd.prog 82 #[.int .i64 (d+1)] W fun r w'=>r=.returned (.float .f64 F1)∧W=w')
   (cf:d≠-9218868437227405312→∀W,Below w.heap.size w W→Calls Tryd.prog 81 #[.float .f64 F0] W fun r w'=>(∃v,r=.returned v∧P w' v)∧Below W.heap.size W w')
   (cs:d≠-9218868437227405312→∀W v,Below w.heap.size w W→P W v→Calls Tryd.prog 80 #[v,.agg #[.bool ga,.slice ao la ca,.int .i64 ea,.bool gb,.slice bo lb cb,.int .i64 eb,.bool root]] W fun r w'=>r=.returned (.bool b1)∧Below W.heap.size W w')
   (cg0:∀W,Below w.heap.size w W→Calls Tryd.prog 84 #[.int .i64 d] W fun r w'=>(∃v,r=.returned v∧G0 w' v)∧Below W.heap.size W w')
   (cg1:∀W,Below w.heap.size w W→Calls Tryd.prog 84 #[.int .i64 (d+1)] W fun r w'=>(∃v,r=.returned v∧G1 w' v)∧Below W.heap.size W w')
   (cq:∀W v0 v1,Below w.heap.size w W→G0 W v0→G1 W v1→Calls Tryd.prog 83 #[v0,v1] W fun r w'=>(∃g o l c e,r=.returned (.agg #[.bool g,.slice o l c,.int .i64 e])∧-1074≤e∧e≤1024∧H w' (.agg #[.bool g,.slice o l c,.int .i64 (e-1)]))∧Below W.heap.size W w')
   (cs2:∀W v,Below w.heap.size w W→H W v→Calls Tryd.prog 80 #[v,.agg #[.bool ga,.slice ao la ca,.int .i64 ea,.bool gb,.slice bo lb cb,.int .i64 eb,.bool root]] W fun r w'=>r=.returned (.bool b2)∧Below W.heap.size W w')
   (cb3:∀W v,Below w.heap.size w W→H W v→Calls Tryd.prog 85 #[v,.agg #[.bool ga,.slice ao la ca,.int .i64 ea,.bool gb,.slice bo lb cb,.int .i64 eb,.bool root]] W fun r w'=>r=.returned (.bool b3)∧Below W.heap.size W w')
   (hb1:d=-9218868437227405312→b1=false) (R:Nat)
   (hR1:b1=true→R=F0) (hR2:b1=false→dir<0→R=F0) (hR3:b1=false→0<dir→R=F1) (hR4:b1=false→dir=0→b2=true→R=if d.tmod 2=0 then F0 else F1)
   (hR5:b1=false→dir=0→b2=false→b3=true→R=F1) (hR6:b1=false→dir=0→b2=false→b3=false→R=F0) :
   Calls Tryd.prog 43 #[.agg #[.bool ga,.slice ao la ca,.int .i64 ea,.bool gb,.slice bo lb cb,.int .i64 eb,.bool root],.int .i64 dir] w fun r w'=>r=.returned (.float .f64 R)∧Below w.heap.size w w':=by
 go_enter Tryd.func43,Tryd.ntmps43
 go_upto_region 2 with
  (go_at_call 79;refine (cd _ (by go_grown)).mono ?_;rintro _ w1 ⟨rfl,hb⟩
   have Y:Has7 w1 w.heap.size (.bool ga) (.slice ao la ca) (.int .i64 ea) (.bool gb) (.slice bo lb cb) (.int .i64 eb) (.bool root):=Has7.keep ⟨by go_simp,by go_simp,by go_simp,by go_simp,by go_simp,by go_simp,by go_simp,by go_size⟩ hb
   have HB:Below w.heap.size w w1:=later (by go_grown) hb)
 clear hb cd
 go_cut [22] from 10 to 21 (fun s22 wx=>s22=.bool (b1 || decide (dir<0))∧Below w.heap.size w wx∧Has7 wx w.heap.size (.bool ga) (.slice ao la ca) (.int .i64 ea) (.bool gb) (.slice bo lb cb) (.int .i64 eb) (.bool root))
 case first =>
   by_cases hd0:d=-9218868437227405312
   · have:=hb1 hd0
     subst this
     subst hd0
     clear hb1 cf cs hR1 hR2 hR3 hR4 hR5 hR6
     go_quiet (fail)
     go_wp2_with fail
     go_meet
     case rel=>exact⟨by simp,Go.below_drewN HB _,Y.keep (Go.below_drewN (Below.refl _ _) _)⟩
   · have hd1:decide (-9218868437227405311≤d)=true:=by simp;omega
     replace cf:=cf hd0
     replace cs:=cs hd0
     replace Y:=Y.drew
     replace HB:=HB.drew
     clear hb1 hd0 hR1 hR2 hR3 hR4 hR5 hR6
     cases b1
     · go_region_held3 (fun w'=>w'.cell? ⟨w.heap.size,0,none⟩=some (.bool ga)∧w'.cell? ⟨w.heap.size,1,none⟩=some (.slice ao la ca)∧w'.cell? ⟨w.heap.size,2,none⟩=some (.int .i64 ea)∧w'.cell? ⟨w.heap.size,3,none⟩=some (.bool gb)∧w'.cell? ⟨w.heap.size,4,none⟩=some (.slice bo lb cb)∧w'.cell? ⟨w.heap.size,5,none⟩=some (.int .i64 eb)∧w'.cell? ⟨w.heap.size,6,none⟩=some (.bool root)) (first | exact⟨Y.1,Y.2.1,Y.2.2.1,Y.2.2.2.1,Y.2.2.2.2.1,Y.2.2.2.2.2.1,Y.2.2.2.2.2.2.1⟩ | go_keep)
         (first
           | (go_at_call 82;refine (c0 _).mono ?_;rintro _ _ ⟨rfl,rfl⟩)
           | (go_at_call 81;refine (cf _ HB).mono ?_;rintro _ w2 ⟨⟨v,rfl,hv⟩,hb1⟩;replace Y:=Y.keep hb1;replace HB:=later HB hb1;clear hb1)
           | (go_at_call 80;refine (cs _ _ HB hv).mono ?_;rintro _ w3 ⟨rfl,hb1⟩;replace Y:=Y.keep hb1;replace HB:=later HB hb1;clear hb1))
       all_goals
         go_wp2_with fail
         go_meet
         case rel=>exact⟨by simp,HB,Y⟩
     · obtain⟨y0,y1,y2,y3,y4,y5,y6, -⟩:=id Y
       first
         | go_region_with (first
             | (go_at_call 82;refine (c0 _).mono ?_;rintro _ _ ⟨rfl,rfl⟩)
             | (go_at_call 81;refine (cf _ HB).mono ?_;rintro _ w2 ⟨⟨v,rfl,hv⟩,hb1⟩;replace Y:=Y.keep hb1;replace HB:=later HB hb1;clear hb1;obtain⟨x0,x1,x2,x3,x4,x5,x6, -⟩:=id Y)
             | (go_at_call 80;refine (cs _ _ HB hv).mono ?_;rintro _ w3 ⟨rfl,hb1⟩;replace Y:=Y.keep hb1;replace HB:=later HB hb1;clear hb1))
         | fail
       all_goals
         go_wp2_with fail
         go_meet
         case rel=>exact⟨by simp,HB,Y⟩
 case rest =>
   clear Y HB cf cs hb1
   obtain⟨rfl,HB,Y⟩:=hcut
   by_cases hc:(b1 || decide (dir<0))=true
   · have hR:R=F0:=by
       cases b1
       · exact hR2 rfl (by simpa using hc)
       · exact hR1 rfl
     subst hR
     rw [hc]
     clear hR1 hR2 hR3 hR4 hR5 hR6
     go_wp2_with (go_at_call 82;refine (c0 _).mono ?_;rintro _ _ ⟨rfl,rfl⟩)
     go_ret
     exact⟨rfl,HB⟩
   · have hc':(b1 || decide (dir<0))=false:=by simpa using hc
     have h1:b1=false:=by cases b1 <;> simp_all
     have h2:¬dir<0:=by intro q;subst h1;simp at hc;omega
     rw [hc']
     clear hc hc' hR1 hR2
     by_cases h3:0<dir
     · have hR:=hR3 h1 h3
       subst hR
       clear hR3 hR4 hR5 hR6
       go_wp2_with (go_at_call 82;refine (c1 _).mono ?_;rintro _ _ ⟨rfl,rfl⟩)
       go_ret
       exact⟨rfl,HB⟩
     · have h0:dir=0:=by omega
       subst h0
       replace hR4:=hR4 h1 rfl
       replace hR5:=hR5 h1 rfl
       replace hR6:=hR6 h1 rfl
       clear hR3 h1 h2 h3
       go_upto_region 8 with (first
         | (go_at_call_of 84 (Value.int .i64 d);refine (cg0 _ HB).mono ?_;rintro _ w2 ⟨⟨v0,rfl,hv0⟩,hb⟩;replace Y:=Y.keep hb;replace HB:=later HB hb;clear hb)
         | (go_at_call 84;refine (cg1 _ HB).mono ?_;rintro _ w3 ⟨⟨v1,rfl,hv1⟩,hb⟩;replace Y:=Y.keep hb;replace HB:=later HB hb;replace hv0:=kg _ _ _ hv0 hb;clear hb)
         | (go_at_call 83;refine (cq _ _ _ HB hv0 hv1).mono ?_;rintro _ w4 ⟨⟨g2,o2,l2,p2,e2,rfl,q1,q2,hh⟩,hb⟩;replace Y:=Y.keep hb;replace HB:=later HB hb;clear hb))
       clear hv0 hv1 cg0 cg1 cq kg
       have hz:Below w4.heap.size w4 ((w4.alloc (.cells #[.bool g2,.slice o2 l2 p2,.int .i64 e2] 76)).alloc (.cells #[.bool g2,.slice o2 l2 p2,.int .i64 (e2-1)] 76)):=by go_grown
       have Z:Has3 ((w4.alloc (.cells #[.bool g2,.slice o2 l2 p2,.int .i64 e2] 76)).alloc (.cells #[.bool g2,.slice o2 l2 p2,.int .i64 (e2-1)] 76)) (w4.heap.size+1) (.bool g2) (.slice o2 l2 p2) (.int .i64 (e2-1)):=⟨by go_simp,by go_simp,by go_simp,by go_simp,by go_simp,by go_simp,by go_size⟩
       replace Y:=Y.keep hz
       replace HB:=later HB hz
       replace hh:=kh _ _ _ hh hz
       clear hz
       generalize ((w4.alloc (.cells #[.bool g2,.slice o2 l2 p2,.int .i64 e2] 76)).alloc (.cells #[.bool g2,.slice o2 l2 p2,.int .i64 (e2-1)] 76))=V5 at *
       generalize w4.heap.size+1=q at *
       obtain⟨z0,z1,z2, -, -, -,zl⟩:=Z
       obtain⟨y0,y1,y2,y3,y4,y5,y6,yl⟩:=id Y
       have hb2:b2=true∨b2=false:=by cases b2 <;> simp
       rcases hb2 with h2 | h2
       · subst h2
         replace hR4:=hR4 rfl
         clear hR5 hR6 cb3 kh
         by_cases hp:d.tmod 2=0
         · rw [if_pos hp] at hR4
           subst hR4
           have hp':(d.tmod 2==0)=true:=by rw [hp];rfl
           go_wp2_with (first
             | (go_at_call 80;refine (cs2 _ _ HB hh).mono ?_;rintro _ w6 ⟨rfl,hb⟩;replace HB:=later HB hb;clear hb)
             | (go_at_call 82;refine (c0 _).mono ?_;rintro _ _ ⟨rfl,rfl⟩))
           go_ret
           exact⟨rfl,HB⟩
         · rw [if_neg hp] at hR4
           subst hR4
           have hp':(d.tmod 2==0)=false:=by rw [beq_eq_false_iff_ne];exact hp
           go_wp2_with (first
             | (go_at_call 80;refine (cs2 _ _ HB hh).mono ?_;rintro _ w6 ⟨rfl,hb⟩;replace HB:=later HB hb;clear hb)
             | (go_at_call 82;refine (c1 _).mono ?_;rintro _ _ ⟨rfl,rfl⟩))
           go_ret
           exact⟨rfl,HB⟩
       · subst h2
         clear hR4
         have hb3:b3=true∨b3=false:=by cases b3 <;> simp
         rcases hb3 with h3 | h3
         · subst h3
           replace hR5:=hR5 rfl rfl
           subst hR5
           clear hR6
           go_wp2_with (first
             | (go_at_call 80;refine (cs2 _ _ HB hh).mono ?_;rintro _ w6 ⟨rfl,hb⟩;replace HB:=later HB hb;replace hh:=kh _ _ _ hh hb;replace Y:=Y.keep hb;obtain⟨x0,x1,x2,x3,x4,x5,x6, -⟩:=Y;have u0:=keepsC hb z0 zl;have u1:=keepsC hb z1 zl;have u2:=keepsC hb z2 zl;clear hb)
             | (go_at_call 85;refine (cb3 _ _ HB hh).mono ?_;rintro _ w7 ⟨rfl,hb⟩;replace HB:=later HB hb;clear hb)
             | (go_at_call 82;refine (c1 _).mono ?_;rintro _ _ ⟨rfl,rfl⟩))
           go_ret
           exact⟨rfl,HB⟩
         · subst h3
           replace hR6:=hR6 rfl rfl
           subst hR6
           clear hR5
           go_wp2_with (first
             | (go_at_call 80;refine (cs2 _ _ HB hh).mono ?_;rintro _ w6 ⟨rfl,hb⟩;replace HB:=later HB hb;replace hh:=kh _ _ _ hh hb;replace Y:=Y.keep hb;obtain⟨x0,x1,x2,x3,x4,x5,x6, -⟩:=Y;have u0:=keepsC hb z0 zl;have u1:=keepsC hb z1 zl;have u2:=keepsC hb z2 zl;clear hb)
             | (go_at_call 85;refine (cb3 _ _ HB hh).mono ?_;rintro _ w7 ⟨rfl,hb⟩;replace HB:=later HB hb;clear hb)
             | (go_at_call 82;refine (c0 _).mono ?_;rintro _ _ ⟨rfl,rfl⟩))
           go_ret
           exact⟨rfl,HB⟩
theorem kdown_unique {X:Ex} (ok:X.Ok) {d e:Int} (h1:KDown X d) (h2:KDown X e):d=e :=
 Int.le_antisymm (kdown_mono ok (fun _ c=>c) h1 h2) (kdown_mono ok (fun _ c=>c) h2 h1)
theorem tmod_zero (d:Int):d.tmod 2=0↔d%2=0:=by
 obtain⟨h1,h2,h3⟩:=tdiv2 d
 generalize d.tdiv 2=q at *
 generalize d.tmod 2=r at *
 omega
theorem rounded_x {X:Ex} (ok:X.Ok) {dir k:Int} (hk:IsRnd X dir k) {x:Value} {w:World} (hx:XIs w x X) :
   Calls Tryd.prog 43 #[x,.int .i64 dir] w fun r w'=>r=.returned (.float .f64 (ofKey k))∧Below w.heap.size w w':=by
 obtain⟨d,hd,hcase⟩:=hk
 have hx':=hx
 obtain⟨ga,ao,la,ca,ea,gb,bo,lb,cb,eb,root,rfl, -⟩:=hx'
 have bt:=hd.bot
 have tp:=hd.top
 have:∃b1 b2 b3:Bool,(b1=true↔d≠-9218868437227405312∧X.le (2*V d)∧X.ge (2*V d))∧(b2=true↔X.le (V d+V (d+1))∧X.ge (V d+V (d+1)))∧(b3=true↔X.le (V d+V (d+1))):=by
   classical
   exact⟨decide _,decide _,decide _,decide_eq_true_iff,decide_eq_true_iff,decide_eq_true_iff⟩
 obtain⟨b1,b2,b3,e1,e2,e3⟩:=this
 have same_of:∀{b c:Bool} {p:Prop},(b=true↔p)→(c=true↔p)→b=c:=fun h1 h2=>by
   rename_i b c p
   cases b <;> cases c <;> simp_all
 refine rounded_core ga ao la ca ea gb bo lb cb eb root dir d (ofKey d) (ofKey (d+1)) b1 b2 b3 w ⟨bt,tp⟩
   (fun W v=>NumZ (-1075) 1024 3000 W v (2*V d)) (fun W v=>NumZ (-1074) 1024 53 W v (V d)) (fun W v=>NumZ (-1074) 1024 53 W v (V (d+1))) (fun W v=>NumZ (-1075) 1024 3000 W v (V d+V (d+1)))
   (fun W W' v h hb=>h.keep hb) (fun W W' v h hb=>h.keep hb) ?_ (fun W=>at_w d (by omega) (by omega) W) (fun W=>at_w (d+1) (by omega) (by omega) W) ?_ ?_ (fun W _=>grid_z d (by omega) W) (fun W _=>grid_z (d+1) (by omega) W) ?_ ?_ ?_ ?_ (ofKey k) ?_ ?_ ?_ ?_ ?_ ?_
 · intro W hW
   refine (down_w _ X W (hx.keep hW)).mono ?_
   rintro _ w' ⟨⟨j,rfl,hj⟩,hb⟩
   rw [kdown_unique ok hj hd]
   exact⟨rfl,hb⟩
 · intro hd0 W hW
   obtain⟨k1,k2,k3⟩:=ofKey_facts (M:=d) (by omega)
   refine (float_z (ofKey d) k1 k2 W).mono ?_
   rintro _ w' ⟨⟨v,rfl,hv⟩,hb⟩
   rw [k3] at hv
   exact⟨⟨v,rfl,hv.halves⟩,hb⟩
 · intro hd0 W v hW hv
   refine (same_x hv (hx.keep hW)).mono ?_
   rintro _ w' ⟨⟨b,rfl,hbt⟩,hb⟩
   have:b=b1:=same_of hbt (e1.trans ⟨fun h=>h.2,fun h=>⟨hd0,h⟩⟩)
   rw [this]
   exact⟨rfl,hb⟩
 · intro W v0 v1 hW h0 h1
   obtain⟨L,hL⟩:∃L:Nat,L=2152:=⟨_,rfl⟩
   refine (sum_z (S:=-1074) (T:=1024) (K:=53) (L:=L) (by omega) (by omega) (by omega) (by omega) h0 h1).mono ?_
   rintro _ w' ⟨⟨v,rfl,hv⟩,hb⟩
   obtain⟨g,o,l,c,e,rfl,q1,q2,hh⟩:=hv.half (K':=3000) (by omega)
   exact⟨⟨g,o,l,c,e,rfl,q1,q2,hh⟩,hb⟩
 · intro W v hW hv
   refine (same_x hv (hx.keep hW)).mono ?_
   rintro _ w' ⟨⟨b,rfl,hbt⟩,hb⟩
   rw [same_of hbt e2]
   exact⟨rfl,hb⟩
 · intro W v hW hv
   refine (below_x hv (hx.keep hW)).mono ?_
   rintro _ w' ⟨⟨b,rfl,hbt⟩,hb⟩
   rw [same_of hbt e3]
   exact⟨rfl,hb⟩
 · intro h0
   cases b1
   · rfl
   · exact absurd h0 (e1.1 rfl).1
 all_goals
   clear same_of
   rcases hcase with ⟨a,rfl⟩ | ⟨a,c1,c2,c3⟩
 · intro _;rfl
 · intro h;exact absurd (e1.1 h) a
 · intro h;rw [e1.2 a] at h;cases h
 · intro _ h;rw [c1 h]
 · intro h;rw [e1.2 a] at h;cases h
 · intro _ h;rw [c2 h]
 · intro h;rw [e1.2 a] at h;cases h
 · intro _ h hb
   rcases c3 h with ⟨p1,p2,p3⟩ | ⟨p1, -⟩
   · rw [p3]
     by_cases hp:d%2=0
     · rw [if_pos hp,if_pos ((tmod_zero d).2 hp)]
     · rw [if_neg hp,if_neg (fun q=>hp ((tmod_zero d).1 q))]
   · exact absurd (e2.1 hb) p1
 · intro h;rw [e1.2 a] at h;cases h
 · intro _ h hb hb3
   rcases c3 h with ⟨p1,p2, -⟩ | ⟨p1,⟨p2,p3⟩ | ⟨p2,p3⟩⟩
   · rw [e2.2 ⟨p1,p2⟩] at hb;cases hb
   · rw [p3]
   · exact absurd (e3.1 hb3) p2
 · intro h;rw [e1.2 a] at h;cases h
 · intro _ h hb hb3
   rcases c3 h with ⟨p1,p2, -⟩ | ⟨p1,⟨p2,p3⟩ | ⟨p2,p3⟩⟩
   · rw [e2.2 ⟨p1,p2⟩] at hb;cases hb
   · rw [e3.2 p2] at hb3;cases hb3
   · rw [p3]
end Go.Proofs.YtgocelaghggpmaaDoor
