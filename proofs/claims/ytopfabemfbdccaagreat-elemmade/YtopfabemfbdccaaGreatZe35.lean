/- The walks of the reference's least, great, over and Div of intervals; IvalQuotients' walk. -/
import Derived.Test.YtopfabemfbdccaaGreatZe34
namespace Go.Proofs.YtopfabemfbdccaaGreat
open Go.ChangeShapes Go.WideShapes Go.ChangeAt Go.RowKit
theorem rdivD_w (a b:Nat) (ha:a<18446744073709551616) (hb:b<18446744073709551616) (hs:∃r,divR a b (-1)=some r) (w:World) :
   Calls Tryz.prog 157 #[.float .f64 a,.float .f64 b,.int .i64 (-1)] w fun e w'=>e=.returned (.float .f64 (divD a b))∧Below w.heap.size w w':=by
 have h:=rdiv_w a b (-1) ha hb w
 obtain⟨v,hv⟩:=hs
 have e:divD a b=v:=by unfold divD;rw [hv];rfl
 rw [hv] at h
 refine h.mono ?_
 rintro _ _ ⟨⟨r,rfl, -,e2⟩,hb⟩
 have e2:r=v:=e2
 rw [e,e2]
 exact⟨rfl,hb⟩
theorem rleast_w (a b:Nat) (ha:a<18446744073709551616) (hb:b<18446744073709551616) (hs:eqB b 0=false→eqB a (infI (-1))=false→∃r,divR a b (-1)=some r) (w:World) :
   Calls Tryz.prog 107 #[.float .f64 a,.float .f64 b] w fun e w'=>e=.returned (.float .f64 (leastP a b))∧Below w.heap.size w w':=by
 have o1:=o_eq hb (show 0<18446744073709551616 by omega)
 have o2:=o_eq ha (infI_lt (-1))
 have c:=fun h k w=>rdivD_w a b ha hb (hs h k) w
 unfold leastP
 generalize divD a b=r at *
 generalize eqB b 0=b1 at *
 generalize eqB a (infI (-1))=b2 at *
 clear ha hb hs
 cases b1
 · cases b2
   · replace c:=c rfl rfl
     go_enter Tryz.func107,Tryz.ntmps107
     go_wp2_with (first
       | (go_at_call 157;refine (c _).mono ?_;rintro _ w1 ⟨rfl,hb1⟩)
       | (go_at_call 94;refine (rinf_w _ _).mono ?_;rintro _ _ ⟨rfl,rfl⟩))
     go_ret
     exact⟨rfl,hb1⟩
   · clear c
     go_enter Tryz.func107,Tryz.ntmps107
     go_wp2_with (go_at_call 94;refine (rinf_w _ _).mono ?_;rintro _ _ ⟨rfl,rfl⟩)
     go_ret
     exact⟨rfl,Below.refl _ _⟩
 · clear c
   go_enter Tryz.func107,Tryz.ntmps107
   go_wp2_with (go_at_call 94;refine (rinf_w _ _).mono ?_;rintro _ _ ⟨rfl,rfl⟩)
   go_ret
   exact⟨rfl,Below.refl _ _⟩
theorem rgreat_w (a b:Nat) (ha:a<18446744073709551616) (hb:b<18446744073709551616) (hs:eqB b (infI 1)=false→∃r,divR a b (-1)=some r) (w:World) :
   Calls Tryz.prog 108 #[.float .f64 a,.float .f64 b,.int .i64 (-1)] w fun e w'=>e=.returned (.float .f64 (greatP a b))∧Below w.heap.size w w':=by
 have o1:=o_eq hb (infI_lt 1)
 have c:=fun h w=>rdivD_w a b ha hb (hs h) w
 unfold greatP
 generalize divD a b=r at *
 generalize eqB b (infI 1)=b1 at *
 clear ha hb hs
 cases b1
 · replace c:=c rfl
   go_enter Tryz.func108,Tryz.ntmps108
   go_wp2_with (first
     | (go_at_call 157;refine (c _).mono ?_;rintro _ w1 ⟨rfl,hb1⟩)
     | (go_at_call 94;refine (rinf_w _ _).mono ?_;rintro _ _ ⟨rfl,rfl⟩))
   go_ret
   exact⟨rfl,hb1⟩
 · clear c
   go_enter Tryz.func108,Tryz.ntmps108
   go_wp2_with (go_at_call 94;refine (rinf_w _ _).mono ?_;rintro _ _ ⟨rfl,rfl⟩)
   go_ret
   exact⟨rfl,Below.refl _ _⟩
set_option maxHeartbeats 1000000 in
theorem rover_zero (xl xh yl yh:Nat) (o1:(FloatKind.f64.format.order xl 0==some .eq)=true) (o2:(FloatKind.f64.format.order xh 0==some .eq)=true) (w:World) :
   Calls Tryz.prog 52 #[.agg #[.float .f64 xl,.float .f64 xh],.agg #[.float .f64 yl,.float .f64 yh]] w fun e w'=>e=.returned (.agg #[.float .f64 xl,.float .f64 xh])∧Below w.heap.size w w':=by
 have ne1:w.heap.size+1+1≠w.heap.size:=by omega
 have ne2:w.heap.size≠w.heap.size+1+1:=by omega
 go_enter Tryz.func52,Tryz.ntmps52
 go_wp2_with fail
 refine bodyPost_ret (v:=.agg #[.float .f64 xl,.float .f64 xh]) (by simp [results,Tryz.results52,go_sem, *]) rfl ⟨rfl,by go_grown⟩
set_option maxHeartbeats 2000000 in
theorem rover_core (xl xh yl yh zx l1 g1 l2 g2 z1 z2:Nat) (e1 e2 b3 b4 b5:Bool) (p:Nat×Nat)
   (o1:(FloatKind.f64.format.order xl 0==some .eq)=e1) (o2:(FloatKind.f64.format.order xh 0==some .eq)=e2) (o3:(FloatKind.f64.format.order yl 0==some .lt)=b3) (o4:(FloatKind.f64.format.order xl 0==some .lt)=b4) (o5:(FloatKind.f64.format.order xh 0==some .gt)=b5) (he:(e1&&e2)=false)
   (r0:∀(t:TypeId) (w:World),(binOp .sub t (.float .f64 0) (.float .f64 xh)).run Tryz.prog w=.ok (.float .f64 zx) w)
   (r1:b5=true→∀(t:TypeId) (w:World),(binOp .sub t (.float .f64 0) (.float .f64 l2)).run Tryz.prog w=.ok (.float .f64 z1) w)
   (r2:b5=false→∀(t:TypeId) (w:World),(binOp .sub t (.float .f64 0) (.float .f64 g2)).run Tryz.prog w=.ok (.float .f64 z2) w)
   (c1:b4=true→∀w,Calls Tryz.prog 107 #[.float .f64 xl,.float .f64 (if b3 then 0 else yl)] w fun e w'=>e=.returned (.float .f64 l1)∧Below w.heap.size w w')
   (c2:b4=false→∀w,Calls Tryz.prog 108 #[.float .f64 xl,.float .f64 yh,.int .i64 (-1)] w fun e w'=>e=.returned (.float .f64 g1)∧Below w.heap.size w w')
   (c3:b5=true→∀w,Calls Tryz.prog 107 #[.float .f64 zx,.float .f64 (if b3 then 0 else yl)] w fun e w'=>e=.returned (.float .f64 l2)∧Below w.heap.size w w')
   (c4:b5=false→∀w,Calls Tryz.prog 108 #[.float .f64 zx,.float .f64 yh,.int .i64 (-1)] w fun e w'=>e=.returned (.float .f64 g2)∧Below w.heap.size w w')
   (ce:∀w,Calls Tryz.prog 60 #[.float .f64 (if b4 then l1 else g1),.float .f64 (if b5 then z1 else z2)] w fun e w'=>e=.returned (.agg #[.float .f64 p.1,.float .f64 p.2])∧Below w.heap.size w w') (w:World) :
   Calls Tryz.prog 52 #[.agg #[.float .f64 xl,.float .f64 xh],.agg #[.float .f64 yl,.float .f64 yh]] w fun e w'=>e=.returned (.agg #[.float .f64 p.1,.float .f64 p.2])∧Below w.heap.size w w':=by
 obtain⟨X,Y,R,HB⟩:=enter2 w (.float .f64 xl) (.float .f64 xh) (.float .f64 yl) (.float .f64 yh) 24
 have ne1:w.heap.size+1+1≠w.heap.size:=by omega
 have ne2:w.heap.size≠w.heap.size+1+1:=by omega
 cases e1
 case' true=>cases e2
 case true.true=>cases he
 all_goals
   clear he
   cases b3 <;> cases b4 <;> cases b5
   all_goals
     first | replace c1:=c1 rfl | clear c1
     first | replace c2:=c2 rfl | clear c2
     first | replace c3:=c3 rfl | clear c3
     first | replace c4:=c4 rfl | clear c4
     first | replace r1:=r1 rfl | clear r1
     first | replace r2:=r2 rfl | clear r2
     try simp only [if_true,Bool.false_eq_true,if_false] at c1
     try simp only [if_true,Bool.false_eq_true,if_false] at c3
     simp only [if_true,Bool.false_eq_true,if_false] at ce
     go_enter Tryz.func52,Tryz.ntmps52
     go_wp2_with fail
     generalize ((w.alloc (.cells #[.float .f64 xl,.float .f64 xh] 24)).alloc (.cells #[.float .f64 yl,.float .f64 yh] 24)).alloc (.cells #[.float .f64 0,.float .f64 0] 24)=V0 at *
     obtain⟨x0,x1,x2,x3,x4⟩:=id X
     obtain⟨y0,y1,y2,y3,y4⟩:=id Y
     obtain⟨r3,r4,r5,r6,r7⟩:=id R
     go_wp2_with (first
       | (go_at_call_of 107 (Value.float .f64 xl);refine (c1 _).mono ?_;rintro _ w1 ⟨rfl,hb1⟩;replace X:=X.keep hb1;replace Y:=Y.keep hb1;replace R:=R.keep hb1;replace HB:=later HB hb1;clear hb1 x0 x1 x2 x3 x4 y0 y1 y2 y3 y4 r3 r4 r5 r6 r7
          obtain⟨x0,x1,x2,x3,x4⟩:=id X
          obtain⟨y0,y1,y2,y3,y4⟩:=id Y
          obtain⟨r3,r4,r5,r6,r7⟩:=id R)
       | (go_at_call_of 108 (Value.float .f64 xl);refine (c2 _).mono ?_;rintro _ w1 ⟨rfl,hb1⟩;replace X:=X.keep hb1;replace Y:=Y.keep hb1;replace R:=R.keep hb1;replace HB:=later HB hb1;clear hb1 x0 x1 x2 x3 x4 y0 y1 y2 y3 y4 r3 r4 r5 r6 r7
          obtain⟨x0,x1,x2,x3,x4⟩:=id X
          obtain⟨y0,y1,y2,y3,y4⟩:=id Y
          obtain⟨r3,r4,r5,r6,r7⟩:=id R)
       | (go_at_call_of 107 (Value.float .f64 zx);refine (c3 _).mono ?_;rintro _ w1 ⟨rfl,hb1⟩;replace X:=X.keep hb1;replace Y:=Y.keep hb1;replace R:=R.keep hb1;replace HB:=later HB hb1;clear hb1 x0 x1 x2 x3 x4 y0 y1 y2 y3 y4 r3 r4 r5 r6 r7
          obtain⟨x0,x1,x2,x3,x4⟩:=id X
          obtain⟨y0,y1,y2,y3,y4⟩:=id Y
          obtain⟨r3,r4,r5,r6,r7⟩:=id R)
       | (go_at_call_of 108 (Value.float .f64 zx);refine (c4 _).mono ?_;rintro _ w1 ⟨rfl,hb1⟩;replace X:=X.keep hb1;replace Y:=Y.keep hb1;replace R:=R.keep hb1;replace HB:=later HB hb1;clear hb1 x0 x1 x2 x3 x4 y0 y1 y2 y3 y4 r3 r4 r5 r6 r7
          obtain⟨x0,x1,x2,x3,x4⟩:=id X
          obtain⟨y0,y1,y2,y3,y4⟩:=id Y
          obtain⟨r3,r4,r5,r6,r7⟩:=id R)
       | (go_at_call 60;refine (ce _).mono ?_;rintro _ w1 ⟨rfl,hb1⟩;replace R:=R.keep hb1;replace HB:=later HB hb1;clear hb1 x0 x1 x2 x3 x4 y0 y1 y2 y3 y4 r3 r4 r5 r6 r7
          obtain⟨r3,r4,r5,r6,r7⟩:=id R))
     refine bodyPost_ret (v:=.agg #[.float .f64 p.1,.float .f64 p.2]) (by simp [results,Tryz.results52,go_sem, *]) rfl ⟨rfl, ?_⟩
     repeat' (first | (with_reducible exact HB) | (with_reducible refine Below.setCell ?_ ?_ _) | go_size)
theorem over_w (xl xh yl yh:Nat) (h1:xl<18446744073709551616) (h2:xh<18446744073709551616) (h3:yl<18446744073709551616) (h4:yh<18446744073709551616) (S:Some2 xl xh) (T:Some2 yl yh) (k1:0<key yh) (w:World) :
   Calls Tryz.prog 52 #[.agg #[.float .f64 xl,.float .f64 xh],.agg #[.float .f64 yl,.float .f64 yh]] w fun e w'=>e=.returned (.agg #[.float .f64 (overP xl xh yl yh).1,.float .f64 (overP xl xh yl yh).2])∧Below w.heap.size w w':=by
 have z0:(0:Nat)<18446744073709551616:=by omega
 have o1:=o_eq h1 z0
 have o2:=o_eq h2 z0
 have o3:=o_lt h3 z0
 have o4:=o_lt h1 z0
 have o5:=o_gt h2 z0
 have n5:nanB (zminus xh)=false:=by rw [zminus_nan h2];exact S.nh
 have z5:=zminus_key h2
 have zh:=isZ_pos h4 (show key yh≠0 by omega)
 have ll:lowP yl<18446744073709551616:=by unfold lowP;split <;> omega
 have nl:nanB (lowP yl)=false:=by
   unfold lowP
   split
   · decide
   · exact T.nl
 have kl:0≤key (lowP yl)∧key (lowP yl)<9218868437227405312:=by
   unfold lowP
   rw [lt0 T.nl]
   by_cases c:key yl<0
   · simp only [c,decide_true,if_true];exact⟨by decide,by decide⟩
   · simp only [c,decide_false,Bool.false_eq_true,if_false];exact⟨by omega,T.lt⟩
 have LS:∀t,t<18446744073709551616→nanB t=false→key t<9218868437227405312→eqB (lowP yl) 0=false→eqB t (infI (-1))=false→∃r,divR t (lowP yl) (-1)=some r:=fun t ht nt kt q1 q2=>by
   have ei:eqB t (infI (-1))=decide (key t=-9218868437227405312):=by unfold eqB;rw [nt,nan_inf,key_down];rfl
   rw [eq00 nl] at q1
   rw [ei] at q2
   have c1:¬key (lowP yl)=0:=by simpa using q1
   have c2:¬key t=-9218868437227405312:=by simpa using q2
   have ft:finB t=true:=by
     cases h:finB t
     · rcases (key_inf ht nt).1 h with d | d <;> omega
     · rfl
   have fl:finB (lowP yl)=true:=by
     cases h:finB (lowP yl)
     · rcases (key_inf ll nl).1 h with d | d <;> omega
     · rfl
   exact⟨_,divR_fin (-1) ft fl (isZ_pos ll c1)⟩
 have GS:∀t,t<18446744073709551616→nanB t=false→0≤key t→key t<9218868437227405312→eqB yh (infI 1)=false→∃r,divR t yh (-1)=some r:=fun t ht nt kt ku q1=>by
   have ei:eqB yh (infI 1)=decide (key yh=9218868437227405312):=by unfold eqB;rw [T.nh,nan_inf,key_up];rfl
   rw [ei] at q1
   have c1:¬key yh=9218868437227405312:=by simpa using q1
   have ft:finB t=true:=by
     cases h:finB t
     · rcases (key_inf ht nt).1 h with d | d <;> omega
     · rfl
   have fh:finB yh=true:=by
     cases h:finB yh
     · rcases (key_inf h4 T.nh).1 h with d | d <;> omega
     · rfl
   exact⟨_,divR_fin (-1) ft fh zh⟩
 have kg:=S.gt
 have ks:=S.lt
 have DL:∀t,t<18446744073709551616→nanB t=false→key t<9218868437227405312→leastP t (lowP yl)<18446744073709551616∧nanB (leastP t (lowP yl))=false:=fun t ht nt kt=>by
   have g:=LS t ht nt kt
   unfold leastP
   cases q1:eqB (lowP yl) 0
   · cases q2:eqB t (infI (-1))
     · rw [if_neg (by simp)]
       have ei:eqB t (infI (-1))=decide (key t=-9218868437227405312):=by unfold eqB;rw [nt,nan_inf,key_down];rfl
       rw [eq00 nl] at q1
       rw [ei] at q2
       have c1:¬key (lowP yl)=0:=by simpa using q1
       have c2:¬key t=-9218868437227405312:=by simpa using q2
       have ft:finB t=true:=by
         cases h:finB t
         · rcases (key_inf ht nt).1 h with d | d <;> omega
         · rfl
       have fl:finB (lowP yl)=true:=by
         cases h:finB (lowP yl)
         · rcases (key_inf ll nl).1 h with d | d <;> omega
         · rfl
       have e:divD t (lowP yl)=divF t (lowP yl) (-1):=by unfold divD;rw [divR_fin (-1) ft fl (isZ_pos ll c1),Option.getD_some]
       rw [e]
       have f:=divF_facts (a:=t) (-1) (isZ_pos ll c1)
       exact⟨f.2.2,f.1⟩
     · rw [if_pos (by simp)];exact⟨infI_lt _,nan_inf _⟩
   · rw [if_pos (by simp)];exact⟨infI_lt _,nan_inf _⟩
 have elow:(if ltB yl 0=true then 0 else yl)=lowP yl:=rfl
 cases he:eqB xl 0&&eqB xh 0
 · have ek:overP xl xh yl yh=rendsP (overLo xl yl yh) (overHi xh yl yh):=by unfold overP;rw [he];rfl
   have A:overLo xl yl yh<18446744073709551616:=by
     unfold overLo
     rw [lt0 S.nl]
     by_cases c:key xl<0
     · simp only [c,decide_true,if_true];exact (DL xl h1 S.nl S.lt).1
     · simp only [c,decide_false,Bool.false_eq_true,if_false];exact (great_facts h1 h4 S.nl T.nh (by omega) S.lt k1).2.2.2
   have B:overHi xh yl yh<18446744073709551616:=by
     unfold overHi
     rw [gt0 S.nh]
     by_cases c:0<key xh
     · simp only [c,decide_true,if_true];exact zminus_lt (DL (zminus xh) (zminus_lt h2) n5 (by omega)).1
     · simp only [c,decide_false,Bool.false_eq_true,if_false];exact zminus_lt (great_facts (zminus_lt h2) h4 n5 T.nh (by omega) (by omega) k1).2.2.2
   have ce:=fun w=>rends_core (overLo xl yl yh) (overHi xh yl yh) _ _ _ _ (rendsP (overLo xl yl yh) (overHi xh yl yh)) (o_gt A (by omega)) (o_lt B (by omega)) rfl rfl (fun w=>rmake_w _ _ (by split <;> omega) (by split <;> omega) w) w
   rw [ek]
   refine rover_core xl xh yl yh (zminus xh) (leastP xl (lowP yl)) (greatP xl yh) (leastP (zminus xh) (lowP yl)) (greatP (zminus xh) yh) (zminus (leastP (zminus xh) (lowP yl))) (zminus (greatP (zminus xh) yh)) _ _ _ _ _ _ o1 o2 o3 o4 o5 he (zminus_run h2 S.nh)
     (fun _=>zminus_run (DL _ (zminus_lt h2) n5 (by omega)).1 (DL _ (zminus_lt h2) n5 (by omega)).2) (fun c=>?_) (fun _ w=>rleast_w _ _ h1 ll (LS xl h1 S.nl S.lt) w) (fun c w=>?_) (fun _ w=>rleast_w _ _ (zminus_lt h2) ll (LS _ (zminus_lt h2) n5 (by omega)) w) (fun c w=>?_) ce w
   · rw [gt0 S.nh] at c
     have c:¬0<key xh:=by simpa using c
     have g:=great_facts (zminus_lt h2) h4 n5 T.nh (by omega) (by omega) k1
     exact zminus_run g.2.2.2 g.1
   · rw [lt0 S.nl] at c
     have c:¬key xl<0:=by simpa using c
     exact rgreat_w _ _ h1 h4 (GS xl h1 S.nl (by omega) S.lt) w
   · rw [gt0 S.nh] at c
     have c:¬0<key xh:=by simpa using c
     exact rgreat_w _ _ (zminus_lt h2) h4 (GS _ (zminus_lt h2) n5 (by omega) (by omega)) w
 · obtain⟨e1,e2⟩:=Bool.and_eq_true_iff.1 he
   have ek:overP xl xh yl yh=(xl,xh):=by unfold overP;rw [he];rfl
   rw [ek]
   rw [e1] at o1
   rw [e2] at o2
   exact rover_zero xl xh yl yh o1 o2 w
end Go.Proofs.YtopfabemfbdccaaGreat
