/- The walk of the reference's Div of intervals. The reference's Div answers as the program's; IvalQuotients' walk. The three series as functions of words. The odd shares as a function of words. Small functions of elem: counted, quarters. -/
import Derived.Test.YtopfabemfbdccaaGreatZe35
import Derived.Test.YtopfabemfbdccaaGreatZe28
import Derived.Test.YtopfabemfbdccaaGreatZe34
namespace Go.Proofs.YtopfabemfbdccaaGreat
open Go.ChangeShapes Go.WideShapes Go.ChangeAt Go.RowKit
set_option maxHeartbeats 16000000 in
set_option maxRecDepth 100000 in
theorem rdiv_core (xl xh yl yh p1 p2 q1 q2 n1 n2 m1 m2 s1 s2 t1 t2:Nat) (b1 b2:Bool)
   (c1:∀w,Calls Tryz.prog 30 #[.agg #[.float .f64 xl,.float .f64 xh]] w fun e w'=>e=.returned (.bool false)∧Below w.heap.size w w')
   (c2:∀w,Calls Tryz.prog 30 #[.agg #[.float .f64 yl,.float .f64 yh]] w fun e w'=>e=.returned (.bool false)∧Below w.heap.size w w')
   (o1:(FloatKind.f64.format.order yh 0==some .gt)=b1) (o2:(FloatKind.f64.format.order yl 0==some .lt)=b2)
   (cn:b2=true→∀w,Calls Tryz.prog 14 #[.agg #[.float .f64 xl,.float .f64 xh]] w fun e w'=>e=.returned (.agg #[.float .f64 n1,.float .f64 n2])∧Below w.heap.size w w')
   (cm:b2=true→∀w,Calls Tryz.prog 14 #[.agg #[.float .f64 yl,.float .f64 yh]] w fun e w'=>e=.returned (.agg #[.float .f64 m1,.float .f64 m2])∧Below w.heap.size w w')
   (co:b1=true→∀w,Calls Tryz.prog 52 #[.agg #[.float .f64 xl,.float .f64 xh],.agg #[.float .f64 yl,.float .f64 yh]] w fun e w'=>e=.returned (.agg #[.float .f64 p1,.float .f64 p2])∧Below w.heap.size w w')
   (cp:b2=true→∀w,Calls Tryz.prog 52 #[.agg #[.float .f64 n1,.float .f64 n2],.agg #[.float .f64 m1,.float .f64 m2]] w fun e w'=>e=.returned (.agg #[.float .f64 q1,.float .f64 q2])∧Below w.heap.size w w')
   (ch:b1=true→∀w,Calls Tryz.prog 51 #[.agg #[.float .f64 (infI 1),.float .f64 (infI (-1))],.agg #[.float .f64 p1,.float .f64 p2]] w fun e w'=>e=.returned (.agg #[.float .f64 s1,.float .f64 s2])∧Below w.heap.size w w')
   (hs1:b1=false→s1=infI 1) (hs2:b1=false→s2=infI (-1))
   (ci:b2=true→∀w,Calls Tryz.prog 51 #[.agg #[.float .f64 s1,.float .f64 s2],.agg #[.float .f64 q1,.float .f64 q2]] w fun e w'=>e=.returned (.agg #[.float .f64 t1,.float .f64 t2])∧Below w.heap.size w w')
   (ht1:b2=false→t1=s1) (ht2:b2=false→t2=s2) (w:World) :
   Calls Tryz.prog 17 #[.agg #[.float .f64 xl,.float .f64 xh],.agg #[.float .f64 yl,.float .f64 yh]] w fun e w'=>e=.returned (.agg #[.float .f64 t1,.float .f64 t2])∧Below w.heap.size w w':=by
 obtain⟨X,Y,R,HB⟩:=enter2 w (.float .f64 xl) (.float .f64 xh) (.float .f64 yl) (.float .f64 yh) 24
 have ne1:w.heap.size+1+1≠w.heap.size:=by omega
 have ne2:w.heap.size≠w.heap.size+1+1:=by omega
 go_enter Tryz.func17,Tryz.ntmps17
 go_wp2_with fail
 generalize ((w.alloc (.cells #[.float .f64 xl,.float .f64 xh] 24)).alloc (.cells #[.float .f64 yl,.float .f64 yh] 24)).alloc (.cells #[.float .f64 0,.float .f64 0] 24)=V0 at *
 obtain⟨x0,x1,x2,x3,x4⟩:=id X
 obtain⟨y0,y1,y2,y3,y4⟩:=id Y
 go_upto_region 4 with (first
   | (go_at_call_of 30 (Value.agg #[.float .f64 xl,.float .f64 xh]);refine (c1 _).mono ?_;rintro _ wa ⟨rfl,hb1⟩;replace X:=X.keep hb1;replace Y:=Y.keep hb1;replace R:=R.keep hb1;replace HB:=later HB hb1;clear hb1 x0 x1 x2 x3 x4 y0 y1 y2 y3 y4
      obtain⟨x0,x1,x2,x3,x4⟩:=id X
      obtain⟨y0,y1,y2,y3,y4⟩:=id Y)
   | (go_at_call_of 30 (Value.agg #[.float .f64 yl,.float .f64 yh]);refine (c2 _).mono ?_;rintro _ wa ⟨rfl,hb1⟩;replace X:=X.keep hb1;replace Y:=Y.keep hb1;replace R:=R.keep hb1;replace HB:=later HB hb1;clear hb1 x0 x1 x2 x3 x4 y0 y1 y2 y3 y4
      obtain⟨x0,x1,x2,x3,x4⟩:=id X
      obtain⟨y0,y1,y2,y3,y4⟩:=id Y)
   | (go_at_call 46;refine (rempty_w _).mono ?_;rintro _ wb ⟨rfl,hb1⟩;replace X:=X.keep hb1;replace Y:=Y.keep hb1;replace R:=R.keep hb1;replace HB:=later HB hb1;clear hb1 x0 x1 x2 x3 x4 y0 y1 y2 y3 y4
      obtain⟨x0,x1,x2,x3,x4⟩:=id X
      obtain⟨y0,y1,y2,y3,y4⟩:=id Y))
 have lt0:w.heap.size+1+1<wb.heap.size:=R.2.2.2.2
 have O:=has2_new wb (.float .f64 (infI 1)) (.float .f64 (infI (-1))) 24
 replace X:=X.alloc (.cells #[.float .f64 (infI 1),.float .f64 (infI (-1))] 24)
 replace Y:=Y.alloc (.cells #[.float .f64 (infI 1),.float .f64 (infI (-1))] 24)
 replace R:=R.alloc (.cells #[.float .f64 (infI 1),.float .f64 (infI (-1))] 24)
 replace HB:=below_alloc HB (.cells #[.float .f64 (infI 1),.float .f64 (infI (-1))] 24)
 clear x0 x1 x2 x3 x4 y0 y1 y2 y3 y4 c1 c2
 generalize wb.alloc (.cells #[.float .f64 (infI 1),.float .f64 (infI (-1))] 24)=V1 at *
 generalize wb.heap.size=ob at *
 clear wb
 have ne5:ob≠w.heap.size+1+1:=by omega
 have ne6:w.heap.size+1+1≠ob:=by omega
 obtain⟨y0,y1,y2,y3,y4⟩:=id Y
 cases b1
 case' false =>
   have f1:=hs1 rfl
   have f2:=hs2 rfl
   rw [←f1,←f2] at O
   clear co ch hs1 hs2 f1 f2
 case' true =>
   replace co:=co rfl
   replace ch:=ch rfl
   clear hs1 hs2
   go_upto_region 5 with fail
   have kx0:=fun n:Behind V1=>n.cell X.1 X.2.2.2.2
   have kx1:=fun n:Behind V1=>n.cell X.2.1 X.2.2.2.2
   have ky0:=fun n:Behind V1=>n.cell Y.1 Y.2.2.2.2
   have ky1:=fun n:Behind V1=>n.cell Y.2.1 Y.2.2.2.2
   have ko0:=fun n:Behind V1=>n.cell O.1 O.2.2.2.2
   have ko1:=fun n:Behind V1=>n.cell O.2.1 O.2.2.2.2
   refine tail_behind 5 (by kernel_rfl) (by kernel_rfl) ?_
   simp only [List.take_succ_cons,List.take_zero,List.drop_succ_cons,List.drop_zero]
   repeat (go_big_quiet_step (first
     | (go_at_call 52;with_reducible refine Behind.call (co _))
     | (go_at_call 51;with_reducible refine Behind.call (ch _))))
   refine wpQuiet_nil ?_
   rintro _ ⟨n,rfl⟩
   obtain⟨W,hb⟩:=n
   clear kx0 kx1 ky0 ky1 ko0 ko1 y0 y1 y2 y3 y4
   replace X:=X.keep hb
   replace Y:=Y.keep hb
   replace R:=R.keep hb
   replace O:=O.keep hb
   replace HB:=later HB hb
   obtain⟨z0,z1,z2,z3,z4⟩:=id O
   go_upto_region 6 with fail
   replace X:=X.far (show ob≠_ by omega) (.float .f64 s1) (.float .f64 s2)
   replace Y:=Y.far (show ob≠_ by omega) (.float .f64 s1) (.float .f64 s2)
   replace R:=R.far (show ob≠_ by omega) (.float .f64 s1) (.float .f64 s2)
   replace O:=O.put (.float .f64 s1) (.float .f64 s2)
   replace HB:Below w.heap.size w ((W.setCell ⟨ob,0,none⟩ (.float .f64 s1)).setCell ⟨ob,1,none⟩ (.float .f64 s2)):=by
     repeat' (first | (with_reducible exact HB) | (with_reducible refine Below.setCell ?_ ?_ _) | go_size | omega)
   clear z0 z1 z2 z3 z4 hb
   generalize (W.setCell ⟨ob,0,none⟩ (.float .f64 s1)).setCell ⟨ob,1,none⟩ (.float .f64 s2)=V2 at *
   clear W
   clear V1
   obtain⟨V1,rfl⟩:∃V1,V1=V2:=⟨_,rfl⟩
   obtain⟨y0,y1,y2,y3,y4⟩:=id Y
 all_goals
   cases b2
   · have e1:=ht1 rfl
     have e2:=ht2 rfl
     subst e1 e2
     obtain⟨o0,o1,o2,o3,o4⟩:=id O
     obtain⟨r0,r1,r2,r3,r4⟩:=id R
     go_wp2_with fail
     refine bodyPost_ret (v:=.agg #[.float .f64 t1,.float .f64 t2]) (by simp [results,Tryz.results17,go_sem, *]) rfl ⟨rfl, ?_⟩
     repeat' (first | (with_reducible exact HB) | (with_reducible refine Below.setCell ?_ ?_ _) | go_size)
   · replace cn:=cn rfl
     replace cm:=cm rfl
     replace cp:=cp rfl
     replace ci:=ci rfl
     clear ht1 ht2
     go_upto_region 7 with fail
     clear y0 y1 y2 y3 y4
     have kx0:=fun n:Behind V1=>n.cell X.1 X.2.2.2.2
     have kx1:=fun n:Behind V1=>n.cell X.2.1 X.2.2.2.2
     have ky0:=fun n:Behind V1=>n.cell Y.1 Y.2.2.2.2
     have ky1:=fun n:Behind V1=>n.cell Y.2.1 Y.2.2.2.2
     have ko0:=fun n:Behind V1=>n.cell O.1 O.2.2.2.2
     have ko1:=fun n:Behind V1=>n.cell O.2.1 O.2.2.2.2
     refine tail_behind 7 (by kernel_rfl) (by kernel_rfl) ?_
     simp only [List.take_succ_cons,List.take_zero,List.drop_succ_cons,List.drop_zero]
     repeat (go_big_quiet_step (first
       | (go_at_call 14;with_reducible refine Behind.call (cn _))
       | (go_at_call 14;with_reducible refine Behind.call (cm _))
       | (go_at_call 52;with_reducible refine Behind.call (cp _))
       | (go_at_call 51;with_reducible refine Behind.call (ci _))))
     refine wpQuiet_nil ?_
     rintro _ ⟨n,rfl⟩
     obtain⟨W,hb1⟩:=n
     dsimp only
     clear kx0 kx1 ky0 ky1 ko0 ko1
     replace R:=R.keep hb1;replace O:=O.keep hb1;replace HB:=later HB hb1;clear hb1
     obtain⟨o0,o1,o2,o3,o4⟩:=id O
     obtain⟨r0,r1,r2,r3,r4⟩:=id R
     go_wp2_with fail
     refine bodyPost_ret (v:=.agg #[.float .f64 t1,.float .f64 t2]) (by simp [results,Tryz.results17,go_sem, *]) rfl ⟨rfl, ?_⟩
     repeat' (first | (with_reducible exact HB) | (with_reducible refine Below.setCell ?_ ?_ _) | go_size | omega)
theorem divR_ways (t u:Nat):divR t u (-1)=none∨divR t u (-1)=some 0∨(∃s,divR t u (-1)=some (infW s))∨(isZ u=false∧divR t u (-1)=some (divF t u (-1))):=by
 unfold divR
 generalize divF t u (-1)=q
 by_cases c:(nanB t || nanB u || isZ u)=true
 · exact Or.inl (if_pos c)
 · rw [if_neg c]
   have z:isZ u=false:=by
     cases h:isZ u
     · rfl
     · exact absurd (by rw [h,Bool.or_true]) c
   cases finB t
   · cases finB u
     · exact Or.inl rfl
     · exact Or.inr (Or.inr (Or.inl ⟨signB t != signB u,rfl⟩))
   · cases finB u
     · exact Or.inr (Or.inl rfl)
     · exact Or.inr (Or.inr (Or.inr ⟨z,rfl⟩))
theorem divD_lt (t u:Nat):divD t u<18446744073709551616:=by
 unfold divD
 rcases divR_ways t u with e | e | ⟨s,e⟩ | ⟨z,e⟩
 · rw [e,Option.getD_none];omega
 · rw [e,Option.getD_some];omega
 · rw [e,Option.getD_some];exact (infW_facts s).2.2.1
 · rw [e,Option.getD_some];exact (divF_facts (a:=t) (-1) z).2.2
theorem over_lt (xl xh yl yh:Nat) :
   (rendsP (overLo xl yl yh) (overHi xh yl yh)).1<18446744073709551616∧(rendsP (overLo xl yl yh) (overHi xh yl yh)).2<18446744073709551616:=by
 have h0':=infI_lt (-1)
 have dl:∀t u,divD t u<18446744073709551616:=divD_lt
 have A:overLo xl yl yh<18446744073709551616:=by
   unfold overLo leastP
   split
   · split
     · exact h0'
     · exact dl _ _
   · unfold greatP
     split
     · omega
     · exact dl _ _
 have B:overHi xh yl yh<18446744073709551616:=by
   unfold overHi leastP
   split
   · refine zminus_lt ?_
     split
     · exact h0'
     · exact dl _ _
   · refine zminus_lt ?_
     unfold greatP
     split
     · omega
     · exact dl _ _
 unfold rendsP
 exact makeP_lt (by split <;> omega) (by split <;> omega)
set_option maxHeartbeats 1000000 in
theorem rdiv_none (xl xh yl yh:Nat) (b1 b2:Bool)
   (c1:∀w,Calls Tryz.prog 30 #[.agg #[.float .f64 xl,.float .f64 xh]] w fun e w'=>e=.returned (.bool (!b1))∧Below w.heap.size w w')
   (c2:∀w,Calls Tryz.prog 30 #[.agg #[.float .f64 yl,.float .f64 yh]] w fun e w'=>e=.returned (.bool (!b2))∧Below w.heap.size w w')
   (hb:(b1&&b2)=false) (w:World) :
   Calls Tryz.prog 17 #[.agg #[.float .f64 xl,.float .f64 xh],.agg #[.float .f64 yl,.float .f64 yh]] w fun e w'=>e=.returned (.agg #[.float .f64 (infI 1),.float .f64 (infI (-1))])∧Below w.heap.size w w':=by
 obtain⟨X,Y,R,HB⟩:=enter2 w (.float .f64 xl) (.float .f64 xh) (.float .f64 yl) (.float .f64 yh) 24
 cases b1
 case' true=>cases b2
 case true.true=>cases hb
 all_goals
   simp only [Bool.not_true,Bool.not_false] at c1 c2
   go_enter Tryz.func17,Tryz.ntmps17
   go_wp2_with fail
   generalize ((w.alloc (.cells #[.float .f64 xl,.float .f64 xh] 24)).alloc (.cells #[.float .f64 yl,.float .f64 yh] 24)).alloc (.cells #[.float .f64 0,.float .f64 0] 24)=V0 at *
   obtain⟨x0,x1,x2,x3,x4⟩:=id X
   obtain⟨y0,y1,y2,y3,y4⟩:=id Y
   obtain⟨r0,r1,r2,r3,r4⟩:=id R
   go_wp2_with (first
     | (go_at_call_of 30 (Value.agg #[.float .f64 xl,.float .f64 xh]);refine (c1 _).mono ?_;rintro _ w1 ⟨rfl,hb1⟩;replace X:=X.keep hb1;replace Y:=Y.keep hb1;replace R:=R.keep hb1;replace HB:=later HB hb1;clear hb1 x0 x1 x2 x3 x4 y0 y1 y2 y3 y4 r0 r1 r2 r3 r4
        obtain⟨x0,x1,x2,x3,x4⟩:=id X
        obtain⟨y0,y1,y2,y3,y4⟩:=id Y
        obtain⟨r0,r1,r2,r3,r4⟩:=id R)
     | (go_at_call_of 30 (Value.agg #[.float .f64 yl,.float .f64 yh]);refine (c2 _).mono ?_;rintro _ w1 ⟨rfl,hb1⟩;replace X:=X.keep hb1;replace Y:=Y.keep hb1;replace R:=R.keep hb1;replace HB:=later HB hb1;clear hb1 x0 x1 x2 x3 x4 y0 y1 y2 y3 y4 r0 r1 r2 r3 r4
        obtain⟨x0,x1,x2,x3,x4⟩:=id X
        obtain⟨y0,y1,y2,y3,y4⟩:=id Y
        obtain⟨r0,r1,r2,r3,r4⟩:=id R)
     | (go_at_call 46;refine (rempty_w _).mono ?_;rintro _ w1 ⟨rfl,hb1⟩;replace X:=X.keep hb1;replace Y:=Y.keep hb1;replace R:=R.keep hb1;replace HB:=later HB hb1;clear hb1 x0 x1 x2 x3 x4 y0 y1 y2 y3 y4 r0 r1 r2 r3 r4
        obtain⟨x0,x1,x2,x3,x4⟩:=id X
        obtain⟨y0,y1,y2,y3,y4⟩:=id Y
        obtain⟨r0,r1,r2,r3,r4⟩:=id R))
   refine bodyPost_ret (v:=.agg #[.float .f64 (infI 1),.float .f64 (infI (-1))]) (by simp [results,Tryz.results17,go_sem, *]) rfl ⟨rfl, ?_⟩
   repeat' (first | (with_reducible exact HB) | (with_reducible refine Below.setCell ?_ ?_ _) | go_size)
theorem rDiv_w (xl xh yl yh:Nat) (h1:xl<18446744073709551616) (h2:xh<18446744073709551616) (h3:yl<18446744073709551616) (h4:yh<18446744073709551616) (w:World) :
   Calls Tryz.prog 17 #[.agg #[.float .f64 xl,.float .f64 xh],.agg #[.float .f64 yl,.float .f64 yh]] w fun e w'=>e=.returned (.agg #[.float .f64 (divP xl xh yl yh).1,.float .f64 (divP xl xh yl yh).2])∧Below w.heap.size w w':=by
 rw [←rdiv_is h1 h2 h3 h4]
 unfold rdivP
 cases hs:hsB xl xh&&hsB yl yh
 · rw [if_pos rfl]
   exact rdiv_none xl xh yl yh _ _ (fun w=>none_w xl xh h1 h2 w) (fun w=>none_w yl yh h3 h4 w) hs w
 · rw [if_neg (by simp)]
   obtain⟨hx,hy⟩:=Bool.and_eq_true_iff.1 hs
   have S:=hs_iff.1 hx
   have T:=hs_iff.1 hy
   have c1:=fun w=>none_w xl xh h1 h2 w
   have c2:=fun w=>none_w yl yh h3 h4 w
   rw [hx] at c1
   rw [hy] at c2
   have z0:(0:Nat)<18446744073709551616:=by omega
   have o1:=o_gt h4 z0
   have o2:=o_lt h3 z0
   obtain⟨S',k1,k2,l1,l2⟩:=mirror_some h1 h2 S
   obtain⟨T',k3,k4,l3,l4⟩:=mirror_some h3 h4 T
   have nx:negP (xl,xh)=mirrorP (xl,xh):=by unfold negP;rw [if_pos hx]
   have ny:negP (yl,yh)=mirrorP (yl,yh):=by unfold negP;rw [if_pos hy]
   have OV:∀a b c d,a<18446744073709551616→b<18446744073709551616→(overP a b c d).1<18446744073709551616∧(overP a b c d).2<18446744073709551616:=fun a b c d ha hb=>by
     unfold overP
     cases he:eqB a 0&&eqB b 0
     · rw [if_neg (by simp)]
       exact over_lt a b c d
     · rw [if_pos rfl]
       exact⟨ha,hb⟩
   have h0:=infI_lt 1
   have h0':=infI_lt (-1)
   have D1:(rdiv1 xl xh yl yh).1<18446744073709551616∧(rdiv1 xl xh yl yh).2<18446744073709551616:=by
     unfold rdiv1
     by_cases c:0<key yh
     · rw [gt0 T.nh,if_pos (by simpa using c)]
       have g:=OV xl xh yl yh h1 h2
       exact hullP_lt h0 h0' g.1 g.2
     · rw [gt0 T.nh,if_neg (by simpa using c)]
       exact⟨h0,h0'⟩
   refine rdiv_core xl xh yl yh (overP xl xh yl yh).1 (overP xl xh yl yh).2 (overP (negP (xl,xh)).1 (negP (xl,xh)).2 (negP (yl,yh)).1 (negP (yl,yh)).2).1 (overP (negP (xl,xh)).1 (negP (xl,xh)).2 (negP (yl,yh)).1 (negP (yl,yh)).2).2 (negP (xl,xh)).1 (negP (xl,xh)).2 (negP (yl,yh)).1 (negP (yl,yh)).2
     (rdiv1 xl xh yl yh).1 (rdiv1 xl xh yl yh).2 _ _ _ _ c1 c2 o1 o2 (fun _ w=>rNeg_w xl xh h1 h2 w) (fun _ w=>rNeg_w yl yh h3 h4 w) (fun c w=>?_) (fun c w=>?_) (fun c w=>?_) (fun c=>?_) (fun c=>?_) (fun c w=>?_) (fun c=>?_) (fun c=>?_) w
   · rw [gt0 T.nh] at c
     exact over_w xl xh yl yh h1 h2 h3 h4 S T (by simpa using c) w
   · rw [lt0 T.nl] at c
     have c:key yl<0:=by simpa using c
     rw [nx,ny]
     exact over_w _ _ _ _ l1 l2 l3 l4 S' T' (by omega) w
   · rw [gt0 T.nh] at c
     have c':0<key yh:=by simpa using c
     have e:rdiv1 xl xh yl yh=hullP (infI 1) (infI (-1)) (overP xl xh yl yh).1 (overP xl xh yl yh).2:=by unfold rdiv1;rw [gt0 T.nh,if_pos (by simpa using c')]
     have g:=OV xl xh yl yh h1 h2
     rw [e]
     exact rHull_w _ _ _ _ h0 h0' g.1 g.2 w
   · unfold rdiv1;rw [c];rfl
   · unfold rdiv1;rw [c];rfl
   · have e:rdiv2 (rdiv1 xl xh yl yh) xl xh yl yh=hullP (rdiv1 xl xh yl yh).1 (rdiv1 xl xh yl yh).2 (overP (negP (xl,xh)).1 (negP (xl,xh)).2 (negP (yl,yh)).1 (negP (yl,yh)).2).1 (overP (negP (xl,xh)).1 (negP (xl,xh)).2 (negP (yl,yh)).1 (negP (yl,yh)).2).2:=by unfold rdiv2;rw [if_pos c]
     rw [lt0 T.nl] at c
     have c:key yl<0:=by simpa using c
     rw [e]
     have g:(overP (negP (xl,xh)).1 (negP (xl,xh)).2 (negP (yl,yh)).1 (negP (yl,yh)).2).1<18446744073709551616∧(overP (negP (xl,xh)).1 (negP (xl,xh)).2 (negP (yl,yh)).1 (negP (yl,yh)).2).2<18446744073709551616:=by
       rw [nx,ny]
       exact OV _ _ _ _ l1 l2
     exact rHull_w _ _ _ _ D1.1 D1.2 g.1 g.2 w
   · unfold rdiv2;rw [c];rfl
   · unfold rdiv2;rw [c];rfl
theorem divP_lt {xl xh yl yh:Nat} (h1:xl<18446744073709551616) (h2:xh<18446744073709551616) (h3:yl<18446744073709551616) (h4:yh<18446744073709551616):(divP xl xh yl yh).1<18446744073709551616∧(divP xl xh yl yh).2<18446744073709551616:=by
 have h0:=infI_lt 1
 have h0':=infI_lt (-1)
 unfold divP
 cases hs:hsB xl xh&&hsB yl yh
 · rw [if_pos rfl];exact⟨h0,h0'⟩
 · rw [if_neg (by simp)]
   obtain⟨hx,hy⟩:=Bool.and_eq_true_iff.1 hs
   have S:=hs_iff.1 hx
   have T:=hs_iff.1 hy
   have ky:=T.le
   obtain⟨S',k1,k2,l1,l2⟩:=mirror_some h1 h2 S
   obtain⟨T',k3,k4,l3,l4⟩:=mirror_some h3 h4 T
   by_cases cy:key yl=0∧key yh=0
   · rw [if_pos cy];exact⟨h0,h0'⟩
   · rw [if_neg cy]
     by_cases cx:key xl=0∧key xh=0
     · rw [if_pos cx];exact⟨by omega,by omega⟩
     · rw [if_neg cx]
       by_cases p1:0≤key yl
       · rw [if_pos p1]
         obtain⟨-, -, -,b3,b4, -, -⟩:=shrink_w h1 h2 h3 h4 S T p1 (by omega)
         exact makeP_lt b3 (negB_lt b4)
       · rw [if_neg p1]
         by_cases p2:key yh≤0
         · rw [if_pos p2]
           obtain⟨-, -, -,b3,b4, -, -⟩:=shrink_w l1 l2 l3 l4 S' T' (by omega) (by omega)
           exact makeP_lt b3 (negB_lt b4)
         · rw [if_neg p2];exact⟨h0',h0⟩
set_option maxHeartbeats 1000000 in
theorem pow_core (r1 r2:Nat) (o t s:Nat×Nat)
   (c1:∀w,Calls Tryz.prog 55 #[.float .f64 4607182418800017408] w fun e w'=>e=.returned (.agg #[.float .f64 o.1,.float .f64 o.2])∧Below w.heap.size w w')
   (c2:∀w,Calls Tryz.prog 153 #[] w fun e w'=>e=.returned (.agg #[.float .f64 t.1,.float .f64 t.2])∧Below w.heap.size w w')
   (c3:∀a b W,Has2 W a (.float .f64 o.1) (.float .f64 o.2)→Has2 W b (.float .f64 r1) (.float .f64 r2)→Calls Tryz.prog 152 #[.int .i64 16,.agg #[.float .f64 t.1,.float .f64 t.2],.func (.func 154) #[] #[.pointer (some ⟨a,0,none⟩),.pointer (some ⟨b,0,none⟩)]] W fun e w'=>e=.returned (.agg #[.float .f64 s.1,.float .f64 s.2])∧Below W.heap.size W w') (w:World) :
   Calls Tryz.prog 100 #[.agg #[.float .f64 r1,.float .f64 r2]] w fun e w'=>e=.returned (.agg #[.float .f64 s.1,.float .f64 s.2])∧Below w.heap.size w w':=by
 obtain⟨X,R,HB⟩:=enter1 w (.float .f64 r1) (.float .f64 r2) 24
 go_enter Tryz.func100,Tryz.ntmps100
 go_upto_region 2 with
   (go_at_call 55;refine (c1 _).mono ?_;rintro _ V1 ⟨rfl,hb1⟩;replace X:=X.keep hb1;replace R:=R.keep hb1;replace HB:=later HB hb1;clear hb1)
 have D:Has2 (V1.alloc (.cells #[.float .f64 o.1,.float .f64 o.2] 24)) V1.heap.size (.float .f64 o.1) (.float .f64 o.2):=⟨by go_simp,by go_simp,by go_simp,by go_simp,by go_size⟩
 have hb1:Below V1.heap.size V1 (V1.alloc (.cells #[.float .f64 o.1,.float .f64 o.2] 24)):=by go_grown
 replace X:=X.keep hb1;replace R:=R.keep hb1;replace HB:=later HB hb1;clear hb1
 clear c1
 generalize V1.alloc (.cells #[.float .f64 o.1,.float .f64 o.2] 24)=V2 at *
 generalize V1.heap.size=d at *
 have hmf:∀(fn:Fn) (first cap:Array Value) (w:World),(Instr.makeFunc fn first cap).run Tryz.prog w=.ok (.func fn first cap) w:=fun _ _ _ _=>rfl
 go_wp2_with (first
   | (go_at_call 153;refine (c2 _).mono ?_;rintro _ V3 ⟨rfl,hb1⟩;replace X:=X.keep hb1;replace R:=R.keep hb1;replace D:=D.keep hb1;replace HB:=later HB hb1;clear hb1)
   | (go_at_call 152;refine (c3 _ _ _ D X).mono ?_;rintro _ V4 ⟨rfl,hb1⟩;replace R:=R.keep hb1;replace HB:=later HB hb1;clear hb1;obtain⟨k0,k1,k2,k3,k4⟩:=id R))
 refine bodyPost_ret (v:=.agg #[.float .f64 s.1,.float .f64 s.2]) (by simp [results,Tryz.results100,go_sem, *]) rfl ⟨rfl, ?_⟩
 repeat' (first | (with_reducible exact HB) | (with_reducible refine Below.setCell ?_ ?_ _) | go_size)
def powF (r:Nat×Nat) (i:Nat) (t:Nat×Nat):Nat×Nat :=
 let p:=mulP r.1 r.2 t.1 t.2
 let m:=makeP (floatOfInt .f64 ((i:Int)+1)) (floatOfInt .f64 ((i:Int)+1))
 let q:=divP p.1 p.2 m.1 m.2
 addP (makeP 4607182418800017408 4607182418800017408).1 (makeP 4607182418800017408 4607182418800017408).2 q.1 q.2
def pwsE (r:Nat×Nat):Nat×Nat:=serS (powF r) (makeP 4602678819172646912 4609434218613702656) 16 0
theorem powF_lt {r t:Nat×Nat} {i:Nat} (h1:r.1<18446744073709551616) (h2:r.2<18446744073709551616) (ht:t.1<18446744073709551616∧t.2<18446744073709551616):(powF r i t).1<18446744073709551616∧(powF r i t).2<18446744073709551616:=by
 have a:=mulP_lt h1 h2 ht.1 ht.2
 have b:=makeP_lt (foi_lt ((i:Int)+1)) (foi_lt ((i:Int)+1))
 have c:=divP_lt a.1 a.2 b.1 b.2
 have o:=makeP_lt (lo:=4607182418800017408) (hi:=4607182418800017408) (by omega) (by omega)
 exact addP_lt o.1 o.2 c.1 c.2
theorem pwsE_w (r1 r2:Nat) (h1:r1<18446744073709551616) (h2:r2<18446744073709551616) (w:World) :
   Calls Tryz.prog 100 #[.agg #[.float .f64 r1,.float .f64 r2]] w fun e w'=>e=.returned (.agg #[.float .f64 (pwsE (r1,r2)).1,.float .f64 (pwsE (r1,r2)).2])∧Below w.heap.size w w':=by
 have ht:=makeP_lt (lo:=4602678819172646912) (hi:=4609434218613702656) (by omega) (by omega)
 refine pow_core r1 r2 _ _ _ (fun w=>point_w 4607182418800017408 (by omega) w) (fun w=>nearOne_w w) (fun a b W hA hB=>?_) w
 have L:∀i,(serS (powF (r1,r2)) (makeP 4602678819172646912 4609434218613702656) 16 i).1<18446744073709551616∧(serS (powF (r1,r2)) (makeP 4602678819172646912 4609434218613702656) 16 i).2<18446744073709551616 :=
   fun i=>serS_lt (fun x=>x.1<18446744073709551616∧x.2<18446744073709551616) ht (fun j x hx=>powF_lt h1 h2 hx) 16 i
 have E:=ser_pow (serS (powF (r1,r2)) (makeP 4602678819172646912 4609434218613702656) 16) 16 a b (by omega) W (fun i hi W' hb=>by
   have Lt:=L (i+1)
   rw [serS_step _ _ 16 i hi]
   generalize serS (powF (r1,r2)) (makeP 4602678819172646912 4609434218613702656) 16 (i+1)=t at *
   have A:=mulP_lt h1 h2 Lt.1 Lt.2
   have B:=makeP_lt (foi_lt ((i:Int)+1)) (foi_lt ((i:Int)+1))
   have C:=divP_lt A.1 A.2 B.1 B.2
   have O:=makeP_lt (lo:=4607182418800017408) (hi:=4607182418800017408) (by omega) (by omega)
   exact pow_step _ _ r1 r2 t.1 t.2 _ _ _ (powF (r1,r2) i t) (i:Int) (by omega) (by omega) (fun w=>wholeI_w ((i:Int)+1) w) (fun w=>Mul_w r1 r2 t.1 t.2 h1 h2 Lt.1 Lt.2 w) (fun w=>Div_w _ _ _ _ A.1 A.2 B.1 B.2 w) (fun w=>Add_w _ _ _ _ O.1 O.2 C.1 C.2 w) a b W' (hA.keep hb) (hB.keep hb))
 rw [serS_end] at E
 exact E
set_option maxHeartbeats 1000000 in
theorem counted_core (x1 x2 g1 g2:Nat) (s:Nat×Nat)
   (c1:∀w,Calls Tryz.prog 106 #[] w fun e w'=>e=.returned (.agg #[.float .f64 g1,.float .f64 g2])∧Below w.heap.size w w')
   (c2:∀w,Calls Tryz.prog 113 #[.agg #[.float .f64 x1,.float .f64 x2],.agg #[.float .f64 g1,.float .f64 g2]] w fun e w'=>e=.returned (.agg #[.float .f64 s.1,.float .f64 s.2])∧Below w.heap.size w w') (w:World) :
   Calls Tryz.prog 96 #[.agg #[.float .f64 x1,.float .f64 x2]] w fun e w'=>e=.returned (.agg #[.float .f64 s.1,.float .f64 s.2])∧Below w.heap.size w w':=by
 obtain⟨X,R,HB⟩:=enter1 w (.float .f64 x1) (.float .f64 x2) 24
 go_enter Tryz.func96,Tryz.ntmps96
 go_upto_region 1 with fail
 generalize (w.alloc (.cells #[.float .f64 x1,.float .f64 x2] 24)).alloc (.cells #[.float .f64 0,.float .f64 0] 24)=V1 at *
 have kx0:=fun n:Behind V1=>n.cell X.1 X.2.2.2.2
 have kx1:=fun n:Behind V1=>n.cell X.2.1 X.2.2.2.2
 refine tail_behind 3 (by kernel_rfl) (by kernel_rfl) ?_
 simp only [List.take_succ_cons,List.take_zero,List.drop_succ_cons,List.drop_zero]
 repeat (go_big_quiet_step (first
   | (go_at_call 106;with_reducible refine Behind.call (c1 _))
   | (go_at_call 113;with_reducible refine Behind.call (c2 _))))
 refine wpQuiet_nil ?_
 rintro _ ⟨m',rfl⟩
 obtain⟨W,hb1⟩:=m'
 dsimp only
 clear kx0 kx1
 replace R:=R.keep hb1;replace HB:=later HB hb1;clear hb1
 obtain⟨k0,k1,k2,k3,k4⟩:=id R
 go_wp2_with fail
 refine bodyPost_ret (v:=.agg #[.float .f64 s.1,.float .f64 s.2]) (by simp [results,Tryz.results96,go_sem, *]) rfl ⟨rfl, ?_⟩
 repeat' (first | (with_reducible exact HB) | (with_reducible refine Below.setCell ?_ ?_ _) | go_size)
theorem ecounted_w (x1 x2:Nat) (h1:x1<18446744073709551616) (h2:x2<18446744073709551616) (w:World) :
   Calls Tryz.prog 96 #[.agg #[.float .f64 x1,.float .f64 x2]] w fun e w'=>e=.returned (.agg #[.float .f64 (meetP x1 x2 (infI (-1)) (infI 1)).1,.float .f64 (meetP x1 x2 (infI (-1)) (infI 1)).2])∧Below w.heap.size w w' :=
 counted_core x1 x2 (infI (-1)) (infI 1) _ (fun w=>whole_w w) (fun w=>meet_w x1 x2 (infI (-1)) (infI 1) h1 h2 (infI_lt _) (infI_lt _) w) w
end Go.Proofs.YtopfabemfbdccaaGreat
