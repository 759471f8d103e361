/- The walks of the reference's Hull, Meet, Neg, ends, Add and Sub: they answer as the program's; IvalSums' walk. -/
import Derived.Test.YtopfabemfbdccaaGreatZe29
import Derived.Test.YtopfabemfbdccaaGreatZe31
namespace Go.Proofs.YtopfabemfbdccaaGreat
open Go.ChangeShapes Go.WideShapes Go.ChangeAt Go.RowKit
theorem enter2 (w:World) (a b c d:Value) (T:TypeId):Has2 (((w.alloc (.cells #[a,b] T)).alloc (.cells #[c,d] T)).alloc (.cells #[.float .f64 0,.float .f64 0] T)) w.heap.size a b∧Has2 (((w.alloc (.cells #[a,b] T)).alloc (.cells #[c,d] T)).alloc (.cells #[.float .f64 0,.float .f64 0] T)) (w.heap.size+1) c d ∧
   Has2 (((w.alloc (.cells #[a,b] T)).alloc (.cells #[c,d] T)).alloc (.cells #[.float .f64 0,.float .f64 0] T)) (w.heap.size+1+1) (.float .f64 0) (.float .f64 0)∧Below w.heap.size w (((w.alloc (.cells #[a,b] T)).alloc (.cells #[c,d] T)).alloc (.cells #[.float .f64 0,.float .f64 0] T)) :=
 ⟨⟨by go_simp,by go_simp,by go_simp,by go_simp,by go_size⟩,⟨by go_simp,by go_simp,by go_simp,by go_simp,by go_size⟩,⟨by go_simp,by go_simp,by go_simp,by go_simp,by go_size⟩,by go_grown⟩
theorem enter1 (w:World) (a b:Value) (T:TypeId):Has2 ((w.alloc (.cells #[a,b] T)).alloc (.cells #[.float .f64 0,.float .f64 0] T)) w.heap.size a b ∧
   Has2 ((w.alloc (.cells #[a,b] T)).alloc (.cells #[.float .f64 0,.float .f64 0] T)) (w.heap.size+1) (.float .f64 0) (.float .f64 0)∧Below w.heap.size w ((w.alloc (.cells #[a,b] T)).alloc (.cells #[.float .f64 0,.float .f64 0] T)) :=
 ⟨⟨by go_simp,by go_simp,by go_simp,by go_simp,by go_size⟩,⟨by go_simp,by go_simp,by go_simp,by go_simp,by go_size⟩,by go_grown⟩
set_option maxHeartbeats 1000000 in
theorem rhull_core (xl xh yl yh:Nat) (b1 b2 b3 b4:Bool)
   (c1:∀w,Calls Tryz.prog 30 #[.agg #[.float .f64 xl,.float .f64 xh]] w fun e w'=>e=.returned (.bool (!b1))∧Below w.heap.size w w')
   (c2:∀w,Calls Tryz.prog 30 #[.agg #[.float .f64 yl,.float .f64 yh]] w fun e w'=>e=.returned (.bool (!b2))∧Below w.heap.size w w')
   (o1:(FloatKind.f64.format.order yl xl==some .lt)=b3) (o2:(FloatKind.f64.format.order yh xh==some .gt)=b4) (p:Nat×Nat)
   (hp:p=if !b1&&!b2 then (infI 1,infI (-1)) else if !b1 then (yl,yh) else if !b2 then (xl,xh) else (if b3 then yl else xl,if b4 then yh else xh)) (w:World) :
   Calls Tryz.prog 51 #[.agg #[.float .f64 xl,.float .f64 xh],.agg #[.float .f64 yl,.float .f64 yh]] w fun e w'=>e=.returned (.agg #[.float .f64 p.1,.float .f64 p.2])∧Below w.heap.size w w':=by
 obtain⟨X,Y,R,HB⟩:=enter2 w (.float .f64 xl) (.float .f64 xh) (.float .f64 yl) (.float .f64 yh) 24
 have ne1:w.heap.size+1+1≠w.heap.size:=by omega
 have ne2:w.heap.size≠w.heap.size+1+1:=by omega
 have ne3:w.heap.size+1≠w.heap.size:=by omega
 have ne4:w.heap.size≠w.heap.size+1:=by omega
 cases b1
 case' false=>cases b2
 case' true=>cases b2
 case' true.true=>cases b3
 case' true.true.false=>cases b4
 case' true.true.true=>cases b4
 all_goals
   simp only [Bool.not_true,Bool.not_false,Bool.and_true,Bool.and_false,Bool.and_self,Bool.false_eq_true,if_true,if_false] at hp c1 c2
   subst hp
   go_enter Tryz.func51,Tryz.ntmps51
   go_wp2_with fail
   generalize ((w.alloc (.cells #[.float .f64 xl,.float .f64 xh] 24)).alloc (.cells #[.float .f64 yl,.float .f64 yh] 24)).alloc (.cells #[.float .f64 0,.float .f64 0] 24)=V0 at *
   obtain⟨x0,x1,x2,x3,x4⟩:=id X
   obtain⟨y0,y1,y2,y3,y4⟩:=id Y
   obtain⟨r0,r1,r2,r3,r4⟩:=id R
   go_wp2_with (first
     | (go_at_call_of 30 (Value.agg #[.float .f64 xl,.float .f64 xh]);refine (c1 _).mono ?_;rintro _ w1 ⟨rfl,hb1⟩;replace X:=X.keep hb1;replace Y:=Y.keep hb1;replace R:=R.keep hb1;replace HB:=later HB hb1;clear hb1 x0 x1 x2 x3 x4 y0 y1 y2 y3 y4 r0 r1 r2 r3 r4
        obtain⟨x0,x1,x2,x3,x4⟩:=id X
        obtain⟨y0,y1,y2,y3,y4⟩:=id Y
        obtain⟨r0,r1,r2,r3,r4⟩:=id R)
     | (go_at_call_of 30 (Value.agg #[.float .f64 yl,.float .f64 yh]);refine (c2 _).mono ?_;rintro _ w1 ⟨rfl,hb1⟩;replace X:=X.keep hb1;replace Y:=Y.keep hb1;replace R:=R.keep hb1;replace HB:=later HB hb1;clear hb1 x0 x1 x2 x3 x4 y0 y1 y2 y3 y4 r0 r1 r2 r3 r4
        obtain⟨x0,x1,x2,x3,x4⟩:=id X
        obtain⟨y0,y1,y2,y3,y4⟩:=id Y
        obtain⟨r0,r1,r2,r3,r4⟩:=id R)
     | (go_at_call 46;refine (rempty_w _).mono ?_;rintro _ w1 ⟨rfl,hb1⟩;replace X:=X.keep hb1;replace Y:=Y.keep hb1;replace R:=R.keep hb1;replace HB:=later HB hb1;clear hb1 x0 x1 x2 x3 x4 y0 y1 y2 y3 y4 r0 r1 r2 r3 r4
        obtain⟨x0,x1,x2,x3,x4⟩:=id X
        obtain⟨y0,y1,y2,y3,y4⟩:=id Y
        obtain⟨r0,r1,r2,r3,r4⟩:=id R))
 · refine bodyPost_ret (v:=.agg #[.float .f64 yl,.float .f64 xh]) (by simp [results,Tryz.results51,go_sem, *]) rfl ⟨rfl, ?_⟩
   repeat' (first | (with_reducible exact HB) | (with_reducible refine Below.setCell ?_ ?_ _) | go_size)
 · refine bodyPost_ret (v:=.agg #[.float .f64 yl,.float .f64 yh]) (by simp [results,Tryz.results51,go_sem, *]) rfl ⟨rfl, ?_⟩
   repeat' (first | (with_reducible exact HB) | (with_reducible refine Below.setCell ?_ ?_ _) | go_size)
 · refine bodyPost_ret (v:=.agg #[.float .f64 xl,.float .f64 xh]) (by simp [results,Tryz.results51,go_sem, *]) rfl ⟨rfl, ?_⟩
   repeat' (first | (with_reducible exact HB) | (with_reducible refine Below.setCell ?_ ?_ _) | go_size)
 · refine bodyPost_ret (v:=.agg #[.float .f64 xl,.float .f64 yh]) (by simp [results,Tryz.results51,go_sem, *]) rfl ⟨rfl, ?_⟩
   repeat' (first | (with_reducible exact HB) | (with_reducible refine Below.setCell ?_ ?_ _) | go_size)
 · refine bodyPost_ret (v:=.agg #[.float .f64 xl,.float .f64 xh]) (by simp [results,Tryz.results51,go_sem, *]) rfl ⟨rfl, ?_⟩
   repeat' (first | (with_reducible exact HB) | (with_reducible refine Below.setCell ?_ ?_ _) | go_size)
 · refine bodyPost_ret (v:=.agg #[.float .f64 (infI 1),.float .f64 (infI (-1))]) (by simp [results,Tryz.results51,go_sem, *]) rfl ⟨rfl, ?_⟩
   repeat' (first | (with_reducible exact HB) | (with_reducible refine Below.setCell ?_ ?_ _) | go_size)
 · refine bodyPost_ret (v:=.agg #[.float .f64 yl,.float .f64 yh]) (by simp [results,Tryz.results51,go_sem, *]) rfl ⟨rfl, ?_⟩
   repeat' (first | (with_reducible exact HB) | (with_reducible refine Below.setCell ?_ ?_ _) | go_size)
theorem rHull_w (xl xh yl yh:Nat) (h1:xl<18446744073709551616) (h2:xh<18446744073709551616) (h3:yl<18446744073709551616) (h4:yh<18446744073709551616) (w:World) :
   Calls Tryz.prog 51 #[.agg #[.float .f64 xl,.float .f64 xh],.agg #[.float .f64 yl,.float .f64 yh]] w fun e w'=>e=.returned (.agg #[.float .f64 (hullP xl xh yl yh).1,.float .f64 (hullP xl xh yl yh).2])∧Below w.heap.size w w' :=
 rhull_core xl xh yl yh _ _ _ _ (fun w=>none_w xl xh h1 h2 w) (fun w=>none_w yl yh h3 h4 w) (o_lt h3 h1) (o_gt h4 h2) _ (by rw [←rhull_is];rfl) w
theorem pz_zminus {b:Nat} (hb:b<18446744073709551616):pz (zminus b)=pz (negB b):=by
 unfold zminus
 cases hz:isZ b
 · simp only [Bool.false_eq_true,if_false]
 · simp only [if_true]
   have h0:b%9223372036854775808=0:=by unfold isZ at hz;simpa using hz
   unfold pz negB
   split <;> split <;> split <;> omega
theorem zminus_lt {b:Nat} (hb:b<18446744073709551616):zminus b<18446744073709551616:=by
 unfold zminus
 have:=negB_lt hb
 split <;> omega
theorem zminus_run {b:Nat} (hb:b<18446744073709551616) (nb:nanB b=false) (t:TypeId) (w:World):(binOp .sub t (.float .f64 0) (.float .f64 b)).run Tryz.prog w=.ok (.float .f64 (zminus b)) w:=by
 refine run_float_arith (P:=Tryz.prog) w .sub t .f64 0 b _ ?_
 cases fb:finB b
 · exact sub_bits_inf hb nb fb
 · exact sub_bits_fin hb fb
set_option maxHeartbeats 1000000 in
theorem rneg_core (lo hi zl zh:Nat) (b:Bool) (p:Nat×Nat)
   (c1:∀w,Calls Tryz.prog 30 #[.agg #[.float .f64 lo,.float .f64 hi]] w fun e w'=>e=.returned (.bool (!b))∧Below w.heap.size w w')
   (o1:b=true→∀(t:TypeId) (w:World),(binOp .sub t (.float .f64 0) (.float .f64 lo)).run Tryz.prog w=.ok (.float .f64 zl) w) (o2:b=true→∀(t:TypeId) (w:World),(binOp .sub t (.float .f64 0) (.float .f64 hi)).run Tryz.prog w=.ok (.float .f64 zh) w)
   (c3:∀w,Calls Tryz.prog 12 #[.float .f64 zh,.float .f64 zl] w fun e w'=>e=.returned (.agg #[.float .f64 p.1,.float .f64 p.2])∧Below w.heap.size w w') (q:Nat×Nat)
   (hq:q=if b then p else (infI 1,infI (-1))) (w:World) :
   Calls Tryz.prog 14 #[.agg #[.float .f64 lo,.float .f64 hi]] w fun e w'=>e=.returned (.agg #[.float .f64 q.1,.float .f64 q.2])∧Below w.heap.size w w':=by
 obtain⟨X,R,HB⟩:=enter1 w (.float .f64 lo) (.float .f64 hi) 24
 have ne1:w.heap.size+1≠w.heap.size:=by omega
 have ne2:w.heap.size≠w.heap.size+1:=by omega
 cases b
 all_goals
   simp only [Bool.not_true,Bool.not_false,Bool.false_eq_true,if_true,if_false] at hq c1
   subst hq
   try replace o1:=o1 rfl
   try replace o2:=o2 rfl
   go_enter Tryz.func14,Tryz.ntmps14
   go_wp2_with fail
   generalize (w.alloc (.cells #[.float .f64 lo,.float .f64 hi] 24)).alloc (.cells #[.float .f64 0,.float .f64 0] 24)=V0 at *
   obtain⟨x0,x1,x2,x3,x4⟩:=id X
   obtain⟨r0,r1,r2,r3,r4⟩:=id R
   go_wp2_with (first
     | (go_at_call 30;refine (c1 _).mono ?_;rintro _ w1 ⟨rfl,hb1⟩;replace X:=X.keep hb1;replace R:=R.keep hb1;replace HB:=later HB hb1;clear hb1 x0 x1 x2 x3 x4 r0 r1 r2 r3 r4
        obtain⟨x0,x1,x2,x3,x4⟩:=id X
        obtain⟨r0,r1,r2,r3,r4⟩:=id R)
     | (go_at_call 46;refine (rempty_w _).mono ?_;rintro _ w1 ⟨rfl,hb1⟩;replace R:=R.keep hb1;replace HB:=later HB hb1;clear hb1 x0 x1 x2 x3 x4 r0 r1 r2 r3 r4
        obtain⟨r0,r1,r2,r3,r4⟩:=id R)
     | (go_at_call 12;refine (c3 _).mono ?_;rintro _ w1 ⟨rfl,hb1⟩;replace R:=R.keep hb1;replace HB:=later HB hb1;clear hb1 x0 x1 x2 x3 x4 r0 r1 r2 r3 r4
        obtain⟨r0,r1,r2,r3,r4⟩:=id R))
   first
     | (refine bodyPost_ret (v:=.agg #[.float .f64 (infI 1),.float .f64 (infI (-1))]) (by simp [results,Tryz.results14,go_sem, *]) rfl ⟨rfl, ?_⟩
        repeat' (first | (with_reducible exact HB) | (with_reducible refine Below.setCell ?_ ?_ _) | go_size))
     | (refine bodyPost_ret (v:=.agg #[.float .f64 q.1,.float .f64 q.2]) (by simp [results,Tryz.results14,go_sem, *]) rfl ⟨rfl, ?_⟩
        repeat' (first | (with_reducible exact HB) | (with_reducible refine Below.setCell ?_ ?_ _) | go_size))
theorem rNeg_w (lo hi:Nat) (hl:lo<18446744073709551616) (hh:hi<18446744073709551616) (w:World) :
   Calls Tryz.prog 14 #[.agg #[.float .f64 lo,.float .f64 hi]] w fun e w'=>e=.returned (.agg #[.float .f64 (negP (lo,hi)).1,.float .f64 (negP (lo,hi)).2])∧Below w.heap.size w w':=by
 refine rneg_core lo hi (zminus lo) (zminus hi) _ (makeP (zminus hi) (zminus lo)) (fun w=>none_w lo hi hl hh w) (fun h=>zminus_run hl (hs_num h).1) (fun h=>zminus_run hh (hs_num h).2) (fun w=>rmake_w _ _ (zminus_lt hh) (zminus_lt hl) w) _ ?_ w
 unfold negP mirrorP emptyP makeP
 rw [pz_zminus hl,pz_zminus hh]
theorem rends_core (lo hi l2 h2:Nat) (b1 b2:Bool) (p:Nat×Nat) (o1:(FloatKind.f64.format.order lo 9218868437227405311==some .gt)=b1) (o2:(FloatKind.f64.format.order hi 18442240474082181119==some .lt)=b2)
   (e1:l2=if b1 then 9218868437227405311 else lo) (e2:h2=if b2 then 18442240474082181119 else hi)
   (c3:∀w,Calls Tryz.prog 12 #[.float .f64 l2,.float .f64 h2] w fun e w'=>e=.returned (.agg #[.float .f64 p.1,.float .f64 p.2])∧Below w.heap.size w w') (w:World) :
   Calls Tryz.prog 60 #[.float .f64 lo,.float .f64 hi] w fun e w'=>e=.returned (.agg #[.float .f64 p.1,.float .f64 p.2])∧Below w.heap.size w w':=by
 cases b1 <;> cases b2
 all_goals
   simp only [Bool.false_eq_true,if_true,if_false] at e1 e2
   subst e1 e2
   go_enter Tryz.func60,Tryz.ntmps60
   go_wp2_with (go_at_call 12;refine (c3 _).mono ?_;rintro _ w1 ⟨rfl,hb1⟩
                have R:Has2 w1 w.heap.size (.float .f64 0) (.float .f64 0):=Has2.keep ⟨by go_simp,by go_simp,by go_simp,by go_simp,by go_size⟩ hb1
                obtain⟨r0,r1,r2,r3,r4⟩:=R
                have HB:Below w.heap.size w w1:=later (by go_grown) hb1)
   refine bodyPost_ret (v:=.agg #[.float .f64 p.1,.float .f64 p.2]) (by simp [results,Tryz.results60,go_sem, *]) rfl ⟨rfl, ?_⟩
   repeat' (first | (with_reducible exact HB) | (with_reducible refine Below.setCell ?_ ?_ _) | go_size)
theorem rends_w (lo hi:Nat) (hl:lo<18446744073709551616) (hh:hi<18446744073709551616) (S:Some2 lo hi) (w:World) :
   Calls Tryz.prog 60 #[.float .f64 lo,.float .f64 hi] w fun e w'=>e=.returned (.agg #[.float .f64 lo,.float .f64 hi])∧Below w.heap.size w w':=by
 have h:=rends_core lo hi _ _ _ _ (rendsP lo hi) (o_gt hl (by omega)) (o_lt hh (by omega)) rfl rfl (fun w=>rmake_w _ _ (by split <;> omega) (by split <;> omega) w) w
 rw [rends_is S] at h
 exact h
def addP (xl xh yl yh:Nat):Nat×Nat:=if hsB xl xh&&hsB yl yh then ((addR xl yl (-1)).getD 0,(addR xh yh 1).getD 0) else (infI 1,infI (-1))
theorem addP_lt {xl xh yl yh:Nat} (h1:xl<18446744073709551616) (h2:xh<18446744073709551616) (h3:yl<18446744073709551616) (h4:yh<18446744073709551616):(addP xl xh yl yh).1<18446744073709551616∧(addP xl xh yl yh).2<18446744073709551616:=by
 unfold addP
 have e1:=infI_lt 1
 have e2:=infI_lt (-1)
 cases hx:hsB xl xh <;> cases hy:hsB yl yh
 · rw [if_neg (by simp)];exact⟨e1,e2⟩
 · rw [if_neg (by simp)];exact⟨e1,e2⟩
 · rw [if_neg (by simp)];exact⟨e1,e2⟩
 · rw [if_pos (by simp)]
   obtain⟨l,u,e1,e2, -,e3,e4⟩:=add_some h1 h2 h3 h4 (hs_iff.1 hx) (hs_iff.1 hy)
   rw [e1,e2]
   exact⟨e3,e4⟩
theorem negP_lt {lo hi:Nat} (hl:lo<18446744073709551616) (hh:hi<18446744073709551616):(negP (lo,hi)).1<18446744073709551616∧(negP (lo,hi)).2<18446744073709551616:=by
 have e1:=infI_lt 1
 have e2:=infI_lt (-1)
 unfold negP mirrorP emptyP
 cases hsB lo hi
 · rw [if_neg (by simp)];exact⟨e1,e2⟩
 · rw [if_pos rfl];exact makeP_lt (negB_lt hh) (negB_lt hl)
theorem Add_w (xl xh yl yh:Nat) (h1:xl<18446744073709551616) (h2:xh<18446744073709551616) (h3:yl<18446744073709551616) (h4:yh<18446744073709551616) (w:World) :
   Calls Tryz.prog 61 #[.agg #[.float .f64 xl,.float .f64 xh],.agg #[.float .f64 yl,.float .f64 yh]] w fun e w'=>e=.returned (.agg #[.float .f64 (addP xl xh yl yh).1,.float .f64 (addP xl xh yl yh).2])∧Below w.heap.size w w':=by
 unfold addP
 cases hs:hsB xl xh&&hsB yl yh
 · exact add_none xl xh yl yh h1 h2 h3 h4 hs w
 · obtain⟨hx,hy⟩:=Bool.and_eq_true_iff.1 hs
   obtain⟨l,u,e1,e2, -,e3,e4⟩:=add_some h1 h2 h3 h4 (hs_iff.1 hx) (hs_iff.1 hy)
   refine (add_i xl xh yl yh h1 h2 h3 h4 _ _ (fun w=>add_w xl yl (-1) h1 h3 w) (fun w=>add_w xh yh 1 h2 h4 w) hs w).mono ?_
   rintro _ _ ⟨⟨r1,r2,rfl,t1,t2⟩,hb⟩
   rw [e1] at t1
   rw [e2] at t2
   rw [e1,e2]
   obtain rfl:r1=l:=t1.2
   obtain rfl:r2=u:=t2.2
   exact⟨rfl,hb⟩
theorem Sub_w (xl xh yl yh:Nat) (h1:xl<18446744073709551616) (h2:xh<18446744073709551616) (h3:yl<18446744073709551616) (h4:yh<18446744073709551616) (w:World) :
   Calls Tryz.prog 56 #[.agg #[.float .f64 xl,.float .f64 xh],.agg #[.float .f64 yl,.float .f64 yh]] w fun e w'=>e=.returned (.agg #[.float .f64 (addP xl xh (negP (yl,yh)).1 (negP (yl,yh)).2).1,.float .f64 (addP xl xh (negP (yl,yh)).1 (negP (yl,yh)).2).2])∧Below w.heap.size w w':=by
 have n:=negP_lt h3 h4
 have a:=addP_lt h1 h2 n.1 n.2
 have h:=sub_i xl xh yl yh (negP (yl,yh)).1 (negP (yl,yh)).2 (some (addP xl xh (negP (yl,yh)).1 (negP (yl,yh)).2).1) (some (addP xl xh (negP (yl,yh)).1 (negP (yl,yh)).2).2) (fun w=>neg_w yl yh h3 h4 w)
   (fun w=>(Add_w xl xh _ _ h1 h2 n.1 n.2 w).mono fun _ _ ⟨e,b⟩=>⟨⟨_,_,e,⟨a.1,rfl⟩,⟨a.2,rfl⟩⟩,b⟩) w
 refine h.mono ?_
 rintro _ _ ⟨⟨r1,r2,rfl,t1,t2⟩,hb⟩
 have e1:r1=(addP xl xh (negP (yl,yh)).1 (negP (yl,yh)).2).1:=t1.2
 have e2:r2=(addP xl xh (negP (yl,yh)).1 (negP (yl,yh)).2).2:=t2.2
 rw [e1,e2]
 exact⟨rfl,hb⟩
set_option maxHeartbeats 1000000 in
theorem radd_none (xl xh yl yh:Nat) (b1 b2:Bool)
   (c1:∀w,Calls Tryz.prog 30 #[.agg #[.float .f64 xl,.float .f64 xh]] w fun e w'=>e=.returned (.bool (!b1))∧Below w.heap.size w w')
   (c2:∀w,Calls Tryz.prog 30 #[.agg #[.float .f64 yl,.float .f64 yh]] w fun e w'=>e=.returned (.bool (!b2))∧Below w.heap.size w w')
   (hb:(b1&&b2)=false) (w:World) :
   Calls Tryz.prog 24 #[.agg #[.float .f64 xl,.float .f64 xh],.agg #[.float .f64 yl,.float .f64 yh]] w fun e w'=>e=.returned (.agg #[.float .f64 (infI 1),.float .f64 (infI (-1))])∧Below w.heap.size w w':=by
 obtain⟨X,Y,R,HB⟩:=enter2 w (.float .f64 xl) (.float .f64 xh) (.float .f64 yl) (.float .f64 yh) 24
 cases b1
 case' true=>cases b2
 case true.true=>cases hb
 all_goals
   simp only [Bool.not_true,Bool.not_false] at c1 c2
   go_enter Tryz.func24,Tryz.ntmps24
   go_wp2_with fail
   generalize ((w.alloc (.cells #[.float .f64 xl,.float .f64 xh] 24)).alloc (.cells #[.float .f64 yl,.float .f64 yh] 24)).alloc (.cells #[.float .f64 0,.float .f64 0] 24)=V0 at *
   obtain⟨x0,x1,x2,x3,x4⟩:=id X
   obtain⟨y0,y1,y2,y3,y4⟩:=id Y
   obtain⟨r0,r1,r2,r3,r4⟩:=id R
   go_wp2_with (first
     | (go_at_call_of 30 (Value.agg #[.float .f64 xl,.float .f64 xh]);refine (c1 _).mono ?_;rintro _ w1 ⟨rfl,hb1⟩;replace X:=X.keep hb1;replace Y:=Y.keep hb1;replace R:=R.keep hb1;replace HB:=later HB hb1;clear hb1 x0 x1 x2 x3 x4 y0 y1 y2 y3 y4 r0 r1 r2 r3 r4
        obtain⟨x0,x1,x2,x3,x4⟩:=id X
        obtain⟨y0,y1,y2,y3,y4⟩:=id Y
        obtain⟨r0,r1,r2,r3,r4⟩:=id R)
     | (go_at_call_of 30 (Value.agg #[.float .f64 yl,.float .f64 yh]);refine (c2 _).mono ?_;rintro _ w1 ⟨rfl,hb1⟩;replace X:=X.keep hb1;replace Y:=Y.keep hb1;replace R:=R.keep hb1;replace HB:=later HB hb1;clear hb1 x0 x1 x2 x3 x4 y0 y1 y2 y3 y4 r0 r1 r2 r3 r4
        obtain⟨x0,x1,x2,x3,x4⟩:=id X
        obtain⟨y0,y1,y2,y3,y4⟩:=id Y
        obtain⟨r0,r1,r2,r3,r4⟩:=id R)
     | (go_at_call 46;refine (rempty_w _).mono ?_;rintro _ w1 ⟨rfl,hb1⟩;replace X:=X.keep hb1;replace Y:=Y.keep hb1;replace R:=R.keep hb1;replace HB:=later HB hb1;clear hb1 x0 x1 x2 x3 x4 y0 y1 y2 y3 y4 r0 r1 r2 r3 r4
        obtain⟨x0,x1,x2,x3,x4⟩:=id X
        obtain⟨y0,y1,y2,y3,y4⟩:=id Y
        obtain⟨r0,r1,r2,r3,r4⟩:=id R))
   refine bodyPost_ret (v:=.agg #[.float .f64 (infI 1),.float .f64 (infI (-1))]) (by simp [results,Tryz.results24,go_sem, *]) rfl ⟨rfl, ?_⟩
   repeat' (first | (with_reducible exact HB) | (with_reducible refine Below.setCell ?_ ?_ _) | go_size)
set_option maxHeartbeats 1000000 in
theorem radd_core (xl xh yl yh l u:Nat)
   (c1:∀w,Calls Tryz.prog 30 #[.agg #[.float .f64 xl,.float .f64 xh]] w fun e w'=>e=.returned (.bool false)∧Below w.heap.size w w')
   (c2:∀w,Calls Tryz.prog 30 #[.agg #[.float .f64 yl,.float .f64 yh]] w fun e w'=>e=.returned (.bool false)∧Below w.heap.size w w')
   (ca:∀w,Calls Tryz.prog 62 #[.float .f64 xl,.float .f64 yl,.int .i64 (-1)] w fun e w'=>e=.returned (.float .f64 l)∧Below w.heap.size w w')
   (cb:∀w,Calls Tryz.prog 62 #[.float .f64 xh,.float .f64 yh,.int .i64 1] w fun e w'=>e=.returned (.float .f64 u)∧Below w.heap.size w w')
   (ce:∀w,Calls Tryz.prog 60 #[.float .f64 l,.float .f64 u] w fun e w'=>e=.returned (.agg #[.float .f64 l,.float .f64 u])∧Below w.heap.size w w') (w:World) :
   Calls Tryz.prog 24 #[.agg #[.float .f64 xl,.float .f64 xh],.agg #[.float .f64 yl,.float .f64 yh]] w fun e w'=>e=.returned (.agg #[.float .f64 l,.float .f64 u])∧Below w.heap.size w w':=by
 obtain⟨X,Y,R,HB⟩:=enter2 w (.float .f64 xl) (.float .f64 xh) (.float .f64 yl) (.float .f64 yh) 24
 have ne1:w.heap.size+1+1≠w.heap.size:=by omega
 have ne2:w.heap.size≠w.heap.size+1+1:=by omega
 go_enter Tryz.func24,Tryz.ntmps24
 go_wp2_with fail
 generalize ((w.alloc (.cells #[.float .f64 xl,.float .f64 xh] 24)).alloc (.cells #[.float .f64 yl,.float .f64 yh] 24)).alloc (.cells #[.float .f64 0,.float .f64 0] 24)=V0 at *
 obtain⟨x0,x1,x2,x3,x4⟩:=id X
 obtain⟨y0,y1,y2,y3,y4⟩:=id Y
 obtain⟨r0,r1,r2,r3,r4⟩:=id R
 go_upto_region 3 with (first
     | (go_at_call_of 30 (Value.agg #[.float .f64 xl,.float .f64 xh]);refine (c1 _).mono ?_;rintro _ w1 ⟨rfl,hb1⟩;replace X:=X.keep hb1;replace Y:=Y.keep hb1;replace R:=R.keep hb1;replace HB:=later HB hb1;clear hb1 x0 x1 x2 x3 x4 y0 y1 y2 y3 y4 r0 r1 r2 r3 r4
        obtain⟨x0,x1,x2,x3,x4⟩:=id X
        obtain⟨y0,y1,y2,y3,y4⟩:=id Y
        obtain⟨r0,r1,r2,r3,r4⟩:=id R)
     | (go_at_call_of 30 (Value.agg #[.float .f64 yl,.float .f64 yh]);refine (c2 _).mono ?_;rintro _ w1 ⟨rfl,hb1⟩;replace X:=X.keep hb1;replace Y:=Y.keep hb1;replace R:=R.keep hb1;replace HB:=later HB hb1;clear hb1 x0 x1 x2 x3 x4 y0 y1 y2 y3 y4 r0 r1 r2 r3 r4
        obtain⟨x0,x1,x2,x3,x4⟩:=id X
        obtain⟨y0,y1,y2,y3,y4⟩:=id Y
        obtain⟨r0,r1,r2,r3,r4⟩:=id R))
 clear x0 x1 x2 x3 x4 y0 y1 y2 y3 y4 r0 r1 r2 r3 r4 c1 c2
 replace X:=X.drew
 replace Y:=Y.drew
 replace R:=R.drew
 replace HB:=HB.drew
 go_region_held3 (fun w'=>w'.cell? ⟨w.heap.size,0,none⟩=some (.float .f64 xl)∧w'.cell? ⟨w.heap.size,1,none⟩=some (.float .f64 xh)∧w'.cell? ⟨w.heap.size+1,0,none⟩=some (.float .f64 yl)∧w'.cell? ⟨w.heap.size+1,1,none⟩=some (.float .f64 yh)) (first | exact⟨X.1,X.2.1,Y.1,Y.2.1⟩ | go_keep)
   (first
     | (go_at_call_of 62 (Value.float .f64 xl);refine (ca _).mono ?_;rintro _ w2 ⟨rfl,hb1⟩;replace X:=X.keep hb1;replace Y:=Y.keep hb1;replace R:=R.keep hb1;replace HB:=later HB hb1;clear hb1)
     | (go_at_call_of 62 (Value.float .f64 xh);refine (cb _).mono ?_;rintro _ w2 ⟨rfl,hb1⟩;replace X:=X.keep hb1;replace Y:=Y.keep hb1;replace R:=R.keep hb1;replace HB:=later HB hb1;clear hb1)
     | (go_at_call 60;refine (ce _).mono ?_;rintro _ w3 ⟨rfl,hb1⟩;replace X:=X.keep hb1;replace Y:=Y.keep hb1;replace R:=R.keep hb1;replace HB:=later HB hb1;clear hb1;obtain⟨d0,d1,d2,d3,d4⟩:=R))
 all_goals
   go_wp2_with fail
   refine bodyPost_ret (v:=.agg #[.float .f64 l,.float .f64 u]) (by simp [results,Tryz.results24,go_sem, *]) rfl ⟨rfl, ?_⟩
   repeat' (first | (with_reducible exact HB) | (with_reducible refine Below.setCell ?_ ?_ _) | go_size)
theorem rAdd_w (xl xh yl yh:Nat) (h1:xl<18446744073709551616) (h2:xh<18446744073709551616) (h3:yl<18446744073709551616) (h4:yh<18446744073709551616) (w:World) :
   Calls Tryz.prog 24 #[.agg #[.float .f64 xl,.float .f64 xh],.agg #[.float .f64 yl,.float .f64 yh]] w fun e w'=>e=.returned (.agg #[.float .f64 (addP xl xh yl yh).1,.float .f64 (addP xl xh yl yh).2])∧Below w.heap.size w w':=by
 unfold addP
 cases hs:hsB xl xh&&hsB yl yh
 · exact radd_none xl xh yl yh _ _ (fun w=>none_w xl xh h1 h2 w) (fun w=>none_w yl yh h3 h4 w) hs w
 · obtain⟨hx,hy⟩:=Bool.and_eq_true_iff.1 hs
   obtain⟨l,u,e1,e2,S,e3,e4⟩:=add_some h1 h2 h3 h4 (hs_iff.1 hx) (hs_iff.1 hy)
   have c1:=fun w=>none_w xl xh h1 h2 w
   have c2:=fun w=>none_w yl yh h3 h4 w
   rw [hx] at c1
   rw [hy] at c2
   have ca:=told_calls e1 (fun w=>radd_w xl yl (-1) h1 h3 w)
   have cb:=told_calls e2 (fun w=>radd_w xh yh 1 h2 h4 w)
   rw [e1,e2]
   exact radd_core xl xh yl yh l u c1 c2 ca cb (fun w=>rends_w l u e3 e4 S w) w
set_option maxHeartbeats 1000000 in
theorem rsub_core (xl xh yl yh nl nh r1 r2:Nat)
   (cn:∀w,Calls Tryz.prog 14 #[.agg #[.float .f64 yl,.float .f64 yh]] w fun e w'=>e=.returned (.agg #[.float .f64 nl,.float .f64 nh])∧Below w.heap.size w w')
   (ca:∀w,Calls Tryz.prog 24 #[.agg #[.float .f64 xl,.float .f64 xh],.agg #[.float .f64 nl,.float .f64 nh]] w fun e w'=>e=.returned (.agg #[.float .f64 r1,.float .f64 r2])∧Below w.heap.size w w') (w:World) :
   Calls Tryz.prog 22 #[.agg #[.float .f64 xl,.float .f64 xh],.agg #[.float .f64 yl,.float .f64 yh]] w fun e w'=>e=.returned (.agg #[.float .f64 r1,.float .f64 r2])∧Below w.heap.size w w':=by
 obtain⟨X,Y,R,HB⟩:=enter2 w (.float .f64 xl) (.float .f64 xh) (.float .f64 yl) (.float .f64 yh) 24
 have ne1:w.heap.size+1+1≠w.heap.size:=by omega
 have ne2:w.heap.size≠w.heap.size+1+1:=by omega
 go_enter Tryz.func22,Tryz.ntmps22
 go_upto_region 1 with fail
 generalize ((w.alloc (.cells #[.float .f64 xl,.float .f64 xh] 24)).alloc (.cells #[.float .f64 yl,.float .f64 yh] 24)).alloc (.cells #[.float .f64 0,.float .f64 0] 24)=V0 at *
 replace X:=X.drew
 replace Y:=Y.drew
 replace R:=R.drew
 replace HB:=HB.drew
 go_region_held3 (fun w'=>w'.cell? ⟨w.heap.size,0,none⟩=some (.float .f64 xl)∧w'.cell? ⟨w.heap.size,1,none⟩=some (.float .f64 xh)∧w'.cell? ⟨w.heap.size+1,0,none⟩=some (.float .f64 yl)∧w'.cell? ⟨w.heap.size+1,1,none⟩=some (.float .f64 yh)) (first | exact⟨X.1,X.2.1,Y.1,Y.2.1⟩ | go_keep)
   (first
     | (go_at_call 14;refine (cn _).mono ?_;rintro _ w2 ⟨rfl,hb1⟩;replace X:=X.keep hb1;replace Y:=Y.keep hb1;replace R:=R.keep hb1;replace HB:=later HB hb1;clear hb1)
     | (go_at_call 24;refine (ca _).mono ?_;rintro _ w3 ⟨rfl,hb1⟩;replace X:=X.keep hb1;replace Y:=Y.keep hb1;replace R:=R.keep hb1;replace HB:=later HB hb1;clear hb1;obtain⟨d0,d1,d2,d3,d4⟩:=R))
 all_goals
   go_wp2_with fail
   refine bodyPost_ret (v:=.agg #[.float .f64 r1,.float .f64 r2]) (by simp [results,Tryz.results22,go_sem, *]) rfl ⟨rfl, ?_⟩
   repeat' (first | (with_reducible exact HB) | (with_reducible refine Below.setCell ?_ ?_ _) | go_size)
theorem rSub_w (xl xh yl yh:Nat) (h1:xl<18446744073709551616) (h2:xh<18446744073709551616) (h3:yl<18446744073709551616) (h4:yh<18446744073709551616) (w:World) :
   Calls Tryz.prog 22 #[.agg #[.float .f64 xl,.float .f64 xh],.agg #[.float .f64 yl,.float .f64 yh]] w fun e w'=>e=.returned (.agg #[.float .f64 (addP xl xh (negP (yl,yh)).1 (negP (yl,yh)).2).1,.float .f64 (addP xl xh (negP (yl,yh)).1 (negP (yl,yh)).2).2])∧Below w.heap.size w w' :=
 rsub_core xl xh yl yh _ _ _ _ (fun w=>rNeg_w yl yh h3 h4 w) (fun w=>rAdd_w xl xh _ _ h1 h2 (negP_lt h3 h4).1 (negP_lt h3 h4).2 w) w
theorem rsame_self (a b:Nat) (ha:a<18446744073709551616) (hb:b<18446744073709551616) (w:World) :
   Calls Tryz.prog 15 #[.agg #[.float .f64 a,.float .f64 b],.agg #[.float .f64 a,.float .f64 b]] w fun e w'=>e=.returned (.bool true)∧Below w.heap.size w w':=by
 have h:=rsame_w a b a b ha hb ha hb w
 have e:∀R,sameB R R=true:=fun R=>by unfold sameB;cases nanB R <;> simp
 rw [e,e] at h
 exact h
end Go.Proofs.YtopfabemfbdccaaGreat
