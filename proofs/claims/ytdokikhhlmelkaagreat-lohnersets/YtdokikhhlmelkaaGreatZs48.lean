/- LohnerSets' walk. -/
import Derived.Test.YtdokikhhlmelkaaGreatZs41
import Derived.Test.YtdokikhhlmelkaaGreatZs46
import Derived.Test.YtdokikhhlmelkaaGreatZs47
namespace Go.Proofs.YtdokikhhlmelkaaGreat
open Go.ChangeShapes Go.WideShapes Go.ChangeAt Go.RowKit
def NewSays (m:Nat) (X:Nat→Nat×Nat) (a1:Option Addr) (l1:Nat) (a2:Option Addr) (l2:Nat) (a3:Option Addr) (l3:Nat) (er:Int) (w':World):Prop :=
 (er=1∧l1=0∧(m<1∨24<m∨∃i,i<m∧hsB (X i).1 (X i).2=false)) ∨
 (er=5∧1≤m∧m≤24∧(∀i,i<m→hsB (X i).1 (X i).2=true)∧(List.range m).all (fun i=>bdB (X i))=false) ∨
 (er=0∧1≤m∧m≤24∧(∀i,i<m→bdB (X i)=true)∧m=l1∧m=l2∧m=l3∧∃gc ga gr h k,a1=some ⟨gc,0,none⟩∧a2=some ⟨ga,0,none⟩∧a3=some ⟨gr,0,none⟩∧Out w' gc m (fun i=>.float .f64 (midP (X i).1 (X i).2))∧RowsF w' ga m m h k oneN∧Img w' gr m (fun i=>leftQ (X i)))
theorem NewSays.keep {m:Nat} {X:Nat→Nat×Nat} {a1 a2 a3:Option Addr} {l1 l2 l3:Nat} {er:Int} {w w':World} (h:NewSays m X a1 l1 a2 l2 a3 l3 er w) (hb:Below w.heap.size w w'):NewSays m X a1 l1 a2 l2 a3 l3 er w':=by
 rcases h with h | h | ⟨e,n1,n2,hbd,e1,e2,e3,gc,ga,gr,h,k,p1,p2,p3,O,Gr,J⟩
 · exact Or.inl h
 · exact Or.inr (Or.inl h)
 · exact Or.inr (Or.inr ⟨e,n1,n2,hbd,e1,e2,e3,gc,ga,gr,h,k,p1,p2,p3,O.keep hb,Gr.keep hb,J.keep hb⟩)
theorem oneN_lt (r c:Nat):oneN r c<18446744073709551616:=by unfold oneN;split <;> omega
theorem one_flt {n:Nat} (n1:1≤n) (n2:n≤24):fltB n (fun _=>n) oneN=true:=by
 unfold fltB
 rw [dim_yes n1 n2,Bool.and_true]
 refine all_upto.2 fun r _=>?_
 unfold rowFB
 rw [decide_eq_true rfl,dim_yes n1 n2,show finsB n (oneN r)=true from all_upto.2 fun c _=>by unfold oneN;split <;> decide]
 rfl
theorem pts_one (r c:Nat):ptsP oneN r c=oneP r c:=by
 unfold ptsP oneN oneP
 by_cases h:r=c
 · rw [if_pos h,if_pos h]
 · rw [if_neg h,if_neg h];decide
theorem float_self {x:Nat} (hx:x<18446744073709551616) (hn:nanB x=false):(FloatKind.f64.format.order x x != some .eq)=false:=by
 have e:=o_eq hx hx
 have q:eqB x x=true:=by unfold eqB;rw [hn,decide_eq_true rfl];rfl
 rw [q] at e
 show (!(FloatKind.f64.format.order x x==some .eq))=false
 rw [e]
 rfl
theorem new_says (A:Option Addr) (m H:Nat) (X:Nat→Nat×Nat) (hm:m≤9223372036854775807) (w:World) (V:Ivs w A m X) :
   Calls Tryz.prog 10 #[.slice A m H] w fun e w'=>(∃a1 l1 k1 a2 l2 k2 a3 l3 k3 er,e=.returned (.tuple #[.agg #[.slice a1 l1 k1,.slice a2 l2 k2,.slice a3 l3 k3],.int .i64 er])∧NewSays m X a1 l1 a2 l2 a3 l3 er w')∧Below w.heap.size w w':=by
 by_cases c:m<1∨24<m∨∃i,i<m∧hsB (X i).1 (X i).2=false
 · exact (lnew_no A m H X hm w V c).mono fun e w' ⟨a,b⟩=>⟨⟨_,_,_,_,_,_,_,_,_,_,a,Or.inl ⟨rfl,rfl,c⟩⟩,b⟩
 · have n1:1≤m:=by
     rcases Nat.lt_or_ge m 1 with q | q
     · exact absurd (Or.inl q) c
     · exact q
   have n2:m≤24:=by
     rcases Nat.lt_or_ge 24 m with q | q
     · exact absurd (Or.inr (Or.inl q)) c
     · exact q
   have hs:∀i,i<m→hsB (X i).1 (X i).2=true:=fun i hi=>by
     cases q:hsB (X i).1 (X i).2
     · exact absurd (Or.inr (Or.inr ⟨i,hi,q⟩)) c
     · rfl
   refine (lnew_w A m H X n1 n2 w V hs).mono fun e w' ⟨a,b⟩=>⟨?_,b⟩
   cases q:(List.range m).all (fun i=>bdB (X i))
   · rw [q,if_neg (by simp)] at a
     exact⟨_,_,_,_,_,_,_,_,_,_,a,Or.inr (Or.inl ⟨rfl,n1,n2,hs,q⟩)⟩
   · rw [q,if_pos rfl] at a
     obtain⟨gc,ga,gr,h,k,e1,e2,e3,e4⟩:=a
     exact⟨_,_,_,_,_,_,_,_,_,_,e1,Or.inr (Or.inr ⟨rfl,n1,n2,all_upto.1 q,rfl,rfl,rfl,gc,ga,gr,h,k,rfl,rfl,rfl,e2,e3,e4⟩)⟩
set_option maxRecDepth 8000 in
set_option maxHeartbeats 32000000 in
theorem sets_core (A B R:Option Addr) (n C N D L E:Nat) (G:Option Addr) (m H:Nat) (X:Nat→Nat×Nat) (s b:Bool) (Q:Nat→Nat×Nat) (hm:m≤9223372036854775807) (w:World) (VX:Ivs w G m X)
   (c1:∀W,Below w.heap.size w W→Calls Tryz.prog 4 #[.agg #[.slice A n C,.slice B N D,.slice R L E]] W fun e w'=>e=.returned (.bool s)∧Below W.heap.size W w')
   (c2:∀W,Below w.heap.size w W→Calls Tryz.prog 5 #[.agg #[.slice A n C,.slice B N D,.slice R L E]] W fun e w'=>e=.returned (.bool s)∧Below W.heap.size W w')
   (c3:s=false→∀W,Below w.heap.size w W→Calls Tryz.prog 6 #[.agg #[.slice A n C,.slice B N D,.slice R L E]] W fun e w'=>e=.returned (.tuple #[.slice none 0 0,.int .i64 1])∧Below W.heap.size W w')
   (c4:s=true→∀W,Below w.heap.size w W→Calls Tryz.prog 6 #[.agg #[.slice A n C,.slice B N D,.slice R L E]] W fun e w'=>BoxAns b n Q e w'∧Below W.heap.size W w')
   (c5:s=true→∀W,Below w.heap.size w W→Calls Tryz.prog 8 #[.agg #[.slice A n C,.slice B N D,.slice R L E]] W fun e w'=>(∃g c,e=.returned (.slice (some ⟨g,0,none⟩) n c)∧Img w' g n Q)∧Below W.heap.size W w')
   (c7:s=true→∀W g c,Img W g n Q→Calls Tryz.prog 7 #[.slice (some ⟨g,0,none⟩) n c] W fun e w'=>e=.returned (.bool b)∧Below W.heap.size W w')
   (c8:s=true→∀W g g' c,Img W g n Q→Img W g' n Q→Calls Tryz.prog 9 #[.slice (some ⟨g,0,none⟩) n n,.slice (some ⟨g',0,none⟩) n c] W fun e w'=>e=.returned (.bool true)∧Below W.heap.size W w')
   (c6:∀W,Below w.heap.size w W→Calls Tryz.prog 10 #[.slice G m H] W fun e w'=>(∃a1 l1 k1 a2 l2 k2 a3 l3 k3 er,e=.returned (.tuple #[.agg #[.slice a1 l1 k1,.slice a2 l2 k2,.slice a3 l3 k3],.int .i64 er])∧NewSays m X a1 l1 a2 l2 a3 l3 er w')∧Below W.heap.size W w') :
   Calls Tryz.prog 3 #[.agg #[.slice A n C,.slice B N D,.slice R L E],.slice G m H] w fun e w'=>e=.returned (.bool true)∧Below w.heap.size w w':=by
 have S:Has3 (w.alloc (.cells #[.slice A n C,.slice B N D,.slice R L E] 26)) w.heap.size (.slice A n C) (.slice B N D) (.slice R L E):=set3_new _ _ _ _ _
 have HB:Below w.heap.size w (w.alloc (.cells #[.slice A n C,.slice B N D,.slice R L E] 26)):=by go_grown
 cases s
 · replace c3:=c3 rfl
   clear c4 c5 c7 c8
   go_enter Tryz.func3,Tryz.ntmps3
   go_upto_region 1 with fail
   generalize (w.alloc (.cells #[.slice A n C,.slice B N D,.slice R L E] 26))=V1 at *
   obtain⟨s0,s1,s2,s3,s4,s5,s6⟩:=id S
   have d1:=fun q:Behind V1=>c1 q.W (later HB q.bel)
   have d2:=fun q:Behind V1=>c2 q.W (later HB q.bel)
   have k0:=fun q:Behind V1=>q.cell s0 s6
   have k1:=fun q:Behind V1=>q.cell s1 s6
   have k2:=fun q:Behind V1=>q.cell s2 s6
   refine region_behind (by kernel_rfl) (by kernel_rfl) ?_
   repeat (go_big_quiet_step (first
     | (go_at_call 4;with_reducible refine Behind.call (d1 _))
     | (go_at_call 5;with_reducible refine Behind.call (d2 _))))
   refine wpQuiet_nil ?_
   rintro _ ⟨q,rfl⟩
   obtain⟨W,hb1⟩:=q
   dsimp only
   replace HB:=later HB hb1;replace S:=S.keep hb1
   clear hb1 d1 d2 k0 k1 k2 s0 s1 s2 s3 s4 s5 s6
   obtain⟨s0,s1,s2,s3,s4,s5,s6⟩:=id S
   go_upto_region 12 with (first
     | (go_at_call 6;(with_reducible refine (c3 _ HB).mono ?_);rintro _ W1 ⟨rfl,hb1⟩;replace HB:=later HB hb1;replace S:=S.keep hb1;clear hb1 s0 s1 s2 s3 s4 s5 s6;obtain⟨s0,s1,s2,s3,s4,s5,s6⟩:=id S)
     | (go_at_call 5;(with_reducible refine (c2 _ HB).mono ?_);rintro _ W2 ⟨rfl,hb1⟩;replace HB:=later HB hb1;replace S:=S.keep hb1;clear hb1 s0 s1 s2 s3 s4 s5 s6;obtain⟨s0,s1,s2,s3,s4,s5,s6⟩:=id S))
   clear s0 s1 s2 s3 s4 s5 s6 S c1 c2
   go_upto_region 13 with (go_at_call 10;(with_reducible refine (c6 _ HB).mono ?_);rintro _ W6 ⟨⟨a1,l1,k1,a2,l2,k2,a3,l3,k3,er,rfl,says⟩,hb1⟩;replace HB:=later HB hb1;clear hb1)
   have T:=set3_new W6 (.slice a1 l1 k1) (.slice a2 l2 k2) (.slice a3 l3 k3) 26
   have hbT:Below W6.heap.size W6 (W6.alloc (.cells #[.slice a1 l1 k1,.slice a2 l2 k2,.slice a3 l3 k3] 26)):=by go_grown
   have HB7:=later HB hbT
   replace says:=says.keep hbT
   clear HB hbT c6
   generalize (W6.alloc (.cells #[.slice a1 l1 k1,.slice a2 l2 k2,.slice a3 l3 k3] 26))=W7 at *
   generalize W6.heap.size=tb at *
   rcases says with ⟨rfl,rfl,hbad⟩ | ⟨rfl,n1,n2,hs,hq⟩ | ⟨rfl,n1,n2,hbd,rfl,rfl,rfl,gc,ga,gr,h,k,rfl,rfl,rfl,O,Gr,J⟩
   · replace hbad:Hid (m<1∨24<m∨∃i,i<m∧hsB (X i).1 (X i).2=false):=hbad
     go_wp2_with fail
     go_loopg [57] m (fun G s57 wx=>Below W7.heap.size W7 wx∧∃i:Nat,i+G=m∧s57=.int .i64 (i:Int)∧Hid (∀j,j<i→hsB (X j).1 (X j).2=true))
     case atStart=>exact⟨Below.refl _ _,0,by omega,rfl,fun j hj=>absurd hj (by omega)⟩
     case round =>
       obtain⟨HB2,i,hi,rfl,hall⟩:=hrel
       have HB:=later HB7 HB2
       have T2:=T.keep HB2
       obtain⟨t0,t1,t2,t3,t4,t5,t6⟩:=id T2
       by_cases ci:i=m
       · subst ci
         by_cases c1:i<1
         · have e1:(i:Int)<1:=by omega
           go_wp2_with fail
           go_ret
           exact⟨rfl,HB⟩
         · have e1:¬(i:Int)<1:=by omega
           have c2:24<i:=by
             rcases hbad with q | q | ⟨j,hj,q⟩
             · exact absurd q c1
             · exact q
             · rw [hall j hj] at q;cases q
           have e2:(24:Int)<(i:Int):=by omega
           go_wp2_with fail
           go_ret
           exact⟨rfl,HB⟩
       · have hlt:(i:Int)<(m:Int):=by omega
         obtain⟨b',o',hA',hb',x0,x1,lx0,lx1⟩:=(VX.keep HB) i (by omega)
         have cn:=fun w=>none_w (X i).1 (X i).2 lx0 lx1 w
         subst hA'
         cases hq:hsB (X i).1 (X i).2
         · rw [hq] at cn
           simp only [Bool.not_false] at cn
           clear hq
           go_wp2_with (go_at_call 11;(with_reducible refine (cn _).mono ?_);rintro _ W8 ⟨rfl,hb1⟩;replace HB:=later (below_alloc HB _) hb1;replace T2:=(T2.keep (below_alloc (Below.refl _ _) _)).keep hb1;clear t0 t1 t2 t3 t4 t5 t6;obtain⟨t0,t1,t2,t3,t4,t5,t6⟩:=id T2)
           go_ret
           exact⟨rfl,HB⟩
         · rw [hq] at cn
           simp only [Bool.not_true] at cn
           replace hq:Hid (hsB (X i).1 (X i).2=true):=hq
           go_wp2_with (go_at_call 11;(with_reducible refine (cn _).mono ?_);rintro _ W8 ⟨rfl,hb1⟩;replace HB2:=later (below_alloc HB2 _) hb1)
           go_roundg (m-i-1)
           case measure=>omega
           case rel=>exact⟨HB2,i+1,by omega,by go_num,fun j hj=>by rcases Nat.lt_or_ge j i with h' | h';exact hall j h';rw [show j=i by omega];exact hq⟩
   · replace hs:Hid (∀i,i<m→hsB (X i).1 (X i).2=true):=hs
     replace hq:Hid ((List.range m).all (fun i=>bdB (X i))=false):=hq
     go_wp2_with fail
     go_loopg [57] m (fun G s57 wx=>Below W7.heap.size W7 wx∧∃i:Nat,i+G=m∧s57=.int .i64 (i:Int)∧Hid (∀j,j<i→hsB (X j).1 (X j).2=true))
     case atStart=>exact⟨Below.refl _ _,0,by omega,rfl,fun j hj=>absurd hj (by omega)⟩
     case round =>
       obtain⟨HB2,i,hi,rfl,hall⟩:=hrel
       have HB:=later HB7 HB2
       have T2:=T.keep HB2
       obtain⟨t0,t1,t2,t3,t4,t5,t6⟩:=id T2
       by_cases ci:i=m
       · subst ci
         have e1:¬(i:Int)<1:=by omega
         have e2:¬(24:Int)<(i:Int):=by omega
         have cb:=lbounded_w G i H X hm wr (VX.keep HB)
         rw [show (List.range i).all (fun i=>bdB (X i))=false from hq] at cb
         clear hq
         go_wp2_with (go_at_call 7;(with_reducible refine cb.mono ?_);rintro _ W8 ⟨rfl,hb1⟩;replace HB:=later HB hb1)
         go_ret
         exact⟨rfl,HB⟩
       · have hlt:(i:Int)<(m:Int):=by omega
         obtain⟨b',o',hA',hb',x0,x1,lx0,lx1⟩:=(VX.keep HB) i (by omega)
         have cn:=fun w=>none_w (X i).1 (X i).2 lx0 lx1 w
         subst hA'
         have hq:=hs i (by omega)
         skip
         · rw [hq] at cn
           simp only [Bool.not_true] at cn
           replace hq:Hid (hsB (X i).1 (X i).2=true):=hq
           go_wp2_with (go_at_call 11;(with_reducible refine (cn _).mono ?_);rintro _ W8 ⟨rfl,hb1⟩;replace HB2:=later (below_alloc HB2 _) hb1)
           go_roundg (m-i-1)
           case measure=>omega
           case rel=>exact⟨HB2,i+1,by omega,by go_num,fun j hj=>by rcases Nat.lt_or_ge j i with h' | h';exact hall j h';rw [show j=i by omega];exact hq⟩
   · have hs:Hid (∀i,i<m→hsB (X i).1 (X i).2=true):=fun i hi=>bd_hs (hbd i hi)
     replace hbd:Hid (∀i,i<m→bdB (X i)=true):=hbd
     go_wp2_with fail
     go_loopg [57] m (fun G s57 wx=>Below W7.heap.size W7 wx∧∃i:Nat,i+G=m∧s57=.int .i64 (i:Int)∧Hid (∀j,j<i→hsB (X j).1 (X j).2=true))
     case atStart=>exact⟨Below.refl _ _,0,by omega,rfl,fun j hj=>absurd hj (by omega)⟩
     case round =>
       obtain⟨HB2,i,hi,rfl,hall⟩:=hrel
       have HB:=later HB7 HB2
       have T2:=T.keep HB2
       obtain⟨t0,t1,t2,t3,t4,t5,t6⟩:=id T2
       by_cases ci:i=m
       · subst ci
         have e1:¬(i:Int)<1:=by omega
         have e2:¬(24:Int)<(i:Int):=by omega
         have cb:=lbounded_w G i H X hm wr (VX.keep HB)
         rw [all_upto.2 (show ∀j,j<i→bdB (X j)=true from hbd)] at cb
         go_wp2_with (go_at_call 7;(with_reducible refine cb.mono ?_);rintro _ W8 ⟨rfl,hb1⟩;replace HB2:=later HB2 hb1)
         clear t0 t1 t2 t3 t4 t5 t6 T2 cb HB hb1
         go_loopg [89] i (fun G s89 wx=>Below W7.heap.size W7 wx∧∃j:Nat,j+G=i∧s89=.int .i64 (j:Int))
         case atStart=>exact⟨HB2,0,by omega,rfl⟩
         case round =>
           clear HB2
           obtain⟨HB2,j,hj,rfl⟩:=hrel
           have HB:=later HB7 HB2
           have T2:=T.keep HB2
           obtain⟨t0,t1,t2,t3,t4,t5,t6⟩:=id T2
           by_cases cj:j=i
           · subst cj
             have cp:=rPoints_any (some ⟨ga,0,none⟩) j k2 _ _ _ oneN (by omega) wr ((Gr.keep HB2).rfs (by omega) fun r _ c _=>oneN_lt r c)
             simp only [one_flt n1 n2,if_true] at cp
             have co:=fun w=>rOne_rws j n2 w
             go_wp2_with (first
               | (go_at_call 18;(with_reducible refine cp.mono ?_);rintro _ Wa ⟨Ba,Da,SAa,SCa,rfl,Ua,hb1⟩;replace HB:=later HB hb1;clear hb1)
               | (go_at_call 19;(with_reducible refine (co _).mono ?_);rintro _ Wb ⟨Bb,Db,SAb,SCb,rfl,Ub,hb1⟩;replace HB:=later HB hb1;replace Ua:=Ua.keep hb1;clear hb1)
               | (go_at_call 17;(with_reducible refine (rsameA_w _ _ j _ _ _ _ _ _ _ _ _ _ hm (fun _ _=>rfl) (fun r _ c _=>pts_one r c) _ Ua Ub).mono ?_);rintro _ Wc ⟨rfl,hb1⟩;replace HB:=later HB hb1;clear hb1))
             go_ret
             exact⟨rfl,HB⟩
           · have hlt:(j:Int)<(i:Int):=by omega
             obtain⟨b',o',hA',hb',x0,x1,lx0,lx1⟩:=(VX.keep HB) j (by omega)
             have bj:bdB (X j)=true:=hbd j (by omega)
             obtain⟨wm,fm, -, -⟩:=middle_facts lx0 lx1 bj
             obtain⟨lb,lq0,lq1⟩:=left_bd lx0 lx1 bj
             have cm:=fun w=>rMid_w (X j).1 (X j).2 lx0 lx1 w
             have ck:=fun w=>rmake_w (midP (X j).1 (X j).2) (midP (X j).1 (X j).2) wm wm w
             have lk:=makeP_lt wm wm
             have cs:∀w,Calls Tryz.prog 13 #[.agg #[.float .f64 (X j).1,.float .f64 (X j).2],.agg #[.float .f64 (makeP (midP (X j).1 (X j).2) (midP (X j).1 (X j).2)).1,.float .f64 (makeP (midP (X j).1 (X j).2) (midP (X j).1 (X j).2)).2]] w fun e w'=>e=.returned (.agg #[.float .f64 (leftQ (X j)).1,.float .f64 (leftQ (X j)).2])∧Below w.heap.size w w':=fun w=>rSub_w (X j).1 (X j).2 _ _ lx0 lx1 lk.1 lk.2 w
             have cr:=fun w=>rbd_w (v:=leftQ (X j)) lq0 lq1 w
             rw [lb] at cr
             have ce:=fun w=>rsame_self (leftQ (X j)).1 (leftQ (X j)).2 lq0 lq1 w
             have hne:(FloatKind.f64.format.order (midP (X j).1 (X j).2) (midP (X j).1 (X j).2) != some .eq)=false:=float_self wm (fin_not_nan fm)
             clear lk bj lb fm
             subst hA'
             go_upto_region 26 with fail
             have D:=has2_new wr (.float .f64 (X j).1) (.float .f64 (X j).2) 38
             have hb0:Below wr.heap.size wr (wr.alloc (.cells #[.float .f64 (X j).1,.float .f64 (X j).2] 38)):=by go_grown
             replace HB2:=later HB2 hb0
             clear hb0 x0 x1 t0 t1 t2 t3 t4 t5 t6 T2
             generalize (wr.alloc (.cells #[.float .f64 (X j).1,.float .f64 (X j).2] 38))=V2 at *
             generalize wr.heap.size=xb at *
             obtain⟨d0,d1,d2,d3,d4⟩:=id D
             go_upto_region 27 with (go_at_call 12;(with_reducible refine (cm _).mono ?_);rintro _ V3 ⟨rfl,hb1⟩;replace HB2:=later HB2 hb1;replace D:=D.keep hb1;clear hb1 d0 d1 d2 d3 d4)
             apply tail_alloc1 5 (by kernel_rfl) (by kernel_rfl) rfl
             · intro Wq hWq
               have D1:=D.keep hWq
               have k0:=fun q:Behind Wq=>q.cell D1.1 D1.2.2.2.2
               have k1:=fun q:Behind Wq=>q.cell D1.2.1 D1.2.2.2.2
               simp only [List.take_succ_cons,List.take_zero]
               repeat (go_big_quiet_step (first
                 | (go_at_call 14;with_reducible refine Behind.call (ck _))
                 | (go_at_call 13;with_reducible refine Behind.call (cs _))))
               exact wpQuiet_nil rfl
             intro rb V4 hrb Bx hb1
             have hV7:W7.heap.size≤rb:=Nat.le_trans HB2.size hrb
             replace HB2:=later HB2 hb1
             clear hb1 D hrb cm ck cs
             have Dr:=Bx.put (.float .f64 (leftQ (X j)).1) (.float .f64 (leftQ (X j)).2)
             replace HB2:=(HB2.setCell (p:=⟨rb,0,none⟩) hV7 (.float .f64 (leftQ (X j)).1)).setCell (p:=⟨rb,1,none⟩) hV7 (.float .f64 (leftQ (X j)).2)
             obtain⟨f0,f1,f2,f3,f4⟩:=id Bx
             simp only [List.drop_succ_cons,List.drop_zero,Act.put,List.setIfInBounds_toArray,List.set_cons_succ,List.set_cons_zero]
             go_upto_region 28 with fail
             clear f0 f1 f2 f3 f4 Bx
             generalize ((V4.setCell ⟨rb,0,none⟩ (.float .f64 (leftQ (X j)).1)).setCell ⟨rb,1,none⟩ (.float .f64 (leftQ (X j)).2))=V5 at *
             obtain⟨f0,f1,f2,f3,f4⟩:=id Dr
             go_upto_region 30 with (go_at_call 15;(with_reducible refine (cr _).mono ?_);rintro _ V6 ⟨rfl,hb1⟩;replace HB2:=later HB2 hb1;replace Dr:=Dr.keep hb1;clear hb1 f0 f1 f2 f3 f4)
             obtain⟨f0,f1,f2,f3,f4⟩:=id Dr
             have T3:=T.keep HB2
             obtain⟨t0,t1,t2,t3,t4,t5,t6⟩:=id T3
             have O3:=O.keep HB2
             have J3:=J.keep HB2
             obtain⟨o0, -⟩:=O3.2 j (by omega)
             obtain⟨i0,i1, -, -⟩:=J3.2 j (by omega)
             have k0:=fun q:Behind V6=>q.cell f0 f4
             have k1:=fun q:Behind V6=>q.cell f1 f4
             have k2':=fun q:Behind V6=>q.cell t0 t6
             have k3':=fun q:Behind V6=>q.cell t2 t6
             have k4:=fun q:Behind V6=>q.cell o0 O3.1
             have k5:=fun q:Behind V6=>q.cell i0 J3.1
             have k6:=fun q:Behind V6=>q.cell i1 J3.1
             refine region_behind (by kernel_rfl) (by kernel_rfl) ?_
             repeat (go_big_quiet_step (first
               | (go_at_call 16;with_reducible refine Behind.call (ce _))))
             refine wpQuiet_nil ?_
             rintro _ ⟨q,rfl⟩
             obtain⟨V8,hb1⟩:=q
             dsimp only
             replace HB2:=later HB2 hb1
             clear hb1 k0 k1 k2' k3' k4 k5 k6
             go_wp2_with fail
             go_roundg (i-j-1)
             case measure=>omega
             case rel=>exact⟨HB2,j+1,by omega,by go_num⟩
       · have hlt:(i:Int)<(m:Int):=by omega
         obtain⟨b',o',hA',hb',x0,x1,lx0,lx1⟩:=(VX.keep HB) i (by omega)
         have cn:=fun w=>none_w (X i).1 (X i).2 lx0 lx1 w
         subst hA'
         have hq:=hs i (by omega)
         skip
         · rw [hq] at cn
           simp only [Bool.not_true] at cn
           replace hq:Hid (hsB (X i).1 (X i).2=true):=hq
           go_wp2_with (go_at_call 11;(with_reducible refine (cn _).mono ?_);rintro _ W8 ⟨rfl,hb1⟩;replace HB2:=later (below_alloc HB2 _) hb1)
           go_roundg (m-i-1)
           case measure=>omega
           case rel=>exact⟨HB2,i+1,by omega,by go_num,fun j hj=>by rcases Nat.lt_or_ge j i with h' | h';exact hall j h';rw [show j=i by omega];exact hq⟩
 · replace c4:=c4 rfl
   replace c5:=c5 rfl
   replace c7:=c7 rfl
   replace c8:=c8 rfl
   clear c3
   unfold BoxAns at c4
   cases b
   · simp only [Bool.false_eq_true,if_false] at c4
     clear c8
     go_enter Tryz.func3,Tryz.ntmps3
     go_upto_region 1 with fail
     generalize (w.alloc (.cells #[.slice A n C,.slice B N D,.slice R L E] 26))=V1 at *
     obtain⟨s0,s1,s2,s3,s4,s5,s6⟩:=id S
     have d1:=fun q:Behind V1=>c1 q.W (later HB q.bel)
     have d2:=fun q:Behind V1=>c2 q.W (later HB q.bel)
     have k0:=fun q:Behind V1=>q.cell s0 s6
     have k1:=fun q:Behind V1=>q.cell s1 s6
     have k2:=fun q:Behind V1=>q.cell s2 s6
     refine region_behind (by kernel_rfl) (by kernel_rfl) ?_
     repeat (go_big_quiet_step (first
       | (go_at_call 4;with_reducible refine Behind.call (d1 _))
       | (go_at_call 5;with_reducible refine Behind.call (d2 _))))
     refine wpQuiet_nil ?_
     rintro _ ⟨q,rfl⟩
     obtain⟨W,hb1⟩:=q
     dsimp only
     replace HB:=later HB hb1;replace S:=S.keep hb1
     clear hb1 d1 d2 k0 k1 k2 s0 s1 s2 s3 s4 s5 s6
     obtain⟨s0,s1,s2,s3,s4,s5,s6⟩:=id S
     go_upto_region 12 with (first
       | (go_at_call 6;(with_reducible refine (c4 _ HB).mono ?_);rintro _ W1 ⟨rfl,hb1⟩;replace HB:=later HB hb1;replace S:=S.keep hb1;clear hb1 s0 s1 s2 s3 s4 s5 s6;obtain⟨s0,s1,s2,s3,s4,s5,s6⟩:=id S)
       | (go_at_call 5;(with_reducible refine (c2 _ HB).mono ?_);rintro _ W2 ⟨rfl,hb1⟩;replace HB:=later HB hb1;replace S:=S.keep hb1;clear hb1 s0 s1 s2 s3 s4 s5 s6;obtain⟨s0,s1,s2,s3,s4,s5,s6⟩:=id S)
       | (go_at_call 8;(with_reducible refine (c5 _ HB).mono ?_);rintro _ W3 ⟨⟨g3,q3,rfl,I3⟩,hb1⟩;replace HB:=later HB hb1;replace S:=S.keep hb1;clear hb1 s0 s1 s2 s3 s4 s5 s6;obtain⟨s0,s1,s2,s3,s4,s5,s6⟩:=id S)
       | (go_at_call 7;(with_reducible refine (c7 _ _ _ I3).mono ?_);rintro _ W4 ⟨rfl,hb1⟩;replace HB:=later HB hb1;replace S:=S.keep hb1;clear hb1 s0 s1 s2 s3 s4 s5 s6;obtain⟨s0,s1,s2,s3,s4,s5,s6⟩:=id S))
     clear s0 s1 s2 s3 s4 s5 s6 S c1 c2
     go_upto_region 13 with (go_at_call 10;(with_reducible refine (c6 _ HB).mono ?_);rintro _ W6 ⟨⟨a1,l1,k1,a2,l2,k2,a3,l3,k3,er,rfl,says⟩,hb1⟩;replace HB:=later HB hb1;clear hb1)
     have T:=set3_new W6 (.slice a1 l1 k1) (.slice a2 l2 k2) (.slice a3 l3 k3) 26
     have hbT:Below W6.heap.size W6 (W6.alloc (.cells #[.slice a1 l1 k1,.slice a2 l2 k2,.slice a3 l3 k3] 26)):=by go_grown
     have HB7:=later HB hbT
     replace says:=says.keep hbT
     clear HB hbT c6
     generalize (W6.alloc (.cells #[.slice a1 l1 k1,.slice a2 l2 k2,.slice a3 l3 k3] 26))=W7 at *
     generalize W6.heap.size=tb at *
     rcases says with ⟨rfl,rfl,hbad⟩ | ⟨rfl,n1,n2,hs,hq⟩ | ⟨rfl,n1,n2,hbd,rfl,rfl,rfl,gc,ga,gr,h,k,rfl,rfl,rfl,O,Gr,J⟩
     · replace hbad:Hid (m<1∨24<m∨∃i,i<m∧hsB (X i).1 (X i).2=false):=hbad
       go_wp2_with fail
       go_loopg [57] m (fun G s57 wx=>Below W7.heap.size W7 wx∧∃i:Nat,i+G=m∧s57=.int .i64 (i:Int)∧Hid (∀j,j<i→hsB (X j).1 (X j).2=true))
       case atStart=>exact⟨Below.refl _ _,0,by omega,rfl,fun j hj=>absurd hj (by omega)⟩
       case round =>
         obtain⟨HB2,i,hi,rfl,hall⟩:=hrel
         have HB:=later HB7 HB2
         have T2:=T.keep HB2
         obtain⟨t0,t1,t2,t3,t4,t5,t6⟩:=id T2
         by_cases ci:i=m
         · subst ci
           by_cases c1:i<1
           · have e1:(i:Int)<1:=by omega
             go_wp2_with fail
             go_ret
             exact⟨rfl,HB⟩
           · have e1:¬(i:Int)<1:=by omega
             have c2:24<i:=by
               rcases hbad with q | q | ⟨j,hj,q⟩
               · exact absurd q c1
               · exact q
               · rw [hall j hj] at q;cases q
             have e2:(24:Int)<(i:Int):=by omega
             go_wp2_with fail
             go_ret
             exact⟨rfl,HB⟩
         · have hlt:(i:Int)<(m:Int):=by omega
           obtain⟨b',o',hA',hb',x0,x1,lx0,lx1⟩:=(VX.keep HB) i (by omega)
           have cn:=fun w=>none_w (X i).1 (X i).2 lx0 lx1 w
           subst hA'
           cases hq:hsB (X i).1 (X i).2
           · rw [hq] at cn
             simp only [Bool.not_false] at cn
             clear hq
             go_wp2_with (go_at_call 11;(with_reducible refine (cn _).mono ?_);rintro _ W8 ⟨rfl,hb1⟩;replace HB:=later (below_alloc HB _) hb1;replace T2:=(T2.keep (below_alloc (Below.refl _ _) _)).keep hb1;clear t0 t1 t2 t3 t4 t5 t6;obtain⟨t0,t1,t2,t3,t4,t5,t6⟩:=id T2)
             go_ret
             exact⟨rfl,HB⟩
           · rw [hq] at cn
             simp only [Bool.not_true] at cn
             replace hq:Hid (hsB (X i).1 (X i).2=true):=hq
             go_wp2_with (go_at_call 11;(with_reducible refine (cn _).mono ?_);rintro _ W8 ⟨rfl,hb1⟩;replace HB2:=later (below_alloc HB2 _) hb1)
             go_roundg (m-i-1)
             case measure=>omega
             case rel=>exact⟨HB2,i+1,by omega,by go_num,fun j hj=>by rcases Nat.lt_or_ge j i with h' | h';exact hall j h';rw [show j=i by omega];exact hq⟩
     · replace hs:Hid (∀i,i<m→hsB (X i).1 (X i).2=true):=hs
       replace hq:Hid ((List.range m).all (fun i=>bdB (X i))=false):=hq
       go_wp2_with fail
       go_loopg [57] m (fun G s57 wx=>Below W7.heap.size W7 wx∧∃i:Nat,i+G=m∧s57=.int .i64 (i:Int)∧Hid (∀j,j<i→hsB (X j).1 (X j).2=true))
       case atStart=>exact⟨Below.refl _ _,0,by omega,rfl,fun j hj=>absurd hj (by omega)⟩
       case round =>
         obtain⟨HB2,i,hi,rfl,hall⟩:=hrel
         have HB:=later HB7 HB2
         have T2:=T.keep HB2
         obtain⟨t0,t1,t2,t3,t4,t5,t6⟩:=id T2
         by_cases ci:i=m
         · subst ci
           have e1:¬(i:Int)<1:=by omega
           have e2:¬(24:Int)<(i:Int):=by omega
           have cb:=lbounded_w G i H X hm wr (VX.keep HB)
           rw [show (List.range i).all (fun i=>bdB (X i))=false from hq] at cb
           clear hq
           go_wp2_with (go_at_call 7;(with_reducible refine cb.mono ?_);rintro _ W8 ⟨rfl,hb1⟩;replace HB:=later HB hb1)
           go_ret
           exact⟨rfl,HB⟩
         · have hlt:(i:Int)<(m:Int):=by omega
           obtain⟨b',o',hA',hb',x0,x1,lx0,lx1⟩:=(VX.keep HB) i (by omega)
           have cn:=fun w=>none_w (X i).1 (X i).2 lx0 lx1 w
           subst hA'
           have hq:=hs i (by omega)
           skip
           · rw [hq] at cn
             simp only [Bool.not_true] at cn
             replace hq:Hid (hsB (X i).1 (X i).2=true):=hq
             go_wp2_with (go_at_call 11;(with_reducible refine (cn _).mono ?_);rintro _ W8 ⟨rfl,hb1⟩;replace HB2:=later (below_alloc HB2 _) hb1)
             go_roundg (m-i-1)
             case measure=>omega
             case rel=>exact⟨HB2,i+1,by omega,by go_num,fun j hj=>by rcases Nat.lt_or_ge j i with h' | h';exact hall j h';rw [show j=i by omega];exact hq⟩
     · have hs:Hid (∀i,i<m→hsB (X i).1 (X i).2=true):=fun i hi=>bd_hs (hbd i hi)
       replace hbd:Hid (∀i,i<m→bdB (X i)=true):=hbd
       go_wp2_with fail
       go_loopg [57] m (fun G s57 wx=>Below W7.heap.size W7 wx∧∃i:Nat,i+G=m∧s57=.int .i64 (i:Int)∧Hid (∀j,j<i→hsB (X j).1 (X j).2=true))
       case atStart=>exact⟨Below.refl _ _,0,by omega,rfl,fun j hj=>absurd hj (by omega)⟩
       case round =>
         obtain⟨HB2,i,hi,rfl,hall⟩:=hrel
         have HB:=later HB7 HB2
         have T2:=T.keep HB2
         obtain⟨t0,t1,t2,t3,t4,t5,t6⟩:=id T2
         by_cases ci:i=m
         · subst ci
           have e1:¬(i:Int)<1:=by omega
           have e2:¬(24:Int)<(i:Int):=by omega
           have cb:=lbounded_w G i H X hm wr (VX.keep HB)
           rw [all_upto.2 (show ∀j,j<i→bdB (X j)=true from hbd)] at cb
           go_wp2_with (go_at_call 7;(with_reducible refine cb.mono ?_);rintro _ W8 ⟨rfl,hb1⟩;replace HB2:=later HB2 hb1)
           clear t0 t1 t2 t3 t4 t5 t6 T2 cb HB hb1
           go_loopg [89] i (fun G s89 wx=>Below W7.heap.size W7 wx∧∃j:Nat,j+G=i∧s89=.int .i64 (j:Int))
           case atStart=>exact⟨HB2,0,by omega,rfl⟩
           case round =>
             clear HB2
             obtain⟨HB2,j,hj,rfl⟩:=hrel
             have HB:=later HB7 HB2
             have T2:=T.keep HB2
             obtain⟨t0,t1,t2,t3,t4,t5,t6⟩:=id T2
             by_cases cj:j=i
             · subst cj
               have cp:=rPoints_any (some ⟨ga,0,none⟩) j k2 _ _ _ oneN (by omega) wr ((Gr.keep HB2).rfs (by omega) fun r _ c _=>oneN_lt r c)
               simp only [one_flt n1 n2,if_true] at cp
               have co:=fun w=>rOne_rws j n2 w
               go_wp2_with (first
                 | (go_at_call 18;(with_reducible refine cp.mono ?_);rintro _ Wa ⟨Ba,Da,SAa,SCa,rfl,Ua,hb1⟩;replace HB:=later HB hb1;clear hb1)
                 | (go_at_call 19;(with_reducible refine (co _).mono ?_);rintro _ Wb ⟨Bb,Db,SAb,SCb,rfl,Ub,hb1⟩;replace HB:=later HB hb1;replace Ua:=Ua.keep hb1;clear hb1)
                 | (go_at_call 17;(with_reducible refine (rsameA_w _ _ j _ _ _ _ _ _ _ _ _ _ hm (fun _ _=>rfl) (fun r _ c _=>pts_one r c) _ Ua Ub).mono ?_);rintro _ Wc ⟨rfl,hb1⟩;replace HB:=later HB hb1;clear hb1))
               go_ret
               exact⟨rfl,HB⟩
             · have hlt:(j:Int)<(i:Int):=by omega
               obtain⟨b',o',hA',hb',x0,x1,lx0,lx1⟩:=(VX.keep HB) j (by omega)
               have bj:bdB (X j)=true:=hbd j (by omega)
               obtain⟨wm,fm, -, -⟩:=middle_facts lx0 lx1 bj
               obtain⟨lb,lq0,lq1⟩:=left_bd lx0 lx1 bj
               have cm:=fun w=>rMid_w (X j).1 (X j).2 lx0 lx1 w
               have ck:=fun w=>rmake_w (midP (X j).1 (X j).2) (midP (X j).1 (X j).2) wm wm w
               have lk:=makeP_lt wm wm
               have cs:∀w,Calls Tryz.prog 13 #[.agg #[.float .f64 (X j).1,.float .f64 (X j).2],.agg #[.float .f64 (makeP (midP (X j).1 (X j).2) (midP (X j).1 (X j).2)).1,.float .f64 (makeP (midP (X j).1 (X j).2) (midP (X j).1 (X j).2)).2]] w fun e w'=>e=.returned (.agg #[.float .f64 (leftQ (X j)).1,.float .f64 (leftQ (X j)).2])∧Below w.heap.size w w':=fun w=>rSub_w (X j).1 (X j).2 _ _ lx0 lx1 lk.1 lk.2 w
               have cr:=fun w=>rbd_w (v:=leftQ (X j)) lq0 lq1 w
               rw [lb] at cr
               have ce:=fun w=>rsame_self (leftQ (X j)).1 (leftQ (X j)).2 lq0 lq1 w
               have hne:(FloatKind.f64.format.order (midP (X j).1 (X j).2) (midP (X j).1 (X j).2) != some .eq)=false:=float_self wm (fin_not_nan fm)
               clear lk bj lb fm
               subst hA'
               go_upto_region 26 with fail
               have D:=has2_new wr (.float .f64 (X j).1) (.float .f64 (X j).2) 38
               have hb0:Below wr.heap.size wr (wr.alloc (.cells #[.float .f64 (X j).1,.float .f64 (X j).2] 38)):=by go_grown
               replace HB2:=later HB2 hb0
               clear hb0 x0 x1 t0 t1 t2 t3 t4 t5 t6 T2
               generalize (wr.alloc (.cells #[.float .f64 (X j).1,.float .f64 (X j).2] 38))=V2 at *
               generalize wr.heap.size=xb at *
               obtain⟨d0,d1,d2,d3,d4⟩:=id D
               go_upto_region 27 with (go_at_call 12;(with_reducible refine (cm _).mono ?_);rintro _ V3 ⟨rfl,hb1⟩;replace HB2:=later HB2 hb1;replace D:=D.keep hb1;clear hb1 d0 d1 d2 d3 d4)
               apply tail_alloc1 5 (by kernel_rfl) (by kernel_rfl) rfl
               · intro Wq hWq
                 have D1:=D.keep hWq
                 have k0:=fun q:Behind Wq=>q.cell D1.1 D1.2.2.2.2
                 have k1:=fun q:Behind Wq=>q.cell D1.2.1 D1.2.2.2.2
                 simp only [List.take_succ_cons,List.take_zero]
                 repeat (go_big_quiet_step (first
                   | (go_at_call 14;with_reducible refine Behind.call (ck _))
                   | (go_at_call 13;with_reducible refine Behind.call (cs _))))
                 exact wpQuiet_nil rfl
               intro rb V4 hrb Bx hb1
               have hV7:W7.heap.size≤rb:=Nat.le_trans HB2.size hrb
               replace HB2:=later HB2 hb1
               clear hb1 D hrb cm ck cs
               have Dr:=Bx.put (.float .f64 (leftQ (X j)).1) (.float .f64 (leftQ (X j)).2)
               replace HB2:=(HB2.setCell (p:=⟨rb,0,none⟩) hV7 (.float .f64 (leftQ (X j)).1)).setCell (p:=⟨rb,1,none⟩) hV7 (.float .f64 (leftQ (X j)).2)
               obtain⟨f0,f1,f2,f3,f4⟩:=id Bx
               simp only [List.drop_succ_cons,List.drop_zero,Act.put,List.setIfInBounds_toArray,List.set_cons_succ,List.set_cons_zero]
               go_upto_region 28 with fail
               clear f0 f1 f2 f3 f4 Bx
               generalize ((V4.setCell ⟨rb,0,none⟩ (.float .f64 (leftQ (X j)).1)).setCell ⟨rb,1,none⟩ (.float .f64 (leftQ (X j)).2))=V5 at *
               obtain⟨f0,f1,f2,f3,f4⟩:=id Dr
               go_upto_region 30 with (go_at_call 15;(with_reducible refine (cr _).mono ?_);rintro _ V6 ⟨rfl,hb1⟩;replace HB2:=later HB2 hb1;replace Dr:=Dr.keep hb1;clear hb1 f0 f1 f2 f3 f4)
               obtain⟨f0,f1,f2,f3,f4⟩:=id Dr
               have T3:=T.keep HB2
               obtain⟨t0,t1,t2,t3,t4,t5,t6⟩:=id T3
               have O3:=O.keep HB2
               have J3:=J.keep HB2
               obtain⟨o0, -⟩:=O3.2 j (by omega)
               obtain⟨i0,i1, -, -⟩:=J3.2 j (by omega)
               have k0:=fun q:Behind V6=>q.cell f0 f4
               have k1:=fun q:Behind V6=>q.cell f1 f4
               have k2':=fun q:Behind V6=>q.cell t0 t6
               have k3':=fun q:Behind V6=>q.cell t2 t6
               have k4:=fun q:Behind V6=>q.cell o0 O3.1
               have k5:=fun q:Behind V6=>q.cell i0 J3.1
               have k6:=fun q:Behind V6=>q.cell i1 J3.1
               refine region_behind (by kernel_rfl) (by kernel_rfl) ?_
               repeat (go_big_quiet_step (first
                 | (go_at_call 16;with_reducible refine Behind.call (ce _))))
               refine wpQuiet_nil ?_
               rintro _ ⟨q,rfl⟩
               obtain⟨V8,hb1⟩:=q
               dsimp only
               replace HB2:=later HB2 hb1
               clear hb1 k0 k1 k2' k3' k4 k5 k6
               go_wp2_with fail
               go_roundg (i-j-1)
               case measure=>omega
               case rel=>exact⟨HB2,j+1,by omega,by go_num⟩
         · have hlt:(i:Int)<(m:Int):=by omega
           obtain⟨b',o',hA',hb',x0,x1,lx0,lx1⟩:=(VX.keep HB) i (by omega)
           have cn:=fun w=>none_w (X i).1 (X i).2 lx0 lx1 w
           subst hA'
           have hq:=hs i (by omega)
           skip
           · rw [hq] at cn
             simp only [Bool.not_true] at cn
             replace hq:Hid (hsB (X i).1 (X i).2=true):=hq
             go_wp2_with (go_at_call 11;(with_reducible refine (cn _).mono ?_);rintro _ W8 ⟨rfl,hb1⟩;replace HB2:=later (below_alloc HB2 _) hb1)
             go_roundg (m-i-1)
             case measure=>omega
             case rel=>exact⟨HB2,i+1,by omega,by go_num,fun j hj=>by rcases Nat.lt_or_ge j i with h' | h';exact hall j h';rw [show j=i by omega];exact hq⟩
   · simp only [if_true] at c4
     go_enter Tryz.func3,Tryz.ntmps3
     go_upto_region 1 with fail
     generalize (w.alloc (.cells #[.slice A n C,.slice B N D,.slice R L E] 26))=V1 at *
     obtain⟨s0,s1,s2,s3,s4,s5,s6⟩:=id S
     have d1:=fun q:Behind V1=>c1 q.W (later HB q.bel)
     have d2:=fun q:Behind V1=>c2 q.W (later HB q.bel)
     have k0:=fun q:Behind V1=>q.cell s0 s6
     have k1:=fun q:Behind V1=>q.cell s1 s6
     have k2:=fun q:Behind V1=>q.cell s2 s6
     refine region_behind (by kernel_rfl) (by kernel_rfl) ?_
     repeat (go_big_quiet_step (first
       | (go_at_call 4;with_reducible refine Behind.call (d1 _))
       | (go_at_call 5;with_reducible refine Behind.call (d2 _))))
     refine wpQuiet_nil ?_
     rintro _ ⟨q,rfl⟩
     obtain⟨W,hb1⟩:=q
     dsimp only
     replace HB:=later HB hb1;replace S:=S.keep hb1
     clear hb1 d1 d2 k0 k1 k2 s0 s1 s2 s3 s4 s5 s6
     obtain⟨s0,s1,s2,s3,s4,s5,s6⟩:=id S
     go_upto_region 12 with (first
       | (go_at_call 6;(with_reducible refine (c4 _ HB).mono ?_);rintro _ W1 ⟨⟨g1,rfl,I1⟩,hb1⟩;replace HB:=later HB hb1;replace S:=S.keep hb1;clear hb1 s0 s1 s2 s3 s4 s5 s6;obtain⟨s0,s1,s2,s3,s4,s5,s6⟩:=id S)
       | (go_at_call 5;(with_reducible refine (c2 _ HB).mono ?_);rintro _ W2 ⟨rfl,hb1⟩;replace I1:=I1.keep hb1;replace HB:=later HB hb1;replace S:=S.keep hb1;clear hb1 s0 s1 s2 s3 s4 s5 s6;obtain⟨s0,s1,s2,s3,s4,s5,s6⟩:=id S)
       | (go_at_call 8;(with_reducible refine (c5 _ HB).mono ?_);rintro _ W3 ⟨⟨g3,q3,rfl,I3⟩,hb1⟩;replace I1:=I1.keep hb1;replace HB:=later HB hb1;replace S:=S.keep hb1;clear hb1 s0 s1 s2 s3 s4 s5 s6;obtain⟨s0,s1,s2,s3,s4,s5,s6⟩:=id S)
       | (go_at_call 7;(with_reducible refine (c7 _ _ _ I3).mono ?_);rintro _ W4 ⟨rfl,hb1⟩;replace I1:=I1.keep hb1;replace HB:=later HB hb1;replace S:=S.keep hb1;clear hb1 s0 s1 s2 s3 s4 s5 s6;obtain⟨s0,s1,s2,s3,s4,s5,s6⟩:=id S)
       | (go_at_call 9;(with_reducible refine (c8 _ _ _ _ I1 I3).mono ?_);rintro _ W5 ⟨rfl,hb1⟩;replace HB:=later HB hb1;replace S:=S.keep hb1;clear hb1 s0 s1 s2 s3 s4 s5 s6;obtain⟨s0,s1,s2,s3,s4,s5,s6⟩:=id S))
     clear s0 s1 s2 s3 s4 s5 s6 S c1 c2
     go_upto_region 13 with (go_at_call 10;(with_reducible refine (c6 _ HB).mono ?_);rintro _ W6 ⟨⟨a1,l1,k1,a2,l2,k2,a3,l3,k3,er,rfl,says⟩,hb1⟩;replace HB:=later HB hb1;clear hb1)
     have T:=set3_new W6 (.slice a1 l1 k1) (.slice a2 l2 k2) (.slice a3 l3 k3) 26
     have hbT:Below W6.heap.size W6 (W6.alloc (.cells #[.slice a1 l1 k1,.slice a2 l2 k2,.slice a3 l3 k3] 26)):=by go_grown
     have HB7:=later HB hbT
     replace says:=says.keep hbT
     clear HB hbT c6
     generalize (W6.alloc (.cells #[.slice a1 l1 k1,.slice a2 l2 k2,.slice a3 l3 k3] 26))=W7 at *
     generalize W6.heap.size=tb at *
     rcases says with ⟨rfl,rfl,hbad⟩ | ⟨rfl,n1,n2,hs,hq⟩ | ⟨rfl,n1,n2,hbd,rfl,rfl,rfl,gc,ga,gr,h,k,rfl,rfl,rfl,O,Gr,J⟩
     · replace hbad:Hid (m<1∨24<m∨∃i,i<m∧hsB (X i).1 (X i).2=false):=hbad
       go_wp2_with fail
       go_loopg [57] m (fun G s57 wx=>Below W7.heap.size W7 wx∧∃i:Nat,i+G=m∧s57=.int .i64 (i:Int)∧Hid (∀j,j<i→hsB (X j).1 (X j).2=true))
       case atStart=>exact⟨Below.refl _ _,0,by omega,rfl,fun j hj=>absurd hj (by omega)⟩
       case round =>
         obtain⟨HB2,i,hi,rfl,hall⟩:=hrel
         have HB:=later HB7 HB2
         have T2:=T.keep HB2
         obtain⟨t0,t1,t2,t3,t4,t5,t6⟩:=id T2
         by_cases ci:i=m
         · subst ci
           by_cases c1:i<1
           · have e1:(i:Int)<1:=by omega
             go_wp2_with fail
             go_ret
             exact⟨rfl,HB⟩
           · have e1:¬(i:Int)<1:=by omega
             have c2:24<i:=by
               rcases hbad with q | q | ⟨j,hj,q⟩
               · exact absurd q c1
               · exact q
               · rw [hall j hj] at q;cases q
             have e2:(24:Int)<(i:Int):=by omega
             go_wp2_with fail
             go_ret
             exact⟨rfl,HB⟩
         · have hlt:(i:Int)<(m:Int):=by omega
           obtain⟨b',o',hA',hb',x0,x1,lx0,lx1⟩:=(VX.keep HB) i (by omega)
           have cn:=fun w=>none_w (X i).1 (X i).2 lx0 lx1 w
           subst hA'
           cases hq:hsB (X i).1 (X i).2
           · rw [hq] at cn
             simp only [Bool.not_false] at cn
             clear hq
             go_wp2_with (go_at_call 11;(with_reducible refine (cn _).mono ?_);rintro _ W8 ⟨rfl,hb1⟩;replace HB:=later (below_alloc HB _) hb1;replace T2:=(T2.keep (below_alloc (Below.refl _ _) _)).keep hb1;clear t0 t1 t2 t3 t4 t5 t6;obtain⟨t0,t1,t2,t3,t4,t5,t6⟩:=id T2)
             go_ret
             exact⟨rfl,HB⟩
           · rw [hq] at cn
             simp only [Bool.not_true] at cn
             replace hq:Hid (hsB (X i).1 (X i).2=true):=hq
             go_wp2_with (go_at_call 11;(with_reducible refine (cn _).mono ?_);rintro _ W8 ⟨rfl,hb1⟩;replace HB2:=later (below_alloc HB2 _) hb1)
             go_roundg (m-i-1)
             case measure=>omega
             case rel=>exact⟨HB2,i+1,by omega,by go_num,fun j hj=>by rcases Nat.lt_or_ge j i with h' | h';exact hall j h';rw [show j=i by omega];exact hq⟩
     · replace hs:Hid (∀i,i<m→hsB (X i).1 (X i).2=true):=hs
       replace hq:Hid ((List.range m).all (fun i=>bdB (X i))=false):=hq
       go_wp2_with fail
       go_loopg [57] m (fun G s57 wx=>Below W7.heap.size W7 wx∧∃i:Nat,i+G=m∧s57=.int .i64 (i:Int)∧Hid (∀j,j<i→hsB (X j).1 (X j).2=true))
       case atStart=>exact⟨Below.refl _ _,0,by omega,rfl,fun j hj=>absurd hj (by omega)⟩
       case round =>
         obtain⟨HB2,i,hi,rfl,hall⟩:=hrel
         have HB:=later HB7 HB2
         have T2:=T.keep HB2
         obtain⟨t0,t1,t2,t3,t4,t5,t6⟩:=id T2
         by_cases ci:i=m
         · subst ci
           have e1:¬(i:Int)<1:=by omega
           have e2:¬(24:Int)<(i:Int):=by omega
           have cb:=lbounded_w G i H X hm wr (VX.keep HB)
           rw [show (List.range i).all (fun i=>bdB (X i))=false from hq] at cb
           clear hq
           go_wp2_with (go_at_call 7;(with_reducible refine cb.mono ?_);rintro _ W8 ⟨rfl,hb1⟩;replace HB:=later HB hb1)
           go_ret
           exact⟨rfl,HB⟩
         · have hlt:(i:Int)<(m:Int):=by omega
           obtain⟨b',o',hA',hb',x0,x1,lx0,lx1⟩:=(VX.keep HB) i (by omega)
           have cn:=fun w=>none_w (X i).1 (X i).2 lx0 lx1 w
           subst hA'
           have hq:=hs i (by omega)
           skip
           · rw [hq] at cn
             simp only [Bool.not_true] at cn
             replace hq:Hid (hsB (X i).1 (X i).2=true):=hq
             go_wp2_with (go_at_call 11;(with_reducible refine (cn _).mono ?_);rintro _ W8 ⟨rfl,hb1⟩;replace HB2:=later (below_alloc HB2 _) hb1)
             go_roundg (m-i-1)
             case measure=>omega
             case rel=>exact⟨HB2,i+1,by omega,by go_num,fun j hj=>by rcases Nat.lt_or_ge j i with h' | h';exact hall j h';rw [show j=i by omega];exact hq⟩
     · have hs:Hid (∀i,i<m→hsB (X i).1 (X i).2=true):=fun i hi=>bd_hs (hbd i hi)
       replace hbd:Hid (∀i,i<m→bdB (X i)=true):=hbd
       go_wp2_with fail
       go_loopg [57] m (fun G s57 wx=>Below W7.heap.size W7 wx∧∃i:Nat,i+G=m∧s57=.int .i64 (i:Int)∧Hid (∀j,j<i→hsB (X j).1 (X j).2=true))
       case atStart=>exact⟨Below.refl _ _,0,by omega,rfl,fun j hj=>absurd hj (by omega)⟩
       case round =>
         obtain⟨HB2,i,hi,rfl,hall⟩:=hrel
         have HB:=later HB7 HB2
         have T2:=T.keep HB2
         obtain⟨t0,t1,t2,t3,t4,t5,t6⟩:=id T2
         by_cases ci:i=m
         · subst ci
           have e1:¬(i:Int)<1:=by omega
           have e2:¬(24:Int)<(i:Int):=by omega
           have cb:=lbounded_w G i H X hm wr (VX.keep HB)
           rw [all_upto.2 (show ∀j,j<i→bdB (X j)=true from hbd)] at cb
           go_wp2_with (go_at_call 7;(with_reducible refine cb.mono ?_);rintro _ W8 ⟨rfl,hb1⟩;replace HB2:=later HB2 hb1)
           clear t0 t1 t2 t3 t4 t5 t6 T2 cb HB hb1
           go_loopg [89] i (fun G s89 wx=>Below W7.heap.size W7 wx∧∃j:Nat,j+G=i∧s89=.int .i64 (j:Int))
           case atStart=>exact⟨HB2,0,by omega,rfl⟩
           case round =>
             clear HB2
             obtain⟨HB2,j,hj,rfl⟩:=hrel
             have HB:=later HB7 HB2
             have T2:=T.keep HB2
             obtain⟨t0,t1,t2,t3,t4,t5,t6⟩:=id T2
             by_cases cj:j=i
             · subst cj
               have cp:=rPoints_any (some ⟨ga,0,none⟩) j k2 _ _ _ oneN (by omega) wr ((Gr.keep HB2).rfs (by omega) fun r _ c _=>oneN_lt r c)
               simp only [one_flt n1 n2,if_true] at cp
               have co:=fun w=>rOne_rws j n2 w
               go_wp2_with (first
                 | (go_at_call 18;(with_reducible refine cp.mono ?_);rintro _ Wa ⟨Ba,Da,SAa,SCa,rfl,Ua,hb1⟩;replace HB:=later HB hb1;clear hb1)
                 | (go_at_call 19;(with_reducible refine (co _).mono ?_);rintro _ Wb ⟨Bb,Db,SAb,SCb,rfl,Ub,hb1⟩;replace HB:=later HB hb1;replace Ua:=Ua.keep hb1;clear hb1)
                 | (go_at_call 17;(with_reducible refine (rsameA_w _ _ j _ _ _ _ _ _ _ _ _ _ hm (fun _ _=>rfl) (fun r _ c _=>pts_one r c) _ Ua Ub).mono ?_);rintro _ Wc ⟨rfl,hb1⟩;replace HB:=later HB hb1;clear hb1))
               go_ret
               exact⟨rfl,HB⟩
             · have hlt:(j:Int)<(i:Int):=by omega
               obtain⟨b',o',hA',hb',x0,x1,lx0,lx1⟩:=(VX.keep HB) j (by omega)
               have bj:bdB (X j)=true:=hbd j (by omega)
               obtain⟨wm,fm, -, -⟩:=middle_facts lx0 lx1 bj
               obtain⟨lb,lq0,lq1⟩:=left_bd lx0 lx1 bj
               have cm:=fun w=>rMid_w (X j).1 (X j).2 lx0 lx1 w
               have ck:=fun w=>rmake_w (midP (X j).1 (X j).2) (midP (X j).1 (X j).2) wm wm w
               have lk:=makeP_lt wm wm
               have cs:∀w,Calls Tryz.prog 13 #[.agg #[.float .f64 (X j).1,.float .f64 (X j).2],.agg #[.float .f64 (makeP (midP (X j).1 (X j).2) (midP (X j).1 (X j).2)).1,.float .f64 (makeP (midP (X j).1 (X j).2) (midP (X j).1 (X j).2)).2]] w fun e w'=>e=.returned (.agg #[.float .f64 (leftQ (X j)).1,.float .f64 (leftQ (X j)).2])∧Below w.heap.size w w':=fun w=>rSub_w (X j).1 (X j).2 _ _ lx0 lx1 lk.1 lk.2 w
               have cr:=fun w=>rbd_w (v:=leftQ (X j)) lq0 lq1 w
               rw [lb] at cr
               have ce:=fun w=>rsame_self (leftQ (X j)).1 (leftQ (X j)).2 lq0 lq1 w
               have hne:(FloatKind.f64.format.order (midP (X j).1 (X j).2) (midP (X j).1 (X j).2) != some .eq)=false:=float_self wm (fin_not_nan fm)
               clear lk bj lb fm
               subst hA'
               go_upto_region 26 with fail
               have D:=has2_new wr (.float .f64 (X j).1) (.float .f64 (X j).2) 38
               have hb0:Below wr.heap.size wr (wr.alloc (.cells #[.float .f64 (X j).1,.float .f64 (X j).2] 38)):=by go_grown
               replace HB2:=later HB2 hb0
               clear hb0 x0 x1 t0 t1 t2 t3 t4 t5 t6 T2
               generalize (wr.alloc (.cells #[.float .f64 (X j).1,.float .f64 (X j).2] 38))=V2 at *
               generalize wr.heap.size=xb at *
               obtain⟨d0,d1,d2,d3,d4⟩:=id D
               go_upto_region 27 with (go_at_call 12;(with_reducible refine (cm _).mono ?_);rintro _ V3 ⟨rfl,hb1⟩;replace HB2:=later HB2 hb1;replace D:=D.keep hb1;clear hb1 d0 d1 d2 d3 d4)
               apply tail_alloc1 5 (by kernel_rfl) (by kernel_rfl) rfl
               · intro Wq hWq
                 have D1:=D.keep hWq
                 have k0:=fun q:Behind Wq=>q.cell D1.1 D1.2.2.2.2
                 have k1:=fun q:Behind Wq=>q.cell D1.2.1 D1.2.2.2.2
                 simp only [List.take_succ_cons,List.take_zero]
                 repeat (go_big_quiet_step (first
                   | (go_at_call 14;with_reducible refine Behind.call (ck _))
                   | (go_at_call 13;with_reducible refine Behind.call (cs _))))
                 exact wpQuiet_nil rfl
               intro rb V4 hrb Bx hb1
               have hV7:W7.heap.size≤rb:=Nat.le_trans HB2.size hrb
               replace HB2:=later HB2 hb1
               clear hb1 D hrb cm ck cs
               have Dr:=Bx.put (.float .f64 (leftQ (X j)).1) (.float .f64 (leftQ (X j)).2)
               replace HB2:=(HB2.setCell (p:=⟨rb,0,none⟩) hV7 (.float .f64 (leftQ (X j)).1)).setCell (p:=⟨rb,1,none⟩) hV7 (.float .f64 (leftQ (X j)).2)
               obtain⟨f0,f1,f2,f3,f4⟩:=id Bx
               simp only [List.drop_succ_cons,List.drop_zero,Act.put,List.setIfInBounds_toArray,List.set_cons_succ,List.set_cons_zero]
               go_upto_region 28 with fail
               clear f0 f1 f2 f3 f4 Bx
               generalize ((V4.setCell ⟨rb,0,none⟩ (.float .f64 (leftQ (X j)).1)).setCell ⟨rb,1,none⟩ (.float .f64 (leftQ (X j)).2))=V5 at *
               obtain⟨f0,f1,f2,f3,f4⟩:=id Dr
               go_upto_region 30 with (go_at_call 15;(with_reducible refine (cr _).mono ?_);rintro _ V6 ⟨rfl,hb1⟩;replace HB2:=later HB2 hb1;replace Dr:=Dr.keep hb1;clear hb1 f0 f1 f2 f3 f4)
               obtain⟨f0,f1,f2,f3,f4⟩:=id Dr
               have T3:=T.keep HB2
               obtain⟨t0,t1,t2,t3,t4,t5,t6⟩:=id T3
               have O3:=O.keep HB2
               have J3:=J.keep HB2
               obtain⟨o0, -⟩:=O3.2 j (by omega)
               obtain⟨i0,i1, -, -⟩:=J3.2 j (by omega)
               have k0:=fun q:Behind V6=>q.cell f0 f4
               have k1:=fun q:Behind V6=>q.cell f1 f4
               have k2':=fun q:Behind V6=>q.cell t0 t6
               have k3':=fun q:Behind V6=>q.cell t2 t6
               have k4:=fun q:Behind V6=>q.cell o0 O3.1
               have k5:=fun q:Behind V6=>q.cell i0 J3.1
               have k6:=fun q:Behind V6=>q.cell i1 J3.1
               refine region_behind (by kernel_rfl) (by kernel_rfl) ?_
               repeat (go_big_quiet_step (first
                 | (go_at_call 16;with_reducible refine Behind.call (ce _))))
               refine wpQuiet_nil ?_
               rintro _ ⟨q,rfl⟩
               obtain⟨V8,hb1⟩:=q
               dsimp only
               replace HB2:=later HB2 hb1
               clear hb1 k0 k1 k2' k3' k4 k5 k6
               go_wp2_with fail
               go_roundg (i-j-1)
               case measure=>omega
               case rel=>exact⟨HB2,j+1,by omega,by go_num⟩
         · have hlt:(i:Int)<(m:Int):=by omega
           obtain⟨b',o',hA',hb',x0,x1,lx0,lx1⟩:=(VX.keep HB) i (by omega)
           have cn:=fun w=>none_w (X i).1 (X i).2 lx0 lx1 w
           subst hA'
           have hq:=hs i (by omega)
           skip
           · rw [hq] at cn
             simp only [Bool.not_true] at cn
             replace hq:Hid (hsB (X i).1 (X i).2=true):=hq
             go_wp2_with (go_at_call 11;(with_reducible refine (cn _).mono ?_);rintro _ W8 ⟨rfl,hb1⟩;replace HB2:=later (below_alloc HB2 _) hb1)
             go_roundg (m-i-1)
             case measure=>omega
             case rel=>exact⟨HB2,i+1,by omega,by go_num,fun j hj=>by rcases Nat.lt_or_ge j i with h' | h';exact hall j h';rw [show j=i by omega];exact hq⟩
end Go.Proofs.YtdokikhhlmelkaaGreat
