/- picard: reach and the wide box. picard: a box is tried; the smaller of two. -/
import Derived.Test.YtnnfafilgiajoaaGreatZ43
namespace Go.Proofs.YtnnfafilgiajoaaGreat
open Go.ChangeShapes Go.WideShapes Go.ChangeAt Go.RowKit
structure Qst where
 v:Int
 A:Option Addr
 n:Nat
 C:Nat
 D:Option Addr
 m:Nat
 E:Nat
 AX:Option Addr
 k:Nat
 CX:Nat
 t:Nat
def Qst.val (q:Qst):Value:=.agg #[.int .i64 q.v,.slice q.A q.n q.C,.slice q.D q.m q.E,.slice q.AX q.k q.CX,.float .f64 q.t]
structure HasQ (w:World) (b:Nat) (q:Qst):Prop where
 c0:w.cell? ⟨b,0,none⟩=some (.int .i64 q.v)
 c1:w.cell? ⟨b,1,none⟩=some (.slice q.A q.n q.C)
 c2:w.cell? ⟨b,2,none⟩=some (.slice q.D q.m q.E)
 c3:w.cell? ⟨b,3,none⟩=some (.slice q.AX q.k q.CX)
 c4:w.cell? ⟨b,4,none⟩=some (.float .f64 q.t)
 lt:b<w.heap.size
theorem HasQ.keep {w w2:World} {b:Nat} {q:Qst} (h:HasQ w b q) (hb:Below w.heap.size w w2):HasQ w2 b q :=
 ⟨keepsC hb h.c0 h.lt,keepsC hb h.c1 h.lt,keepsC hb h.c2 h.lt,keepsC hb h.c3 h.lt,keepsC hb h.c4 h.lt,Nat.lt_of_lt_of_le h.lt hb.size⟩
theorem hasQ_new (w:World) (q:Qst):HasQ (w.alloc (.cells #[.int .i64 q.v,.slice q.A q.n q.C,.slice q.D q.m q.E,.slice q.AX q.k q.CX,.float .f64 q.t] 50)) w.heap.size q :=
 ⟨by go_simp,by go_simp,by go_simp,by go_simp,by go_simp,by go_size⟩
theorem HasQ.far {w:World} {b c o:Nat} {q:Qst} (h:HasQ w b q) (hne:c≠b) (v:Value):HasQ (w.setCell ⟨c,o,none⟩ v) b q:=by
 have hne':b≠c:=fun e=>hne e.symm
 obtain⟨c0,c1,c2,c3,c4,l⟩:=h
 exact⟨by simp [World.cell?_setCell_far, *],by simp [World.cell?_setCell_far, *],by simp [World.cell?_setCell_far, *],by simp [World.cell?_setCell_far, *],by simp [World.cell?_setCell_far, *],by rw [World.size_setCell];exact l⟩
set_option maxHeartbeats 2000000 in
theorem reach_w (q:Qst) (R:Option Addr) (CR s:Nat) (X Y:Nat→Nat×Nat) (hk:q.k≤24) (hs:s<18446744073709551616) (w:World) (V:Ivs w q.AX q.k X) (U:Ivs w R q.k Y) :
   Calls Tryz.prog 77 #[q.val,.slice R q.k CR,.float .f64 s] w fun e w'=>(∃g,e=.returned (.slice (some ⟨g,0,none⟩) q.k q.k)∧Img w' g q.k (fun i=>rchQ (X i) (Y i) s))∧Below w.heap.size w w':=by
 have T:=hasQ_new w q
 obtain⟨qv,qA,qn,qC,qD,qm,qE,AX,k,CX,t⟩:=q
 simp only [Qst.val] at *
 have cm:=fun w=>cMake (a:=0) (b:=s) (by omega) hs w
 have hz:W2 (mkQ 0 s):=mkQ_W2 (by omega) hs
 have hR:Hid (∀i,rchQ (X i) (Y i) s=addQ (X i) (mulQ (mkQ 0 s) (Y i))):=fun _=>rfl
 generalize mkQ 0 s=z at *
 generalize hP:(fun i=>rchQ (X i) (Y i) s)=P
 replace hR:Hid (∀i,P i=addQ (X i) (mulQ z (Y i))):=fun i=>by rw [←hP];exact hR.out i
 clear hP
 have HB:Below w.heap.size w (w.alloc (.cells #[.int .i64 qv,.slice qA qn qC,.slice qD qm qE,.slice AX k CX,.float .f64 t] 50)):=by go_grown
 go_enter Tryz.func77,Tryz.ntmps77
 go_upto_region 1 with fail
 generalize w.alloc (.cells #[.int .i64 qv,.slice qA qn qC,.slice qD qm qE,.slice AX k CX,.float .f64 t] 50)=V1 at *
 have hT0:=T.lt
 go_upto_region 2 with (go_at_call 110;refine (cm _).mono ?_;rintro _ VV ⟨rfl,hb1⟩;replace T:=T.keep hb1;replace HB:=later HB hb1;clear hb1)
 have Z:Has2 (VV.alloc (.cells #[.float .f64 z.1,.float .f64 z.2] 40)) VV.heap.size (.float .f64 z.1) (.float .f64 z.2):=has2_new _ _ _ _
 have hb1:Below VV.heap.size VV (VV.alloc (.cells #[.float .f64 z.1,.float .f64 z.2] 40)):=by go_grown
 replace T:=T.keep hb1;replace HB:=later HB hb1;clear hb1
 generalize VV.alloc (.cells #[.float .f64 z.1,.float .f64 z.2] 40)=V2 at *
 generalize VV.heap.size=zb at *
 go_wp2_with (at_make;refine wpList_makeI (by rfl) _ _ (by rfl) k (by rfl) (by rfl) (by omega) ?_;intro w3 hI hb1 hS3)
 obtain⟨g,hg⟩:∃g,g=V2.heap.size:=⟨_,rfl⟩
 have hgz:zb<g:=by rw [hg];exact Z.lt
 have hgw:w.heap.size<g:=by rw [hg];exact T.lt
 replace T:=T.keep hb1;replace Z:=Z.keep hb1;replace HB:=later HB hb1;clear hb1
 rw [←hg] at hI ⊢
 clear hg hS3
 go_loopg [18] k (fun G s18 wx=>Below w.heap.size w wx∧HasQ wx w.heap.size ⟨qv,qA,qn,qC,qD,qm,qE,AX,k,CX,t⟩∧Has2 wx zb (.float .f64 z.1) (.float .f64 z.2)∧∃r:Nat,r+G=k∧s18=.int .i64 (r:Int)∧Img wx g k (fun i=>if i<r then P i else (0,0)))
 case atStart=>exact⟨HB,T,Z,0,by omega,rfl,hI.congr fun i _=>by simp⟩
 case round =>
   clear HB hI T Z
   obtain⟨HB,T,Z,r,hr,rfl,hI⟩:=hrel
   by_cases cr:r=k
   · subst cr
     go_wp2_with fail
     go_ret
     exact⟨⟨g,rfl,hI.congr fun i hi=>by simp [hi]⟩,HB⟩
   · have hlt:(r:Int)<(k:Int):=by omega
     obtain⟨b,o,hA,hb,x0,x1,l0,l1⟩:=(V.keep HB) r (by omega)
     obtain⟨b',o',hB,hb',y0,y1,m0,m1⟩:=(U.keep HB) r (by omega)
     have c1:=fun w=>cMul (p:=z) (q:=Y r) hz ⟨m0,m1⟩ w
     have c2:=fun w=>cAdd (p:=X r) (q:=mulQ z (Y r)) ⟨l0,l1⟩ (mulQ_W2 hz ⟨m0,m1⟩) w
     rw [←hR.out r] at c2
     generalize mulQ z (Y r)=d at *
     generalize hp:P r=p at *
     generalize Y r=y at *
     subst hA hB
     go_upto_region 6 with fail
     have Yb:Has2 (wr.alloc (.cells #[.float .f64 y.1,.float .f64 y.2] 40)) wr.heap.size (.float .f64 y.1) (.float .f64 y.2):=has2_new _ _ _ _
     have hb1:Below wr.heap.size wr (wr.alloc (.cells #[.float .f64 y.1,.float .f64 y.2] 40)):=by go_grown
     have x0':=keepsC hb1 x0 hb
     have x1':=keepsC hb1 x1 hb
     have hb2:b<(wr.alloc (.cells #[.float .f64 y.1,.float .f64 y.2] 40)).heap.size:=Nat.lt_of_lt_of_le hb hb1.size
     replace hI:=hI.keep hb1
     replace T:=T.keep hb1;replace Z:=Z.keep hb1;replace HB:=later HB hb1;clear hb1
     clear x0 x1 y0 y1 hb hb'
     generalize wr.alloc (.cells #[.float .f64 y.1,.float .f64 y.2] 40)=V4 at *
     generalize wr.heap.size=yb at *
     have kx0:=fun n:Behind V4=>n.cell x0' hb2
     have kx1:=fun n:Behind V4=>n.cell x1' hb2
     have kq:=fun n:Behind V4=>n.cell T.c3 T.lt
     have kZ0:=fun n:Behind V4=>n.cell Z.1 Z.2.2.2.2;have kZ1:=fun n:Behind V4=>n.cell Z.2.1 Z.2.2.2.2;have kYb0:=fun n:Behind V4=>n.cell Yb.1 Yb.2.2.2.2;have kYb1:=fun n:Behind V4=>n.cell Yb.2.1 Yb.2.2.2.2
     refine tail_behind 11 (by kernel_rfl) (by kernel_rfl) ?_
     simp only [List.take_succ_cons,List.take_zero,List.drop_succ_cons,List.drop_zero]
     repeat (go_big_quiet_step (first | (go_at_call 85;with_reducible refine Behind.call (c1 _)) | (go_at_call 83;with_reducible refine Behind.call (c2 _))))
     refine wpQuiet_nil ?_
     rintro _ ⟨q',rfl⟩
     obtain⟨W,hb1⟩:=q'
     dsimp only
     replace hI:=hI.keep hb1
     clear kx0 kx1 kq kZ0 kZ1 kYb0 kYb1 x0' x1' hb2 Yb c1 c2
     replace T:=T.keep hb1;replace Z:=Z.keep hb1;replace HB:=later HB hb1;clear hb1
     obtain⟨i0,i1,f0,f1⟩:=id (hI.2 r (by omega))
     go_wp2_with fail
     go_roundg (k-r-1)
     case measure=>omega
     case rel =>
       refine⟨?_,(T.far (by omega) _).far (by omega) _,(Z.far1 (by omega) _).far1 (by omega) _,r+1,by omega,by go_num,(hI.set r _ _ (by omega)).congr fun i hi=>?_⟩
       · repeat' (first | (with_reducible exact HB) | (with_reducible refine Below.setCell ?_ ?_ _) | go_size | omega)
       · by_cases e:i=r
         · subst e
           simp [hp]
         · simp only [e,if_false]
           by_cases q:i<r
           · simp [q,show i<r+1 by omega]
           · simp [q,show ¬i<r+1 by omega]
def roomQ (x:Nat×Nat):Nat:=(mulQ (ptQ 4589168020290535424) (addQ (ptQ 4607182418800017408) (ptQ (magQ x)))).2
def wideQ (x:Nat×Nat):Nat×Nat:=hullQ x (addQ x (mkQ (negB (roomQ x)) (roomQ x)))
theorem magQ_lt {x:Nat×Nat}:magQ x<18446744073709551616:=mag_lt x.1 x.2
theorem roomQ_lt (x:Nat×Nat):roomQ x<18446744073709551616:=(mulQ_W2 (ptQ_W2 (by omega)) (addQ_W2 (ptQ_W2 (by omega)) (ptQ_W2 magQ_lt))).2
theorem wideQ_W2 {x:Nat×Nat} (hx:W2 x):W2 (wideQ x):=hullQ_W2 hx (addQ_W2 hx (mkQ_W2 (negB_lt (roomQ_lt x)) (roomQ_lt x)))
set_option maxHeartbeats 4000000 in
theorem wide_w (A:Option Addr) (k C:Nat) (X:Nat→Nat×Nat) (hk:k≤24) (w:World) (V:Ivs w A k X) :
   Calls Tryz.prog 73 #[.slice A k C] w fun e w'=>(∃g,e=.returned (.slice (some ⟨g,0,none⟩) k k)∧Img w' g k (fun i=>wideQ (X i)))∧Below w.heap.size w w':=by
 have HB:Below w.heap.size w w:=Below.refl _ _
 have hO:W2 (ptQ 4607182418800017408):=ptQ_W2 (by omega)
 have hF:W2 (ptQ 4589168020290535424):=ptQ_W2 (by omega)
 have co:=fun w=>cPoint (a:=4607182418800017408) (by omega) w
 have cf:=fun w=>cPoint (a:=4589168020290535424) (by omega) w
 have hR:Hid (∀i,roomQ (X i)=(mulQ (ptQ 4589168020290535424) (addQ (ptQ 4607182418800017408) (ptQ (magQ (X i))))).2):=fun _=>rfl
 have hW:Hid (∀i,wideQ (X i)=hullQ (X i) (addQ (X i) (mkQ (negB (roomQ (X i))) (roomQ (X i))))):=fun _=>rfl
 generalize ptQ 4607182418800017408=one at *
 generalize ptQ 4589168020290535424=fac at *
 generalize hP:(fun i=>wideQ (X i))=P
 replace hW:Hid (∀i,P i=hullQ (X i) (addQ (X i) (mkQ (negB (roomQ (X i))) (roomQ (X i))))):=fun i=>by rw [←hP];exact hW.out i
 clear hP
 go_enter Tryz.func73,Tryz.ntmps73
 go_wp2_with (at_make;refine wpList_makeI (by rfl) _ _ (by rfl) k (by rfl) (by rfl) (by omega) ?_;intro w3 hI hb1 hS3;replace HB:=later HB hb1;clear hb1)
 go_loopg [13] k (fun G s13 wx=>Below w.heap.size w wx∧∃r:Nat,r+G=k∧s13=.int .i64 (r:Int)∧Img wx w.heap.size k (fun i=>if i<r then P i else (0,0)))
 case atStart=>exact⟨HB,0,by omega,rfl,hI.congr fun i _=>by simp⟩
 case round =>
   clear HB hI
   obtain⟨HB,r,hr,rfl,hI⟩:=hrel
   by_cases cr:r=k
   · subst cr
     go_wp2_with fail
     go_ret
     exact⟨⟨w.heap.size,rfl,hI.congr fun i hi=>by simp [hi]⟩,HB⟩
   · have hlt:(r:Int)<(k:Int):=by omega
     obtain⟨b,o,hA,hb,x0,x1,l0,l1⟩:=(V.keep HB) r (by omega)
     generalize hx:X r=x at *
     have hx2:W2 x:=⟨l0,l1⟩
     have c1:=fun w=>cMag (p:=x) hx2 w
     have c2:=fun w=>cPoint (a:=magQ x) magQ_lt w
     have c3:=fun w=>cAdd (p:=one) (q:=ptQ (magQ x)) hO (ptQ_W2 magQ_lt) w
     have c4:=fun w=>cMul (p:=fac) (q:=addQ one (ptQ (magQ x))) hF (addQ_W2 hO (ptQ_W2 magQ_lt)) w
     have e1:roomQ x=(mulQ fac (addQ one (ptQ (magQ x)))).2:=by rw [←hx];exact hR.out r
     have e2:P r=hullQ x (addQ x (mkQ (negB (roomQ x)) (roomQ x))):=by rw [←hx];exact hW.out r
     have hrm:=roomQ_lt x
     have en:=negFloat_eq (roomQ x) hrm
     have en:Op.negFloat .f64 (roomQ x)=negB (roomQ x):=en
     have hn2:=negB_lt hrm
     rw [e1] at e2 hrm en hn2
     generalize ptQ (magQ x)=pm at *
     generalize magQ x=mg at *
     generalize addQ one pm=am at *
     generalize mulQ fac am=ml at *
     generalize negB ml.2=nm at *
     have c5:=fun w=>cMake (a:=nm) (b:=ml.2) hn2 hrm w
     have c6:=fun w=>cAdd (p:=x) (q:=mkQ nm ml.2) hx2 (mkQ_W2 hn2 hrm) w
     have c7:=fun w=>cHull (p:=x) (q:=addQ x (mkQ nm ml.2)) hx2 (addQ_W2 hx2 (mkQ_W2 hn2 hrm)) w
     rw [←e2] at c7
     generalize addQ x (mkQ nm ml.2)=sm at *
     generalize mkQ nm ml.2=mk at *
     generalize hp:P r=p at *
     clear e1 e2 hrm hn2 hx2
     subst hA
     go_upto_region 5 with fail
     have D:Has2 (wr.alloc (.cells #[.float .f64 x.1,.float .f64 x.2] 40)) wr.heap.size (.float .f64 x.1) (.float .f64 x.2):=has2_new _ _ _ _
     have hb1:Below wr.heap.size wr (wr.alloc (.cells #[.float .f64 x.1,.float .f64 x.2] 40)):=by go_grown
     have hgx:w.heap.size<wr.heap.size:=hI.1
     replace hI:=hI.keep hb1
     replace HB:=later HB hb1
     clear hb1
     clear x0 x1 hb
     generalize wr.alloc (.cells #[.float .f64 x.1,.float .f64 x.2] 40)=V4 at *
     generalize wr.heap.size=xb at *
     apply tail_alloc1 5 (by kernel_rfl) (by kernel_rfl) rfl
     · intro W1 hW1
       replace D:=D.keep hW1
       have kD0:=fun n:Behind W1=>n.cell D.1 D.2.2.2.2;have kD1:=fun n:Behind W1=>n.cell D.2.1 D.2.2.2.2
       simp only [List.take_succ_cons,List.take_zero]
       repeat (go_big_quiet_step (first | (go_at_call 107;with_reducible refine Behind.call (co _)) | (go_at_call 108;with_reducible refine Behind.call (c1 _)) | (go_at_call 107;with_reducible refine Behind.call (c2 _)) | (go_at_call 83;with_reducible refine Behind.call (c3 _))))
       exact wpQuiet_nil rfl
     intro bb W hbb B hb1
     have sD:=D.lt
     have sHB:=HB.size
     have hgb:w.heap.size<bb:=Nat.lt_of_lt_of_le hI.1 hbb
     replace hI:=hI.keep hb1
     replace D:=D.keep hb1;replace HB:=later HB hb1;clear hb1
     have E:=B.put (.float .f64 am.1) (.float .f64 am.2)
     replace D:=D.far2 (c:=bb) (by omega) (.float .f64 am.1) (.float .f64 am.2)
     replace hI:=(hI.far (c:=bb) (k:=0) (by omega) (.float .f64 am.1)).far (c:=bb) (k:=1) (by omega) (.float .f64 am.2)
     replace HB:Below w.heap.size w ((W.setCell ⟨bb,0,none⟩ (.float .f64 am.1)).setCell ⟨bb,1,none⟩ (.float .f64 am.2)):=(HB.setCell (by simp;omega) _).setCell (by simp;omega) _
     obtain⟨bb0,bb1,bb2,bb3,bb4⟩:=id B
     simp only [List.drop_succ_cons,List.drop_zero,Act.put,List.setIfInBounds_toArray,List.set_cons_succ,List.set_cons_zero]
     go_upto_region 6 with fail
     clear bb0 bb1 bb2 bb3 bb4 B hbb sD sHB
     generalize (W.setCell ⟨bb,0,none⟩ (.float .f64 am.1)).setCell ⟨bb,1,none⟩ (.float .f64 am.2)=V5 at *
     have kE0:=fun n:Behind V5=>n.cell E.1 E.2.2.2.2;have kE1:=fun n:Behind V5=>n.cell E.2.1 E.2.2.2.2
     refine region_behind (by kernel_rfl) (by kernel_rfl) ?_
     repeat (go_big_quiet_step (first | (go_at_call 107;with_reducible refine Behind.call (cf _)) | (go_at_call 85;with_reducible refine Behind.call (c4 _))))
     refine wpQuiet_nil ?_
     rintro _ ⟨q',rfl⟩
     obtain⟨V6,hb1⟩:=q'
     dsimp only
     replace hI:=hI.keep hb1
     clear kE0 kE1 E
     replace D:=D.keep hb1;replace HB:=later HB hb1;clear hb1
     go_upto_region 7 with fail
     have kD0:=fun n:Behind V6=>n.cell D.1 D.2.2.2.2;have kD1:=fun n:Behind V6=>n.cell D.2.1 D.2.2.2.2
     refine tail_behind 10 (by kernel_rfl) (by kernel_rfl) ?_
     simp only [List.take_succ_cons,List.take_zero,List.drop_succ_cons,List.drop_zero]
     repeat (go_big_quiet_step (first | (go_at_call 110;with_reducible refine Behind.call (c5 _)) | (go_at_call 83;with_reducible refine Behind.call (c6 _)) | (go_at_call 109;with_reducible refine Behind.call (c7 _))))
     refine wpQuiet_nil ?_
     rintro _ ⟨q',rfl⟩
     obtain⟨V7,hb1⟩:=q'
     dsimp only
     replace hI:=hI.keep hb1
     clear kD0 kD1 c1 c2 c3 c4 c5 c6 c7
     replace HB:=later HB hb1
     clear hb1
     obtain⟨i0,i1,f0,f1⟩:=id (hI.2 r (by omega))
     go_wp2_with fail
     go_roundg (k-r-1)
     case measure=>omega
     case rel =>
       refine⟨?_,r+1,by omega,by go_num,(hI.set r _ _ (by omega)).congr fun i hi=>?_⟩
       · repeat' (first | (with_reducible exact HB) | (with_reducible refine Below.setCell ?_ ?_ _) | go_size | omega)
       · by_cases e:i=r
         · subst e
           simp [hp]
         · simp only [e,if_false]
           by_cases q:i<r
           · simp [q,show i<r+1 by omega]
           · simp [q,show ¬i<r+1 by omega]
def EvC (q:Qst) (ok:(Nat→Nat×Nat)→Bool) (rt:(Nat→Nat×Nat)→Nat→Nat×Nat) (w:World):Prop :=
 ∀W,Below w.heap.size w W→∀(A:Option Addr) (C:Nat) (B:Nat→Nat×Nat),Ivs W A q.k B→Calls Tryz.prog 12 #[tapeV q.v q.A q.n q.C q.D q.m q.E,.slice A q.k C] W fun e w' =>
   ((ok B=true∧∃g,e=.returned (.tuple #[.slice (some ⟨g,0,none⟩) q.k q.k,.int .i64 0])∧Img w' g q.k (rt B))∨(ok B=false∧∃er:Int,(er != 0)=true∧e=.returned (.tuple #[.slice none 0 0,.int .i64 er])))∧Below W.heap.size W w'
theorem EvC.keep {q:Qst} {ok:(Nat→Nat×Nat)→Bool} {rt:(Nat→Nat×Nat)→Nat→Nat×Nat} {w w2:World} (h:EvC q ok rt w) (hb:Below w.heap.size w w2):EvC q ok rt w2:=fun W hW=>h W (later hb hW)
def rchB (q:Qst) (rt:(Nat→Nat×Nat)→Nat→Nat×Nat) (X B:Nat→Nat×Nat):Nat→Nat×Nat:=fun i=>rchQ (X i) (rt B i) q.t
theorem allIn_iff {n:Nat} {X Y:Nat→Nat×Nat}:allIn n X Y=true↔∀i,i<n→insideB (X i).1 (X i).2 (Y i).1 (Y i).2=true:=by unfold allIn;exact all_upto
theorem inside_trans {a b c:Nat×Nat} (h:insideB a.1 a.2 b.1 b.2=true) (k:insideB b.1 b.2 c.1 c.2=true):insideB a.1 a.2 c.1 c.2=true:=inside_iff.2 fun S=>by
 obtain⟨T,k1,k2⟩:=inside_iff.1 h S
 obtain⟨U,k3,k4⟩:=inside_iff.1 k T
 exact⟨U,by omega,by omega⟩
theorem allIn_trans {n:Nat} {X Y Z:Nat→Nat×Nat} (h:allIn n X Y=true) (k:allIn n Y Z=true):allIn n X Z=true:=allIn_iff.2 fun i hi=>inside_trans (allIn_iff.1 h i hi) (allIn_iff.1 k i hi)
theorem eql_nil (w:World) (a:Option Addr) (n c n' c':Nat):(binOp .eql 26 (.slice a n c) (.slice none n' c')).run Tryz.prog w=.ok (.bool a.isNone) w:=Go.Lib.run_eql_slice_nil w _ _ a n c n' c' Tryz.underlying26
theorem neq_nil (w:World) (a:Option Addr) (n c n' c':Nat):(binOp .neq 26 (.slice a n c) (.slice none n' c')).run Tryz.prog w=.ok (.bool (!a.isNone)) w:=by
 have h:=eql_nil w a n c n' c'
 simp only [binOp] at h ⊢
 simp [Op.equal,Op.maxDepth,Go.Lib.run_equalIn_slice_nil w 9999 _ _ a n c n' c' Tryz.underlying26]
theorem Img.ne {w:World} {g k b n C:Nat} {F:Nat→Nat×Nat} {A:Option Addr} {y:Value} (h:Img w g k F) (hk:0<k) (R:Has2 w b (.slice A n C) y):b≠g:=by
 rintro rfl
 have h1:=(h.2 0 hk).1
 have h2:=R.1
 rw [Nat.zero_mul] at h1
 rw [h1] at h2
 cases h2
theorem Img.far2 {w:World} {g N c:Nat} {xs:Nat→Nat×Nat} (h:Img w g N xs) (hne:c≠g) (v v':Value):Img ((w.setCell ⟨c,0,none⟩ v).setCell ⟨c,1,none⟩ v') g N xs:=(h.far hne v).far hne v'
theorem enterQ (w:World) (q:Qst):HasQ ((w.alloc (.cells #[.int .i64 q.v,.slice q.A q.n q.C,.slice q.D q.m q.E,.slice q.AX q.k q.CX,.float .f64 q.t] 50)).alloc (.cells #[.slice none 0 0,.slice none 0 0] 71)) w.heap.size q ∧
   Has2 ((w.alloc (.cells #[.int .i64 q.v,.slice q.A q.n q.C,.slice q.D q.m q.E,.slice q.AX q.k q.CX,.float .f64 q.t] 50)).alloc (.cells #[.slice none 0 0,.slice none 0 0] 71)) (w.heap.size+1) (.slice none 0 0) (.slice none 0 0) ∧
   Below w.heap.size w ((w.alloc (.cells #[.int .i64 q.v,.slice q.A q.n q.C,.slice q.D q.m q.E,.slice q.AX q.k q.CX,.float .f64 q.t] 50)).alloc (.cells #[.slice none 0 0,.slice none 0 0] 71)) :=
 ⟨⟨by go_simp,by go_simp,by go_simp,by go_simp,by go_simp,by go_size⟩,⟨by go_simp,by go_simp,by go_simp,by go_simp,by go_size⟩,by go_grown⟩
set_option maxHeartbeats 2000000 in
theorem tried_c0 (q:Qst) (A:Option Addr) (C:Nat) (w:World) (cE:∀W,Below w.heap.size w W→Calls Tryz.prog 12 #[tapeV q.v q.A q.n q.C q.D q.m q.E,.slice A q.k C] W fun e w'=>(∃er:Int,(er != 0)=true∧e=.returned (.tuple #[.slice none 0 0,.int .i64 er]))∧Below W.heap.size W w') :
   Calls Tryz.prog 72 #[q.val,.slice A q.k C] w fun e w'=>e=.returned (.tuple #[.agg #[.slice none 0 0,.slice none 0 0],.slice none 0 0])∧Below w.heap.size w w':=by
 obtain⟨T,R,HB⟩:=enterQ w q
 obtain⟨qv,qA,qn,qC,qD,qm,qE,AX,k,CX,t⟩:=q
 unfold tapeV at cE
 simp only [Qst.val] at *
 go_enter Tryz.func72,Tryz.ntmps72
 go_upto_region 1 with fail
 generalize (w.alloc (.cells #[.int .i64 qv,.slice qA qn qC,.slice qD qm qE,.slice AX k CX,.float .f64 t] 50)).alloc (.cells #[.slice none 0 0,.slice none 0 0] 71)=V1 at *
 obtain⟨t0,t1,t2,t3,t4,tl⟩:=id T
 simp only at t0 t1 t2 t3 t4
 go_wp2_with (go_at_call 12;refine (cE _ HB).mono ?_;rintro _ V2 ⟨⟨er,her,rfl⟩,hb1⟩;replace T:=T.keep hb1;replace R:=R.keep hb1;replace HB:=later HB hb1;clear hb1;clear t0 t1 t2 t3 t4 tl;obtain⟨r0,r1,r2,r3,r4⟩:=id R)
 refine bodyPost_ret (v:=.tuple #[.agg #[.slice none 0 0,.slice none 0 0],.slice none 0 0]) (by simp [results,Tryz.results72,go_sem, *]) rfl ⟨rfl, ?_⟩
 repeat' (first | (with_reducible exact HB) | (with_reducible refine below_alloc ?_ _) | (with_reducible refine Below.setCell ?_ ?_ _) | go_size | omega)
set_option maxHeartbeats 2000000 in
theorem tried_c1 (q:Qst) (A:Option Addr) (C:Nat) (hk0:0<q.k) (F P:Nat→Nat×Nat) (hF:Hid (∀i,i<q.k→W2 (F i))) (hP:Hid (∀i,i<q.k→W2 (P i))) (w:World) (cE:∀W,Below w.heap.size w W→Calls Tryz.prog 12 #[tapeV q.v q.A q.n q.C q.D q.m q.E,.slice A q.k C] W fun e w'=>(∃g,e=.returned (.tuple #[.slice (some ⟨g,0,none⟩) q.k q.k,.int .i64 0])∧Img w' g q.k F)∧Below W.heap.size W w')
   (cR:∀W,Below w.heap.size w W→∀g,Ivs W (some ⟨g,0,none⟩) q.k F→Calls Tryz.prog 77 #[q.val,.slice (some ⟨g,0,none⟩) q.k q.k,.float .f64 q.t] W fun e w'=>(∃h,e=.returned (.slice (some ⟨h,0,none⟩) q.k q.k)∧Img w' h q.k P)∧Below W.heap.size W w')
   (cA:∀W,Below w.heap.size w W→∀h,Ivs W (some ⟨h,0,none⟩) q.k P→Calls Tryz.prog 106 #[.slice (some ⟨h,0,none⟩) q.k q.k,.slice A q.k C] W fun e w'=>e=.returned (.bool false)∧Below W.heap.size W w') :
   Calls Tryz.prog 72 #[q.val,.slice A q.k C] w fun e w'=>(∃g,e=.returned (.tuple #[.agg #[.slice none 0 0,.slice none 0 0],.slice (some ⟨g,0,none⟩) q.k q.k])∧Img w' g q.k F)∧Below w.heap.size w w':=by
 obtain⟨T,R,HB⟩:=enterQ w q
 obtain⟨qv,qA,qn,qC,qD,qm,qE,AX,k,CX,t⟩:=q
 unfold tapeV at cE
 simp only [Qst.val] at *
 go_enter Tryz.func72,Tryz.ntmps72
 go_upto_region 1 with fail
 generalize (w.alloc (.cells #[.int .i64 qv,.slice qA qn qC,.slice qD qm qE,.slice AX k CX,.float .f64 t] 50)).alloc (.cells #[.slice none 0 0,.slice none 0 0] 71)=V1 at *
 obtain⟨t0,t1,t2,t3,t4,tl⟩:=id T
 simp only at t0 t1 t2 t3 t4
 go_wp2_with (first
   | (go_at_call 12;refine (cE _ HB).mono ?_;rintro _ V2 ⟨⟨g,rfl,hg⟩,hb1⟩;replace T:=T.keep hb1;replace R:=R.keep hb1;replace HB:=later HB hb1;clear hb1;have ng:=hg.ne hk0 R;clear t0 t1 t2 t3 t4 tl;obtain⟨t0,t1,t2,t3,t4,tl⟩:=id T;simp only at t0 t1 t2 t3 t4)
   | (go_at_call 77;refine (cR _ HB g (hg.ivs hF.out)).mono ?_;rintro _ V3 ⟨⟨h,rfl,hh⟩,hb1⟩;replace hg:=hg.keep hb1;clear t0 t1 t2 t3 t4 tl T;replace R:=R.keep hb1;replace HB:=later HB hb1;clear hb1;have nh:=hh.ne hk0 R)
   | (go_at_call 106;refine (cA _ HB h (hh.ivs hP.out)).mono ?_;rintro _ V4 ⟨rfl,hb1⟩;replace hg:=hg.keep hb1;replace hh:=hh.keep hb1;replace R:=R.keep hb1;replace HB:=later HB hb1;clear hb1;obtain⟨r0,r1,r2,r3,r4⟩:=id R))
 refine bodyPost_ret (v:=.tuple #[.agg #[.slice none 0 0,.slice none 0 0],.slice (some ⟨g,0,none⟩) k k]) (by simp [results,Tryz.results72,go_sem, *]) rfl ⟨⟨g,rfl,hg.far2 ng _ _⟩, ?_⟩
 repeat' (first | (with_reducible exact HB) | (with_reducible refine below_alloc ?_ _) | (with_reducible refine Below.setCell ?_ ?_ _) | go_size | omega)
set_option maxHeartbeats 2000000 in
theorem tried_c2 (q:Qst) (A:Option Addr) (C:Nat) (hk0:0<q.k) (F P:Nat→Nat×Nat) (hF:Hid (∀i,i<q.k→W2 (F i))) (hP:Hid (∀i,i<q.k→W2 (P i))) (w:World) (cE:∀W,Below w.heap.size w W→Calls Tryz.prog 12 #[tapeV q.v q.A q.n q.C q.D q.m q.E,.slice A q.k C] W fun e w'=>(∃g,e=.returned (.tuple #[.slice (some ⟨g,0,none⟩) q.k q.k,.int .i64 0])∧Img w' g q.k F)∧Below W.heap.size W w')
   (cR:∀W,Below w.heap.size w W→∀g,Ivs W (some ⟨g,0,none⟩) q.k F→Calls Tryz.prog 77 #[q.val,.slice (some ⟨g,0,none⟩) q.k q.k,.float .f64 q.t] W fun e w'=>(∃h,e=.returned (.slice (some ⟨h,0,none⟩) q.k q.k)∧Img w' h q.k P)∧Below W.heap.size W w')
   (cA:∀W,Below w.heap.size w W→∀h,Ivs W (some ⟨h,0,none⟩) q.k P→Calls Tryz.prog 106 #[.slice (some ⟨h,0,none⟩) q.k q.k,.slice A q.k C] W fun e w'=>e=.returned (.bool true)∧Below W.heap.size W w') :
   Calls Tryz.prog 72 #[q.val,.slice A q.k C] w fun e w'=>(∃g h,e=.returned (.tuple #[.agg #[.slice A q.k C,.slice (some ⟨h,0,none⟩) q.k q.k],.slice (some ⟨g,0,none⟩) q.k q.k])∧Img w' g q.k F∧Img w' h q.k P)∧Below w.heap.size w w':=by
 obtain⟨T,R,HB⟩:=enterQ w q
 obtain⟨qv,qA,qn,qC,qD,qm,qE,AX,k,CX,t⟩:=q
 unfold tapeV at cE
 simp only [Qst.val] at *
 go_enter Tryz.func72,Tryz.ntmps72
 go_upto_region 1 with fail
 generalize (w.alloc (.cells #[.int .i64 qv,.slice qA qn qC,.slice qD qm qE,.slice AX k CX,.float .f64 t] 50)).alloc (.cells #[.slice none 0 0,.slice none 0 0] 71)=V1 at *
 obtain⟨t0,t1,t2,t3,t4,tl⟩:=id T
 simp only at t0 t1 t2 t3 t4
 go_wp2_with (first
   | (go_at_call 12;refine (cE _ HB).mono ?_;rintro _ V2 ⟨⟨g,rfl,hg⟩,hb1⟩;replace T:=T.keep hb1;replace R:=R.keep hb1;replace HB:=later HB hb1;clear hb1;have ng:=hg.ne hk0 R;clear t0 t1 t2 t3 t4 tl;obtain⟨t0,t1,t2,t3,t4,tl⟩:=id T;simp only at t0 t1 t2 t3 t4)
   | (go_at_call 77;refine (cR _ HB g (hg.ivs hF.out)).mono ?_;rintro _ V3 ⟨⟨h,rfl,hh⟩,hb1⟩;replace hg:=hg.keep hb1;clear t0 t1 t2 t3 t4 tl T;replace R:=R.keep hb1;replace HB:=later HB hb1;clear hb1;have nh:=hh.ne hk0 R)
   | (go_at_call 106;refine (cA _ HB h (hh.ivs hP.out)).mono ?_;rintro _ V4 ⟨rfl,hb1⟩;replace hg:=hg.keep hb1;replace hh:=hh.keep hb1;replace R:=R.keep hb1;replace HB:=later HB hb1;clear hb1;obtain⟨r0,r1,r2,r3,r4⟩:=id R))
 refine bodyPost_ret (v:=.tuple #[.agg #[.slice A k C,.slice (some ⟨h,0,none⟩) k k],.slice (some ⟨g,0,none⟩) k k]) (by simp [results,Tryz.results72,go_sem, *]) rfl ⟨⟨g,h,rfl,hg.far2 ng _ _,hh.far2 nh _ _⟩, ?_⟩
 repeat' (first | (with_reducible exact HB) | (with_reducible refine below_alloc ?_ _) | (with_reducible refine Below.setCell ?_ ?_ _) | go_size | omega)
set_option maxHeartbeats 1000000 in
theorem sm_nil (A:Option Addr) (n C:Nat) (A':Option Addr) (n' C':Nat) (w:World) :
   Calls Tryz.prog 74 #[.agg #[.slice none 0 0,.slice none 0 0],.agg #[.slice A n C,.slice A' n' C']] w fun e w'=>e=.returned (.agg #[.slice A n C,.slice A' n' C'])∧Below w.heap.size w w':=by
 have q1:=eql_nil
 go_enter Tryz.func74,Tryz.ntmps74
 go_wp2_with fail
 refine bodyPost_ret (v:=.agg #[.slice A n C,.slice A' n' C']) (by simp [results,Tryz.results74,go_sem, *]) rfl ⟨rfl,by go_grown⟩
set_option maxHeartbeats 1000000 in
theorem sm_first (a:Addr) (n C:Nat) (A':Option Addr) (n' C':Nat) (w:World) :
   Calls Tryz.prog 74 #[.agg #[.slice (some a) n C,.slice A' n' C'],.agg #[.slice none 0 0,.slice none 0 0]] w fun e w'=>e=.returned (.agg #[.slice (some a) n C,.slice A' n' C'])∧Below w.heap.size w w':=by
 have q1:=eql_nil
 have q2:=neq_nil
 go_enter Tryz.func74,Tryz.ntmps74
 go_wp2_with fail
 refine bodyPost_ret (v:=.agg #[.slice (some a) n C,.slice A' n' C']) (by simp [results,Tryz.results74,go_sem, *]) rfl ⟨rfl,by go_grown⟩
set_option maxHeartbeats 2000000 in
theorem sm_both (a a':Addr) (n C C':Nat) (R R':Option Addr) (m D m' D':Nat) (X Y:Nat→Nat×Nat) (hn:n≤9223372036854775807) (w:World) (V:Ivs w (some a) n X) (U:Ivs w (some a') n Y) :
   Calls Tryz.prog 74 #[.agg #[.slice (some a) n C,.slice R m D],.agg #[.slice (some a') n C',.slice R' m' D']] w fun e w'=>e=.returned (if allIn n X Y then .agg #[.slice (some a) n C,.slice R m D] else .agg #[.slice (some a') n C',.slice R' m' D'])∧Below w.heap.size w w':=by
 have q1:=eql_nil
 have q2:=neq_nil
 have cA:=fun (W:World) (hW:Below w.heap.size w W)=>allIn_w (some a) (some a') n C C' X Y hn W (V.keep hW) (U.keep hW)
 have F0:Has2 (((w.alloc (.cells #[.slice (some a) n C,.slice R m D] 71)).alloc (.cells #[.slice (some a') n C',.slice R' m' D'] 71)).alloc (.cells #[.slice none 0 0,.slice none 0 0] 71)) w.heap.size (.slice (some a) n C) (.slice R m D):=⟨by go_simp,by go_simp,by go_simp,by go_simp,by go_size⟩
 have F1:Has2 (((w.alloc (.cells #[.slice (some a) n C,.slice R m D] 71)).alloc (.cells #[.slice (some a') n C',.slice R' m' D'] 71)).alloc (.cells #[.slice none 0 0,.slice none 0 0] 71)) (w.heap.size+1) (.slice (some a') n C') (.slice R' m' D'):=⟨by go_simp,by go_simp,by go_simp,by go_simp,by go_size⟩
 have F2:Has2 (((w.alloc (.cells #[.slice (some a) n C,.slice R m D] 71)).alloc (.cells #[.slice (some a') n C',.slice R' m' D'] 71)).alloc (.cells #[.slice none 0 0,.slice none 0 0] 71)) (w.heap.size+1+1) (.slice none 0 0) (.slice none 0 0):=⟨by go_simp,by go_simp,by go_simp,by go_simp,by go_size⟩
 have HB:Below w.heap.size w (((w.alloc (.cells #[.slice (some a) n C,.slice R m D] 71)).alloc (.cells #[.slice (some a') n C',.slice R' m' D'] 71)).alloc (.cells #[.slice none 0 0,.slice none 0 0] 71)):=by go_grown
 clear V U
 generalize allIn n X Y=r at *
 cases r
 all_goals
   go_enter Tryz.func74,Tryz.ntmps74
   go_upto_region 1 with fail
   generalize ((w.alloc (.cells #[.slice (some a) n C,.slice R m D] 71)).alloc (.cells #[.slice (some a') n C',.slice R' m' D'] 71)).alloc (.cells #[.slice none 0 0,.slice none 0 0] 71)=V1 at *
   obtain⟨x0,x1,x2,x3,x4⟩:=id F0
   obtain⟨y0,y1,y2,y3,y4⟩:=id F1
   go_wp2_with (go_at_call 106;refine (cA _ HB).mono ?_;rintro _ V2 ⟨rfl,hb1⟩;replace F0:=F0.keep hb1;replace F1:=F1.keep hb1;replace F2:=F2.keep hb1;replace HB:=later HB hb1;clear hb1;clear x0 x1 x2 x3 x4 y0 y1 y2 y3 y4;obtain⟨x0,x1,x2,x3,x4⟩:=id F0;obtain⟨y0,y1,y2,y3,y4⟩:=id F1;obtain⟨z0,z1,z2,z3,z4⟩:=id F2)
   first
     | (refine bodyPost_ret (v:=.agg #[.slice (some a) n C,.slice R m D]) (by simp [results,Tryz.results74,go_sem, *]) rfl ⟨rfl, ?_⟩;repeat' (first | (with_reducible exact HB) | (with_reducible refine Below.setCell ?_ ?_ _) | go_size | omega))
     | (refine bodyPost_ret (v:=.agg #[.slice (some a') n C',.slice R' m' D']) (by simp [results,Tryz.results74,go_sem, *]) rfl ⟨rfl, ?_⟩;repeat' (first | (with_reducible exact HB) | (with_reducible refine Below.setCell ?_ ?_ _) | go_size | omega))
end Go.Proofs.YtnnfafilgiajoaaGreat
