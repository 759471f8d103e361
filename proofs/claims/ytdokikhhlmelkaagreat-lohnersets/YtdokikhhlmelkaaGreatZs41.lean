/- lohner: the box of a set, and the law's. lohner: the law's box of a set. -/
import Derived.Test.YtdokikhhlmelkaaGreatZs40
namespace Go.Proofs.YtdokikhhlmelkaaGreat
open Go.ChangeShapes Go.WideShapes Go.ChangeAt Go.RowKit
def boxQ (X:Nat→Nat) (Y:Nat→Nat→Nat) (Z:Nat→Nat×Nat) (n i:Nat):Nat×Nat:=addP (makeP (X i) (X i)).1 (makeP (X i) (X i)).2 (dotP (ptsP Y i) Z n).1 (dotP (ptsP Y i) Z n).2
theorem Has3.five {w:World} {b:Nat} {x y z:Value} (h:Has3 w b x y z):w.cell? ⟨b,0,none⟩=some x∧w.cell? ⟨b,1,none⟩=some y∧w.cell? ⟨b,2,none⟩=some z:=⟨h.1,h.2.1,h.2.2.1⟩
theorem bd_right {p:Nat×Nat} (h:bdB p=true):rightB p.1 p.2=true:=by
 unfold rightB
 rw [bd_hs h,Bool.or_true]
theorem make_rightB (x:Nat):rightB (makeP x x).1 (makeP x x).2=true:=by
 unfold makeP
 split
 · next h=>unfold rightB;rw [h,Bool.or_true]
 · decide
theorem setOk_flt {n N L:Nat} {RL:Nat→Nat} {X:Nat→Nat} {Y:Nat→Nat→Nat} {Z:Nat→Nat×Nat} (h:SetOk n N L RL X Y Z):fltB n RL Y=true∧RL 0=n:=by
 obtain⟨⟨h1,h2⟩, -, -,hr, -, -⟩:=h
 have h0:=(hr 0 (by omega)).1
 refine⟨?_,h0⟩
 unfold fltB
 rw [dim_yes h1 h2,Bool.and_true]
 refine all_upto.2 fun r hlt=>?_
 unfold rowFB
 obtain⟨e,f⟩:=hr r hlt
 rw [decide_eq_true (by rw [e,h0]),e,dim_yes h1 h2,show finsB n (Y r)=true from all_upto.2 f]
 rfl
def BoxAns (b:Bool) (n:Nat) (Q:Nat→Nat×Nat) (e:Ending) (w':World):Prop:=if b then ∃g,e=.returned (.tuple #[.slice (some ⟨g,0,none⟩) n n,.int .i64 0])∧Img w' g n Q else e=.returned (.tuple #[.slice none 0 0,.int .i64 5])
theorem lbox_bad (A B R:Option Addr) (n C N D L E:Nat) (w:World)
   (cR:∀W,Below w.heap.size w W→Calls Tryz.prog 4 #[.agg #[.slice A n C,.slice B N D,.slice R L E]] W fun e w'=>e=.returned (.bool false)∧Below W.heap.size W w') :
   Calls Tryz.prog 6 #[setV A n C B N D R L E] w fun e w'=>e=.returned (.tuple #[.slice none 0 0,.int .i64 1])∧Below w.heap.size w w':=by
 unfold setV
 have S:Has3 (w.alloc (.cells #[.slice A n C,.slice B N D,.slice R L E] 26)) w.heap.size (.slice A n C) (.slice B N D) (.slice R L E):=set3_new _ _ _ _ _
 have HB:Below w.heap.size w (w.alloc (.cells #[.slice A n C,.slice B N D,.slice R L E] 26)):=by go_grown
 go_enter Tryz.func6,Tryz.ntmps6
 go_upto_region 1 with fail
 generalize (w.alloc (.cells #[.slice A n C,.slice B N D,.slice R L E] 26))=V1 at *
 obtain⟨s0,s1,s2,s3,s4,s5,s6⟩:=id S
 go_wp2_with (go_at_call 4;(with_reducible refine (cR _ HB).mono ?_);rintro _ w1 ⟨rfl,hb1⟩;replace HB:=later HB hb1)
 go_returns
 exact⟨rfl,HB⟩
set_option maxHeartbeats 8000000 in
theorem lbox_core (A B R:Option Addr) (n C D E:Nat) (X:Nat→Nat) (P Q:Nat→Nat×Nat) (n1:1≤n) (n2:n≤24) (w:World) (VX:Fls w A n X) (hP:∀i,i<n→(P i).1<18446744073709551616∧(P i).2<18446744073709551616) (hQ:∀i,i<n→Q i=addP (makeP (X i) (X i)).1 (makeP (X i) (X i)).2 (P i).1 (P i).2)
   (T:Nat→World→Prop)
   (cR:∀W,Below w.heap.size w W→Calls Tryz.prog 4 #[.agg #[.slice A n C,.slice B n D,.slice R n E]] W fun e w'=>e=.returned (.bool true)∧Below W.heap.size W w')
   (cP:∀W,Below w.heap.size w W→Calls Tryz.prog 26 #[.slice B n D] W fun e w'=>(∃g,e=.returned (.slice (some ⟨g,0,none⟩) n n)∧T g w')∧Below W.heap.size W w')
   (cA:∀W g,Below w.heap.size w W→T g W→Calls Tryz.prog 25 #[.slice (some ⟨g,0,none⟩) n n,.slice R n E] W fun e w'=>(∃g2,e=.returned (.tuple #[.slice (some ⟨g2,0,none⟩) n n,.int .i64 0])∧Img w' g2 n P∧W.heap.size≤g2)∧Below W.heap.size W w') :
   Calls Tryz.prog 6 #[.agg #[.slice A n C,.slice B n D,.slice R n E]] w fun e w'=>BoxAns ((List.range n).all fun i=>bdB (Q i)) n Q e w'∧Below w.heap.size w w':=by
 have S:Has3 (w.alloc (.cells #[.slice A n C,.slice B n D,.slice R n E] 26)) w.heap.size (.slice A n C) (.slice B n D) (.slice R n E):=set3_new _ _ _ _ _
 have HB:Below w.heap.size w (w.alloc (.cells #[.slice A n C,.slice B n D,.slice R n E] 26)):=by go_grown
 have HQ:Hid (∀i,i<n→Q i=addP (makeP (X i) (X i)).1 (makeP (X i) (X i)).2 (P i).1 (P i).2):=hQ
 clear hQ
 go_enter Tryz.func6,Tryz.ntmps6
 go_upto_region 1 with fail
 generalize (w.alloc (.cells #[.slice A n C,.slice B n D,.slice R n E] 26))=V1 at *
 obtain⟨s0,s1,s2,s3,s4,s5,s6⟩:=id S
 go_upto_region 3 with (go_at_call 4;(with_reducible refine (cR _ HB).mono ?_);rintro _ w1 ⟨rfl,hb1⟩;replace HB:=later HB hb1;replace S:=S.keep hb1;clear hb1 s0 s1 s2 s3 s4 s5 s6;obtain⟨s0,s1,s2,s3,s4,s5,s6⟩:=id S)
 have hd:Below w1.heap.size w1 w1.drew:=(Below.refl _ _).drew
 replace HB:=later HB hd;replace S:=S.keep hd;clear hd s0 s1 s2 s3 s4 s5 s6;obtain⟨s0,s1,s2,s3,s4,s5,s6⟩:=id S
 go_region_held3 (fun w'=>w'.cell? ⟨w.heap.size,0,none⟩=some (.slice A n C)∧w'.cell? ⟨w.heap.size,1,none⟩=some (.slice B n D)∧w'.cell? ⟨w.heap.size,2,none⟩=some (.slice R n E)) (first | with_reducible exact S.five | go_keep) (first
   | (go_at_call 26;(with_reducible refine (cP _ HB).mono ?_);rintro _ W1 ⟨⟨g,rfl,hT⟩,hb1⟩;replace HB:=later HB hb1;replace S:=S.keep hb1;clear hb1 s0 s1 s2 s3 s4 s5 s6;obtain⟨s0,s1,s2,s3,s4,s5,s6⟩:=id S)
   | (go_at_call 25;(with_reducible refine (cA _ _ HB hT).mono ?_);rintro _ W2 ⟨⟨g2,rfl,hI,hg⟩,hb1⟩;replace hg:=Nat.le_trans HB.size hg;replace HB:=later HB hb1;replace S:=S.keep hb1;clear hb1 s0 s1 s2 s3 s4 s5 s6;obtain⟨s0,s1,s2,s3,s4,s5,s6⟩:=id S))
 obtain⟨bx,ox,hAx, -⟩:=VX 0 (by omega)
 subst hAx
 clear cR cP cA hT
 go_wp2_with fail
 clear s0 s1 s2 s3 s4 s5 s6
 go_loopg [23] n (fun G s23 wx=>Below w.heap.size w wx∧∃i:Nat,i+G=n∧s23=.int .i64 (i:Int)∧Img wx g2 n (fun j=>if j<i then Q j else P j))
 case atStart=>exact⟨HB,0,by omega,rfl,hI.congr fun i _=>by simp⟩
 case round =>
   clear HB S hI
   obtain⟨HB,i,hi,rfl,hI⟩:=hrel
   by_cases ci:i=n
   · subst ci
     replace hI:Img wr g2 i Q:=hI.congr fun j hj=>by simp [hj]
     have hw:∀j,j<i→(Q j).1<18446744073709551616∧(Q j).2<18446744073709551616:=fun j hj=>by
       rw [HQ j hj]
       obtain⟨_,_,_,_,_,l⟩:=VX j hj
       exact addP_lt (makeP_lt l l).1 (makeP_lt l l).2 (hP j hj).1 (hP j hj).2
     have c:=send_w (some ⟨g2,0,none⟩) i i Q (by omega) wr (hI.ivs hw)
     have ea:(someU i fun j=>!bdB (Q j))=!((List.range i).all fun j=>bdB (Q j)):=by
       unfold someU
       simp only [Bool.not_not]
     rw [ea] at c
     clear ea
     cases hq:(List.range i).all (fun j=>bdB (Q j))
     · rw [hq] at c
       simp only [Bool.not_false] at c
       replace hq:Hid ((List.range i).all (fun j=>bdB (Q j))=false):=hq
       go_wp2_with (go_at_call 22;(with_reducible refine c.mono ?_);rintro _ w2 ⟨rfl,hb2⟩;replace HB:=later HB hb2)
       refine bodyPost_ret (v:=.tuple #[.slice none 0 0,.int .i64 5]) (by simp [results,Tryz.results6,go_sem]) rfl ⟨?_,HB⟩
       unfold BoxAns
       rw [show (List.range i).all (fun j=>bdB (Q j))=false from hq,if_neg (by simp)]
     · rw [hq] at c
       simp only [Bool.not_true] at c
       replace hq:Hid ((List.range i).all (fun j=>bdB (Q j))=true):=hq
       go_wp2_with (go_at_call 22;(with_reducible refine c.mono ?_);rintro _ w2 ⟨rfl,hb2⟩;replace HB:=later HB hb2;replace hI:=hI.keep hb2)
       refine bodyPost_ret (v:=.tuple #[.slice (some ⟨g2,0,none⟩) i i,.int .i64 0]) (by simp [results,Tryz.results6,go_sem]) rfl ⟨?_,HB⟩
       unfold BoxAns
       rw [show (List.range i).all (fun j=>bdB (Q j))=true from hq,if_pos rfl]
       exact⟨g2,rfl,hI⟩
   · have hlt:(i:Int)<(n:Int):=by omega
     obtain⟨b',o',hA',hb',x0,lx⟩:=(VX.keep HB) i (by omega)
     simp only [Option.some.injEq,Addr.mk.injEq,and_true] at hA'
     obtain⟨rfl,rfl⟩:=hA'
     have c1:=fun w=>point_w (X i) lx w
     have l1:=makeP_lt lx lx
     obtain⟨lp0,lp1⟩:=hP i (by omega)
     have c2:=fun w=>Add_w (makeP (X i) (X i)).1 (makeP (X i) (X i)).2 (P i).1 (P i).2 l1.1 l1.2 lp0 lp1 w
     rw [←HQ i (by omega)] at c2
     obtain⟨i0,i1,f0,f1⟩:=id (hI.2 i (by omega))
     simp only [show ¬i<i by omega,if_false] at i0 i1
     have gl:=hI.1
     clear l1
     generalize makeP (X i) (X i)=M at *
     go_upto_region 7 with fail
     have k0:=fun n:Behind wr=>n.cell i0 gl
     have k1:=fun n:Behind wr=>n.cell i1 gl
     refine tail_behind 9 (by kernel_rfl) (by kernel_rfl) ?_
     simp only [List.take_succ_cons,List.take_zero,List.drop_succ_cons,List.drop_zero]
     repeat (go_big_quiet_step (first
       | (go_at_call 28;with_reducible refine Behind.call (c1 _))
       | (go_at_call 27;with_reducible refine Behind.call (c2 _))))
     refine wpQuiet_nil ?_
     rintro _ ⟨q,rfl⟩
     obtain⟨W,hb1⟩:=q
     dsimp only
     clear k0 k1 i0 i1 f0 f1 gl x0
     replace hI:=hI.keep hb1
     replace HB:=later HB hb1
     clear hb1
     obtain⟨i0,i1,f0,f1⟩:=id (hI.2 i (by omega))
     have gl:=hI.1
     go_wp2_with fail
     go_roundg (n-i-1)
     case measure=>omega
     case rel =>
       refine⟨?_,i+1,by omega,by go_num,(hI.set i _ _ (by omega)).congr fun j hj=>?_⟩
       · repeat' (first | (with_reducible exact HB) | (with_reducible refine Below.setCell ?_ ?_ _) | go_size | omega)
       · by_cases e:j=i
         · subst e
           simp
         · simp only [e,if_false]
           by_cases q:j<i
           · simp [q,show j<i+1 by omega]
           · simp [q,show ¬j<i+1 by omega]
theorem lbox_w (A B R:Option Addr) (n C N D L E:Nat) (RA:Nat→Option Addr) (RL RC:Nat→Nat) (X:Nat→Nat) (Y:Nat→Nat→Nat) (Z:Nat→Nat×Nat) (h:SetOk n N L RL X Y Z) (w:World) (VX:Fls w A n X) (VY:Rfs w B N RA RL RC Y) (VZ:Ivs w R L Z) :
   Calls Tryz.prog 6 #[setV A n C B N D R L E] w fun e w'=>BoxAns ((List.range n).all fun i=>bdB (boxQ X Y Z n i)) n (boxQ X Y Z n) e w'∧Below w.heap.size w w':=by
 obtain⟨hf,h0⟩:=setOk_flt h
 have hs:=setB_iff.2 h
 obtain⟨⟨n1,n2⟩,rfl,rfl,hr,hx,hz⟩:=h
 have wz:=ivs_words VZ
 have wy:=fun r (hlt:r<L) c (hc:c<L)=>rfs_words VY hlt (by rw [(hr r hlt).1];exact hc)
 have wp:∀r,r<L→∀c,c<L→(ptsP Y r c).1<18446744073709551616∧(ptsP Y r c).2<18446744073709551616:=fun r hlt c hc=>makeP_lt (wy r hlt c hc) (wy r hlt c hc)
 refine lbox_core A B R L C D E X (fun i=>dotP (ptsP Y i) Z L) (boxQ X Y Z L) n1 n2 w VX (fun i hi=>dotP_lt (wp i hi) wz) (fun i _=>rfl) (fun g W=>∃k,Grd W g L L k (ptsP Y)) ?_ ?_ ?_
 · intro W hW
   have c:=lright_w A B R L C L D L E RA RL RC X Y Z (by omega) (by omega) (by omega) W (VX.keep hW) (VY.keep hW) (VZ.keep hW)
   rw [hs] at c
   exact c
 · intro W hW
   have c:=Points_good B L D RA RL RC Y (by omega) hf W (VY.keep hW)
   rw [h0] at c
   exact c.mono fun e w' ⟨g,k,a,b,d⟩=>⟨⟨g,a,k,b⟩,d⟩
 · intro W g hW ⟨k,G⟩
   have V:=G.rws (by omega) wp
   refine (apply_new _ R L L L E _ _ _ (ptsP Y) Z n2 (by omega) n2 (fun _ _=>rfl) W V (VZ.keep hW) ?_ ?_).mono fun e w' ⟨g2,a,b,d,f⟩=>⟨⟨g2,a,b,d⟩,f⟩
   · intro W2 hW2
     have c:=matMay_w (some ⟨g,0,none⟩) L L _ _ _ _ (by omega) W2 (V.keep hW2)
     have e:matB L (fun _=>L) (ptsP Y)=true:=by
       rw [matB_all fun j _=>?_,dim_yes n1 n2]
       rw [decide_eq_true rfl,vecB_all (X:=ptsP Y j) fun c _=>make_rightB (Y j c),dim_yes n1 n2]
       rfl
     rw [e] at c
     exact c
   · intro W2 hW2
     have c:=vecMay_w R L E Z (by omega) W2 ((VZ.keep hW).keep hW2)
     rw [vecB_all fun j hj=>bd_right (hz j hj),dim_yes n1 n2] at c
     exact c
theorem ownI_img {B:Nat} {w:World} {v:Value} {xs:List (Nat×Nat)} (h:OwnI B w v xs) (h0:0<xs.length):∃g C,v=.slice (some ⟨g,0,none⟩) xs.length C∧Img w g xs.length (fun i=>xs.getD i (0,0))∧B≤g:=by
 have h':w.ownsRow B 38 2 v xs.length (ivCells xs):=h
 rcases h'.2 with ⟨rfl,hn⟩ | ⟨g,cap,cur,rfl, -⟩
 · omega
 · have hl:=World.ownsRow.lt h g rfl
   refine⟨g,cap,rfl,⟨hl.2,fun i hi=>?_⟩,hl.1⟩
   have hg:xs[i]?=some (xs.getD i (0,0)):=by simp [List.getD,hi]
   obtain⟨a,b⟩:=ivCells_at xs i _ hg
   refine⟨?_, ?_,World.ownsRow.frozenAt h _,World.ownsRow.frozenAt h _⟩
   · rw [World.ownsRow.cellAt h (i*2) (by omega)];exact a
   · rw [World.ownsRow.cellAt h (i*2+1) (by omega)];exact b
theorem Has3.far1 {w:World} {b c o:Nat} {x y z:Value} (h:Has3 w b x y z) (hne:c≠b) (v:Value):Has3 (w.setCell ⟨c,o,none⟩ v) b x y z:=by
 obtain⟨h0,h1,h2,f0,f1,f2,hl⟩:=h
 have hne':b≠c:=fun e=>hne e.symm
 refine⟨by simp [World.cell?_setCell_far, *],by simp [World.cell?_setCell_far, *],by simp [World.cell?_setCell_far, *],by go_simp,by go_simp,by go_simp, ?_⟩
 simp only [World.size_setCell];exact hl
set_option maxHeartbeats 8000000 in
theorem lawbox_core (A B R:Option Addr) (n C D E:Nat) (X:Nat→Nat) (P Q:Nat→Nat×Nat) (n1:1≤n) (n2:n≤24) (w:World) (VX:Fls w A n X) (hP:∀i,i<n→(P i).1<18446744073709551616∧(P i).2<18446744073709551616) (hQ:∀i,i<n→Q i=addP (makeP (X i) (X i)).1 (makeP (X i) (X i)).2 (P i).1 (P i).2)
   (T:Option Addr→Nat→World→Prop)
   (cP:∀W,Below w.heap.size w W→Calls Tryz.prog 18 #[.slice B n D] W fun e w'=>(∃G F,e=.returned (.slice G n F)∧T G F w')∧Below W.heap.size W w')
   (cA:∀W G F,Below w.heap.size w W→T G F W→Calls Tryz.prog 29 #[.slice G n F,.slice R n E] W fun e w'=>(∃g2 c2,e=.returned (.slice (some ⟨g2,0,none⟩) n c2)∧Img w' g2 n P∧W.heap.size≤g2)∧Below W.heap.size W w') :
   Calls Tryz.prog 8 #[.agg #[.slice A n C,.slice B n D,.slice R n E]] w fun e w'=>(∃g c,e=.returned (.slice (some ⟨g,0,none⟩) n c)∧Img w' g n Q)∧Below w.heap.size w w':=by
 have S:Has3 (w.alloc (.cells #[.slice A n C,.slice B n D,.slice R n E] 26)) w.heap.size (.slice A n C) (.slice B n D) (.slice R n E):=set3_new _ _ _ _ _
 have HB:Below w.heap.size w (w.alloc (.cells #[.slice A n C,.slice B n D,.slice R n E] 26)):=by go_grown
 have HQ:Hid (∀i,i<n→Q i=addP (makeP (X i) (X i)).1 (makeP (X i) (X i)).2 (P i).1 (P i).2):=hQ
 clear hQ
 go_enter Tryz.func8,Tryz.ntmps8
 go_upto_region 1 with fail
 generalize (w.alloc (.cells #[.slice A n C,.slice B n D,.slice R n E] 26))=V1 at *
 have hd:Below V1.heap.size V1 V1.drew:=(Below.refl _ _).drew
 replace HB:=later HB hd;replace S:=S.keep hd;clear hd;obtain⟨s0,s1,s2,s3,s4,s5,s6⟩:=id S
 go_region_held3 (fun w'=>w'.cell? ⟨w.heap.size,0,none⟩=some (.slice A n C)∧w'.cell? ⟨w.heap.size,1,none⟩=some (.slice B n D)∧w'.cell? ⟨w.heap.size,2,none⟩=some (.slice R n E)) (first | with_reducible exact S.five | go_keep) (first
   | (go_at_call 18;(with_reducible refine (cP _ HB).mono ?_);rintro _ W1 ⟨⟨G,F,rfl,hT⟩,hb1⟩;replace HB:=later HB hb1;replace S:=S.keep hb1;clear hb1 s0 s1 s2 s3 s4 s5 s6;obtain⟨s0,s1,s2,s3,s4,s5,s6⟩:=id S)
   | (go_at_call 29;(with_reducible refine (cA _ _ _ HB hT).mono ?_);rintro _ W2 ⟨⟨g2,c2,rfl,hI,hg⟩,hb1⟩;replace hg:=Nat.lt_of_lt_of_le s6 hg;replace HB:=later HB hb1;replace S:=S.keep hb1;clear hb1 s0 s1 s2 s3 s4 s5 s6;obtain⟨s0,s1,s2,s3,s4,s5,s6⟩:=id S))
 obtain⟨bx,ox,hAx, -⟩:=VX 0 (by omega)
 subst hAx
 clear cP cA hT
 go_wp2_with fail
 clear s0 s1 s2 s3 s4 s5 s6
 go_loopg [13] n (fun G s13 wx=>Below w.heap.size w wx∧Has3 wx w.heap.size (.slice (some ⟨bx,ox,none⟩) n C) (.slice B n D) (.slice R n E)∧∃i:Nat,i+G=n∧s13=.int .i64 (i:Int)∧w.heap.size<g2∧Img wx g2 n (fun j=>if j<i then Q j else P j))
 case atStart=>exact⟨HB,S,0,by omega,rfl,by omega,hI.congr fun i _=>by simp⟩
 case round =>
   clear HB S hI hg
   obtain⟨HB,S,i,hi,rfl,hg,hI⟩:=hrel
   by_cases ci:i=n
   · subst ci
     replace hI:Img wr g2 i Q:=hI.congr fun j hj=>by simp [hj]
     go_wp2_with fail
     refine bodyPost_ret (v:=.slice (some ⟨g2,0,none⟩) i c2) (by simp [results,Tryz.results8,go_sem]) rfl ⟨⟨g2,c2,rfl,hI⟩,HB⟩
   · have hlt:(i:Int)<(n:Int):=by omega
     obtain⟨b',o',hA',hb',x0,lx⟩:=(VX.keep HB) i (by omega)
     simp only [Option.some.injEq,Addr.mk.injEq,and_true] at hA'
     obtain⟨rfl,rfl⟩:=hA'
     have c1:=fun w=>rmake_w (X i) (X i) lx lx w
     have l1:=makeP_lt lx lx
     obtain⟨lp0,lp1⟩:=hP i (by omega)
     have c2':=fun w=>rAdd_w (makeP (X i) (X i)).1 (makeP (X i) (X i)).2 (P i).1 (P i).2 l1.1 l1.2 lp0 lp1 w
     rw [←HQ i (by omega)] at c2'
     obtain⟨i0,i1,f0,f1⟩:=id (hI.2 i (by omega))
     simp only [show ¬i<i by omega,if_false] at i0 i1
     have gl:=hI.1
     obtain⟨s0,s1,s2,s3,s4,s5,s6⟩:=id S
     clear l1
     generalize makeP (X i) (X i)=M at *
     go_upto_region 5 with fail
     have k0:=fun n:Behind wr=>n.cell i0 gl
     have k1:=fun n:Behind wr=>n.cell i1 gl
     have k2:=fun n:Behind wr=>n.cell s0 s6
     have k3:=fun n:Behind wr=>n.cell x0 hb'
     refine tail_behind 18 (by kernel_rfl) (by kernel_rfl) ?_
     simp only [List.take_succ_cons,List.take_zero,List.drop_succ_cons,List.drop_zero]
     repeat (go_big_quiet_step (first
       | (go_at_call 14;with_reducible refine Behind.call (c1 _))
       | (go_at_call 30;with_reducible refine Behind.call (c2' _))))
     refine wpQuiet_nil ?_
     rintro _ ⟨q,rfl⟩
     obtain⟨W,hb1⟩:=q
     dsimp only
     clear k0 k1 k2 k3 i0 i1 f0 f1 gl x0 s0 s1 s2 s3 s4 s5 s6
     replace hI:=hI.keep hb1
     replace HB:=later HB hb1
     replace S:=S.keep hb1
     clear hb1
     obtain⟨i0,i1,f0,f1⟩:=id (hI.2 i (by omega))
     have gl:=hI.1
     go_wp2_with fail
     go_roundg (n-i-1)
     case measure=>omega
     case rel =>
       refine⟨?_, ?_,i+1,by omega,by go_num,hg,(hI.set i _ _ (by omega)).congr fun j hj=>?_⟩
       · repeat' (first | (with_reducible exact HB) | (with_reducible refine Below.setCell ?_ ?_ _) | go_size | omega)
       · exact (S.far1 (by omega) _).far1 (by omega) _
       · by_cases e:j=i
         · subst e
           simp
         · simp only [e,if_false]
           by_cases q:j<i
           · simp [q,show j<i+1 by omega]
           · simp [q,show ¬j<i+1 by omega]
theorem lawbox_w (A B R:Option Addr) (n C N D L E:Nat) (RA:Nat→Option Addr) (RL RC:Nat→Nat) (X:Nat→Nat) (Y:Nat→Nat→Nat) (Z:Nat→Nat×Nat) (h:SetOk n N L RL X Y Z) (w:World) (VX:Fls w A n X) (VY:Rfs w B N RA RL RC Y) (VZ:Ivs w R L Z) :
   Calls Tryz.prog 8 #[setV A n C B N D R L E] w fun e w'=>(∃g c,e=.returned (.slice (some ⟨g,0,none⟩) n c)∧Img w' g n (boxQ X Y Z n))∧Below w.heap.size w w':=by
 obtain⟨hf,h0⟩:=setOk_flt h
 obtain⟨⟨n1,n2⟩,rfl,rfl,hr,hx,hz⟩:=h
 have wz:=ivs_words VZ
 have wy:=fun r (hlt:r<L) c (hc:c<L)=>rfs_words VY hlt (by rw [(hr r hlt).1];exact hc)
 have wp:∀r,r<L→∀c,c<L→(ptsP Y r c).1<18446744073709551616∧(ptsP Y r c).2<18446744073709551616:=fun r hlt c hc=>makeP_lt (wy r hlt c hc) (wy r hlt c hc)
 refine lawbox_core A B R L C D E X (fun i=>dotP (ptsP Y i) Z L) (boxQ X Y Z L) n1 n2 w VX (fun i hi=>dotP_lt (wp i hi) wz) (fun i _=>rfl) (fun G F W=>∃SA SC,Rws W G L SA (fun _=>L) SC (ptsP Y)) ?_ ?_
 · intro W hW
   have c:=rPoints_any B L D RA RL RC Y (by omega) W (VY.keep hW)
   simp only [hf,if_true,h0] at c
   exact c.mono fun e w' ⟨G,F,SA,SC,a,b,d⟩=>⟨⟨G,F,a,SA,SC,b⟩,d⟩
 · rintro W G F hW ⟨SA,SC,V⟩
   refine (rapply_w G R L F L E SA _ SC (ptsP Y) Z n2 n2 (fun _ _=>rfl) W V (VZ.keep hW)).mono ?_
   rintro e w' ⟨v,rfl,hO,hb⟩
   have hlen:(imageP (ptsP Y) Z L L).length=L:=imageP_len _ _ _ _
   obtain⟨g,c,rfl,hI,hg⟩:=ownI_img hO (by rw [hlen];omega)
   rw [hlen] at hI
   refine⟨⟨g,c,by rw [hlen],hI.congr fun i hi=>?_,hg⟩,hb⟩
   simp [imageP,List.getD,hi]
end Go.Proofs.YtdokikhhlmelkaaGreat
