/- lohner: a box is centred; the set of a box. -/
import Derived.Test.YtdokikhhlmelkaaGreatZs41
import Derived.Test.YtdokikhhlmelkaaGreatZs42
import Derived.Test.YtdokikhhlmelkaaGreatZs44
namespace Go.Proofs.YtdokikhhlmelkaaGreat
open Go.ChangeShapes Go.WideShapes Go.ChangeAt Go.RowKit
structure But (x:Nat) (w w':World):Prop where
 size:w.heap.size≤w'.heap.size
 block:∀b,b<w.heap.size→b≠x→w'.heap[b]?=w.heap[b]?
theorem But.refl (x:Nat) (w:World):But x w w:=⟨Nat.le_refl _,fun _ _ _=>rfl⟩
theorem But.keep {x:Nat} {w w1 w2:World} (h:But x w w1) (hb:Below w1.heap.size w1 w2):But x w w2:=⟨Nat.le_trans h.size hb.size,fun b hlt hne=>(hb.block b (Nat.lt_of_lt_of_le hlt h.size)).trans (h.block b hlt hne)⟩
theorem But.set {x:Nat} {w w1:World} (h:But x w w1) (k:Nat) (v:Value):But x w (w1.setCell ⟨x,k,none⟩ v):=⟨by simp only [World.size_setCell];exact h.size,fun b hlt hne=>(Below.heap_setCell _ _ _ _ hne).trans (h.block b hlt hne)⟩
theorem But.new {x c:Nat} {w w1:World} (h:But x w w1) (hc:w.heap.size≤c) (k:Nat) (v:Value):But x w (w1.setCell ⟨c,k,none⟩ v):=⟨by simp only [World.size_setCell];exact h.size,fun b hlt hne=>(Below.heap_setCell _ _ _ _ (by show b≠c;omega)).trans (h.block b hlt hne)⟩
theorem Has2.farY {w:World} {b c o:Nat} {x y:Value} (h:Has2 w b x y) (hne:c≠b) (v:Value):Has2 (w.setCell ⟨c,o,none⟩ v) b x y:=by
 obtain⟨h0,h1,f0,f1,hl⟩:=h
 have hne':b≠c:=fun e=>hne e.symm
 refine⟨by simp [World.cell?_setCell_far, *],by simp [World.cell?_setCell_far, *],by go_simp,by go_simp, ?_⟩
 simp only [World.size_setCell];exact hl
set_option maxHeartbeats 8000000 in
theorem centre_w (gc n C:Nat) (A:Option Addr) (X:Nat→Nat×Nat) (K:Nat→Nat) (n2:n≤24) (w0 w:World) (V:Ivs w0 A n X) (hm:∀i,i<n→midP (X i).1 (X i).2<18446744073709551616) (hl:∀i,i<n→(leftQ (X i)).1<18446744073709551616∧(leftQ (X i)).2<18446744073709551616) (H0:Below w0.heap.size w0 w) (hgc:w0.heap.size≤gc) (O:Out w gc n (fun i=>.float .f64 (K i))) :
   Calls Tryz.prog 34 #[.slice (some ⟨gc,0,none⟩) n n,.slice A n C] w fun e w'=>∃gr,e=.returned (.slice (some ⟨gr,0,none⟩) n n)∧Out w' gc n (fun i=>.float .f64 (midP (X i).1 (X i).2))∧Img w' gr n (fun i=>leftQ (X i))∧w.heap.size≤gr∧Below w0.heap.size w0 w'∧But gc w w':=by
 have hlt0:=O.1
 go_enter Tryz.func34,Tryz.ntmps34
 go_wp2_with (at_make;refine wpList_makeI (by rfl) _ _ (by rfl) n (by rfl) (by rfl) (by omega) ?_;intro w3 hI hb3 hS3)
 have hF:But gc w w3:=(But.refl gc w).keep hb3
 have hg0:w.heap.size≤w.heap.size:=Nat.le_refl _
 replace O:=O.keep hb3
 have HB:Below w0.heap.size w0 w3:=later H0 hb3
 obtain⟨gr,eg⟩:∃gr,gr=w.heap.size:=⟨_,rfl⟩
 have hgr:Hid (w.heap.size≤gr∧gr≠gc∧w0.heap.size≤gr):=⟨by omega,by omega,by have:=H0.size;omega⟩
 rw [←eg] at hI ⊢
 clear eg hg0 hb3 hS3 H0
 go_loopg [13] n (fun G s13 wx=>Below w0.heap.size w0 wx∧But gc w wx∧∃i:Nat,i+G=n∧s13=.int .i64 (i:Int)∧Out wx gc n (fun j=>if j<i then .float .f64 (midP (X j).1 (X j).2) else .float .f64 (K j))∧Img wx gr n (fun j=>if j<i then leftQ (X j) else (0,0)))
 case atStart=>exact⟨HB,hF,0,by omega,rfl,O.congr fun i _=>by simp,hI.congr fun i _=>by simp⟩
 case round =>
   clear HB hF O hI
   obtain⟨HB,hF,i,hi,rfl,O,hI⟩:=hrel
   by_cases ci:i=n
   · subst ci
     go_wp2_with fail
     go_ret
     exact⟨gr,rfl,O.congr fun j hj=>by simp [hj],hI.congr fun j hj=>by simp [hj],hgr.1,HB,hF⟩
   · have hlt:(i:Int)<(n:Int):=by omega
     obtain⟨b,o,hA,hb,x0,x1,l0,l1⟩:=(V.keep HB) i (by omega)
     subst hA
     have c1:=fun w=>Mid_w (X i).1 (X i).2 l0 l1 w
     have wm:=hm i (by omega)
     have c2:=fun w=>point_w (midP (X i).1 (X i).2) wm w
     have l2:=makeP_lt wm wm
     have c3:∀w,Calls Tryz.prog 62 #[.agg #[.float .f64 (X i).1,.float .f64 (X i).2],.agg #[.float .f64 (makeP (midP (X i).1 (X i).2) (midP (X i).1 (X i).2)).1,.float .f64 (makeP (midP (X i).1 (X i).2) (midP (X i).1 (X i).2)).2]] w fun e w'=>e=.returned (.agg #[.float .f64 (leftQ (X i)).1,.float .f64 (leftQ (X i)).2])∧Below w.heap.size w w':=fun w=>Sub_w (X i).1 (X i).2 _ _ l0 l1 l2.1 l2.2 w
     have ne1:gr≠gc:=hgr.2.1
     clear l2
     have gl0:=O.1
     have gl1:=hI.1
     go_upto_region 5 with fail
     have D:Has2 (wr.alloc (.cells #[.float .f64 (X i).1,.float .f64 (X i).2] 38)) wr.heap.size (.float .f64 (X i).1) (.float .f64 (X i).2):=has2_new _ _ _ _
     have hb0:Below wr.heap.size wr (wr.alloc (.cells #[.float .f64 (X i).1,.float .f64 (X i).2] 38)):=by go_grown
     replace O:=O.keep hb0
     replace hI:=hI.keep hb0
     replace HB:=later HB hb0
     replace hF:=hF.keep hb0
     have nx:gc≠wr.heap.size:=Nat.ne_of_lt gl0
     clear hb0 x0 x1 gl0 gl1
     generalize wr.alloc (.cells #[.float .f64 (X i).1,.float .f64 (X i).2] 38)=W0 at *
     generalize wr.heap.size=xb at *
     obtain⟨d0,d1,d2,d3,d4⟩:=id D
     go_upto_region 6 with (go_at_call 60;(with_reducible refine (c1 _).mono ?_);rintro _ W ⟨rfl,hb1⟩;replace O:=O.keep hb1;replace hI:=hI.keep hb1;replace HB:=later HB hb1;replace hF:=hF.keep hb1;replace D:=D.keep hb1;clear hb1 d0 d1 d2 d3 d4;obtain⟨p0,p1⟩:=id (O.2 i (by omega));have gl:=O.1)
     replace O:=O.set i (.float .f64 (midP (X i).1 (X i).2)) (by omega)
     replace hI:=hI.far (k:=i) (fun e=>ne1 e.symm) (.float .f64 (midP (X i).1 (X i).2))
     replace D:=D.farY (o:=i) nx (.float .f64 (midP (X i).1 (X i).2))
     replace HB:=HB.setCell (p:=⟨gc,i,none⟩) hgc (.float .f64 (midP (X i).1 (X i).2))
     replace hF:=hF.set i (.float .f64 (midP (X i).1 (X i).2))
     clear p0 p1 gl
     generalize W.setCell ⟨gc,i,none⟩ (.float .f64 (midP (X i).1 (X i).2))=W1 at *
     obtain⟨d0,d1,d2,d3,d4⟩:=id D
     obtain⟨p0,p1⟩:=id (O.2 i (by omega))
     simp only [if_true] at p0
     have gl:=O.1
     have k0:=fun n:Behind W1=>n.cell d0 d4
     have k1:=fun n:Behind W1=>n.cell d1 d4
     have k2:=fun n:Behind W1=>n.cell p0 gl
     refine tail_behind 9 (by kernel_rfl) (by kernel_rfl) ?_
     simp only [List.take_succ_cons,List.take_zero,List.drop_succ_cons,List.drop_zero]
     repeat (go_big_quiet_step (first
       | (go_at_call 28;with_reducible refine Behind.call (c2 _))
       | (go_at_call 62;with_reducible refine Behind.call (c3 _))))
     refine wpQuiet_nil ?_
     rintro _ ⟨q,rfl⟩
     obtain⟨W2,hb1⟩:=q
     dsimp only
     clear k0 k1 k2 d0 d1 d2 d3 d4 p0 p1 gl c1 c2 c3 D
     replace O:=O.keep hb1
     replace hI:=hI.keep hb1
     replace HB:=later HB hb1
     replace hF:=hF.keep hb1
     clear hb1
     obtain⟨i0,i1,f0,f1⟩:=id (hI.2 i (by omega))
     have gl:=hI.1
     go_wp2_with fail
     go_roundg (n-i-1)
     case measure=>omega
     case rel =>
       refine⟨(HB.setCell (p:=⟨gr,i*2,none⟩) hgr.2.2 _).setCell (p:=⟨gr,i*2+1,none⟩) hgr.2.2 _,(hF.new hgr.1 _ _).new hgr.1 _ _,i+1,by omega,by go_num,((O.far (c:=gr) ne1 _).far (c:=gr) ne1 _).congr fun j hj=>?_,(hI.set i _ _ (by omega)).congr fun j hj=>?_⟩
       · by_cases e:j=i
         · subst e
           simp
         · simp only [e,if_false]
           by_cases q:j<i
           · simp [q,show j<i+1 by omega]
           · simp [q,show ¬j<i+1 by omega]
       · by_cases e:j=i
         · subst e
           simp
         · simp only [e,if_false]
           by_cases q:j<i
           · simp [q,show j<i+1 by omega]
           · simp [q,show ¬j<i+1 by omega]
end Go.Proofs.YtdokikhhlmelkaaGreat
