/- unit.Infer, whole. UnitFits' smaller callees: alive, small, Like; truth values in a slice that grows. orreryref14's Args and Graph. -/
import Derived.Test.YtbejmklkicoibaaKe31
import Derived.Test.YtbejmklkicoibaaKe19
import Derived.Test.YtbejmklkicoibaaKe10
namespace Go.Proofs.Ytbejmklkicoibaa
open Go.ChangeShapes Go.WideShapes Go.ChangeAt Go.RowKit
def inferR (X:Nat->Nd) (n:Nat) (Y:Nat->Int) (m n0 n1:Nat) (G:Nat->Bool) (D:Nat->Nat->Int×Int) (S:Nat->Int×Int):Except Int (Nat->Nat->Int×Int) :=
 if (graphB X n&&(List.range m).all fun i=>oneOf (Y i) (n:Int))=true then
  (if (vrightB n0 n1 G D S&&haveB X (needH X n Y m) n n0)=true then workR X (needH X n Y m) G D S n else .error 1)
 else .error 170
set_option maxRecDepth 4000 in
set_option maxHeartbeats 8000000 in
theorem uInfer_w (AN:Option Addr) (n CN:Nat) (X:Nat->Nd) (AQ:Option Addr) (m CQ:Nat) (Y:Nat->Int) (A0 A1:Option Addr) (n0 C0 n1 C1:Nat) (D:Nat->Nat->Int×Int) (G:Nat->Bool) (S:Nat->Int×Int)
  (hn:n<=4000) (hm:(m:Int)<=9223372036854775807) (hn0:n0<=500) (hn1:(n1:Int)<=9223372036854775807) (hX:∀i,i<n->(X i).Ok) (hS:Dim64 S) (hD:∀v,v<n0->Dim64 (D v)) (w:World) (VN:Nds w AN n X) (VQ:Ins w AQ m Y) (VD:Dms w A0 n0 D) (VG:Bls w A1 n1 G) :
  Calls Try.prog 6 #[.slice AN n CN,.slice AQ m CQ,.slice A0 n0 C0,.slice A1 n1 C1,dimV S] w fun r w'=>TrAns w.heap.size r w' n0 (inferR X n Y m n0 n1 G D S)/\Below w.heap.size w w':=by
 obtain⟨R,hRR⟩:∃R,Hid (inferR X n Y m n0 n1 G D S=R):=⟨_,rfl⟩
 rw [hRR.out]
 have cg:=fun W vn=>ugraph_w AN n CN X hX W vn (by omega)
 have cb:=fun W vq=>uallBelow_w AQ m CQ (n:Int) Y W vq hm
 show Calls Try.prog _ #[_,_,_,_,.agg #[.int .i64 (S 0).1,.int .i64 (S 0).2,.int .i64 (S 1).1,.int .i64 (S 1).2,.int .i64 (S 2).1,.int .i64 (S 2).2,.int .i64 (S 3).1,.int .i64 (S 3).2,.int .i64 (S 4).1,.int .i64 (S 4).2,.int .i64 (S 5).1,.int .i64 (S 5).2,.int .i64 (S 6).1,.int .i64 (S 6).2]] w _
 obtain⟨XN,XS,HB⟩:=blks2 w 22 30 [.slice AN n CN] [.int .i64 (S 0).1,.int .i64 (S 0).2,.int .i64 (S 1).1,.int .i64 (S 1).2,.int .i64 (S 2).1,.int .i64 (S 2).2,.int .i64 (S 3).1,.int .i64 (S 3).2,.int .i64 (S 4).1,.int .i64 (S 4).2,.int .i64 (S 5).1,.int .i64 (S 5).2,.int .i64 (S 6).1,.int .i64 (S 6).2]
 go_enter Try.func6,Try.ntmps6
 go_upto_region 1 with fail
 generalize ((w.alloc (.cells #[.slice AN n CN] 22)).alloc (.cells #[.int .i64 (S 0).1,.int .i64 (S 0).2,.int .i64 (S 1).1,.int .i64 (S 1).2,.int .i64 (S 2).1,.int .i64 (S 2).2,.int .i64 (S 3).1,.int .i64 (S 3).2,.int .i64 (S 4).1,.int .i64 (S 4).2,.int .i64 (S 5).1,.int .i64 (S 5).2,.int .i64 (S 6).1,.int .i64 (S 6).2] 30))=V1 at *
 have x0:=XN.cell 0 _ rfl
 cases hg:graphB X n with
 | false =>
  rw [hg] at cg
  have eR:Hid (R=.error 170):=by
   have q:=hRR.out
   unfold inferR at q
   rw [hg,Bool.false_and,if_neg (by simp)] at q
   exact q.symm
  clear hRR hg
  go_wp2_with (go_at_call 11;(with_reducible refine (cg _ (VN.keep HB)).mono ?_);rintro _ W2 ⟨rfl,hb2⟩;replace HB:=later HB hb2;clear hb2 x0)
  have e2:=eR.out
  subst e2
  exact bodyPost_ret (v:=.tuple #[.slice none 0 0,.int .i64 170]) (by simp [results,Try.results6,go_sem, *]) rfl ⟨rfl,HB⟩
 | true =>
  rw [hg] at cg
  cases ha:(List.range m).all fun i=>oneOf (Y i) (n:Int) with
  | false =>
   rw [ha] at cb
   have eR:Hid (R=.error 170):=by
    have q:=hRR.out
    unfold inferR at q
    rw [hg,ha,Bool.and_false,if_neg (by simp)] at q
    exact q.symm
   clear hRR hg ha
   go_wp2_with (first
    | (go_at_call 11;(with_reducible refine (cg _ (VN.keep HB)).mono ?_);rintro _ W2 ⟨rfl,hb2⟩;replace HB:=later HB hb2;replace XN:=XN.keeps hb2;clear hb2 x0;have x0:=XN.cell 0 _ rfl)
    | (go_at_call 12;(with_reducible refine (cb _ (VQ.keep HB)).mono ?_);rintro _ _ ⟨rfl,rfl⟩))
   have e2:=eR.out
   subst e2
   exact bodyPost_ret (v:=.tuple #[.slice none 0 0,.int .i64 170]) (by simp [results,Try.results6,go_sem, *]) rfl ⟨rfl,HB⟩
  | true =>
   rw [ha] at cb
   obtain⟨N,hNN⟩:∃N,Hid (needH X n Y m=N):=⟨_,rfl⟩
   have hR1:Hid ((if (vrightB n0 n1 G D S&&haveB X N n n0)=true then workR X N G D S n else .error 1)=R):=by
    have q:=hRR.out
    unfold inferR at q
    rw [hg,ha,Bool.and_true,if_pos rfl,hNN.out] at q
    exact q
   have hnode:∀i,i<n->nodeB (X i) (i:Int)=true:=by
    unfold graphB at hg
    simp only [Bool.and_eq_true,decide_eq_true_eq] at hg
    exact all_upto2.1 hg.2
   have hop:∀i,i<n->∀j,j<(X i).ar->0<=(X i).at j/\(X i).at j<(i:Int):=fun i hi j hj=>by
    have q:=hnode i hi
    unfold nodeB opsG at q
    simp only [Bool.and_eq_true] at q
    have q2:=all_upto2.1 q.2.2 j hj
    unfold oneOf at q2
    simpa using q2
   have hY:∀k,k<m->0<=Y k/\Y k<(n:Int):=fun k hk=>by
    have q2:=all_upto2.1 ha k hk
    unfold oneOf at q2
    simpa using q2
   have hN:Hid (∀i,i<n->N i=true->∀j,j<(X i).ar->N ((X i).at j).toNat=true):=by rw [<-hNN.out];exact needH_closed hop Y m
   have cn:=fun W vn vq=>uneeded_w AN n CN AQ m CQ X Y hn hm hY (fun i hi j hj=>⟨(hop i hi j hj).1,by have:=(hop i hi j hj).2;omega⟩) W vn vq
   rw [hNN.out] at cn
   have cR:=fun W vd vg=>uvright_w A0 A1 n0 C0 n1 C1 D G S hS (by omega) hn1 hD W vd vg
   have HN:Hid (∀i,i<n->nodeB (X i) (i:Int)=true):=hnode
   have HX:Hid (∀i,i<n->(X i).Ok):=hX
   have HD:Hid (∀v,v<n0->Dim64 (D v)):=hD
   have HO:Hid (∀i,i<n->∀j,j<(X i).ar->0<=(X i).at j/\(X i).at j<(i:Int)):=hop
   have HS:Hid (Dim64 S):=hS
   clear hRR hg ha hnode hop hY hX hD hS hNN
   go_upto_region 4 with (first
    | (go_at_call 11;(with_reducible refine (cg _ (VN.keep HB)).mono ?_);rintro _ W2 ⟨rfl,hb2⟩;replace HB:=later HB hb2;replace XN:=XN.keeps hb2;replace XS:=XS.keeps hb2;clear hb2 x0;have x0:=XN.cell 0 _ rfl)
    | (go_at_call 12;(with_reducible refine (cb _ (VQ.keep HB)).mono ?_);rintro _ _ ⟨rfl,rfl⟩)
    | (go_at_call 13;(with_reducible refine (cn _ (VN.keep HB) (VQ.keep HB)).mono ?_);rintro _ W3 ⟨g,hg3,rfl,VC,hb3⟩;replace HB:=later HB hb3;replace XN:=XN.keeps hb3;replace XS:=XS.keeps hb3;clear hb3 x0;have x0:=XN.cell 0 _ rfl))
   have GA:Below W3.heap.size W3 (W3.alloc (.cells #[.slice (some ⟨g,0,none⟩) n n] 25)):=Below.alloc (Below.refl _ _) (Nat.le_refl _) _
   have XQ:BlkAt (W3.alloc (.cells #[.slice (some ⟨g,0,none⟩) n n] 25)) W3.heap.size 25 [.slice (some ⟨g,0,none⟩) n n]:=blk_new _ _ _
   replace HB:=later HB GA
   replace XN:=XN.keeps GA
   replace XS:=XS.keeps GA
   replace VC:=VC.keep GA
   obtain⟨qb,hqb⟩:∃qb,qb=W3.heap.size:=⟨_,rfl⟩
   rw [<-hqb] at XQ ⊢
   clear GA x0 hqb
   generalize (W3.alloc (.cells #[.slice (some ⟨g,0,none⟩) n n] 25))=V3 at *
   go_upto_region 5 with (first
    | (refine wpList_loadBig (by rfl) _ 30 (by rfl) Try.underlying30 (dimL S) (by kernel_rfl) (by rfl) (XS.cell0) (dim_valU S) ?_)
    | (refine wpList_storeBig (by rfl) _ _ 43 (by rfl) (blk_new _ _ _) (vrL (.slice A0 n0 C0) (.slice A1 n1 C1) S) (by kernel_rfl) (by rfl) (by rfl) (by rfl) (by rfl) ?_;rintro V4 XR hs2 hB2 hk2))
   have grw:Below V3.heap.size V3 V4:=hB2 _ _ (Below.alloc (Below.refl _ _) (Nat.le_refl _) _) (Nat.le_refl _)
   have XV:=XR
   replace HB:=later HB grw
   replace XN:=XN.keeps grw
   replace XQ:=XQ.keeps grw
   replace VC:=VC.keep grw
   obtain⟨vb,hvb⟩:∃vb,vb=V3.heap.size:=⟨_,rfl⟩
   rw [<-hvb] at XV ⊢
   clear XR hB2 hk2 hs2 grw hvb XS
   try simp only [Act.put]
   have x0:=XN.cell 0 _ rfl
   have x1:=XQ.cell 0 _ rfl
   have cH:=fun W vn vc=>uhave_w A0 A1 n0 C0 n1 C1 S AN n CN X g N hn W vn vc
   cases hr:vrightB n0 n1 G D S with
   | false =>
    rw [hr] at cR
    have eR:Hid (R=.error 1):=by
     have q:=hR1.out
     rw [hr,Bool.false_and,if_neg (by simp)] at q
     exact q.symm
    clear hR1 hr
    go_wp2_with (first
     | (refine wpList_loadBig (by rfl) _ 43 (by rfl) Try.underlying43 (vrL (.slice A0 n0 C0) (.slice A1 n1 C1) S) (by kernel_rfl) (by rfl) (XV.cell0) (vr_val _ _ _) ?_)
     | (go_at_call 14;(with_reducible refine (cR _ (VD.keep HB) (VG.keep HB)).mono ?_);rintro _ W5 ⟨rfl,hb2⟩;replace HB:=later HB hb2;clear hb2 x0 x1))
    have e2:=eR.out
    subst e2
    exact bodyPost_ret (v:=.tuple #[.slice none 0 0,.int .i64 1]) (by simp [results,Try.results6,go_sem, *]) rfl ⟨rfl,HB⟩
   | true =>
    rw [hr] at cR
    cases hv:haveB X N n n0 with
    | false =>
     rw [hv] at cH
     have eR:Hid (R=.error 1):=by
      have q:=hR1.out
      rw [hr,hv,Bool.and_false,if_neg (by simp)] at q
      exact q.symm
     clear hR1 hr hv
     go_wp2_with (first
      | (refine wpList_loadBig (by rfl) _ 43 (by rfl) Try.underlying43 (vrL (.slice A0 n0 C0) (.slice A1 n1 C1) S) (by kernel_rfl) (by rfl) (XV.cell0) (vr_val _ _ _) ?_)
      | (go_at_call 14;(with_reducible refine (cR _ (VD.keep HB) (VG.keep HB)).mono ?_);rintro _ W5 ⟨rfl,hb2⟩;replace HB:=later HB hb2;replace XN:=XN.keeps hb2;replace XQ:=XQ.keeps hb2;replace XV:=XV.keeps hb2;replace VC:=VC.keep hb2;clear hb2 x0 x1;have x0:=XN.cell 0 _ rfl;have x1:=XQ.cell 0 _ rfl)
      | (go_at_call 15;(with_reducible refine (cH _ (VN.keep HB) VC).mono ?_);rintro _ W6 ⟨rfl,hb2⟩;replace HB:=later HB hb2;clear hb2 x0 x1))
     have e2:=eR.out
     subst e2
     exact bodyPost_ret (v:=.tuple #[.slice none 0 0,.int .i64 1]) (by simp [results,Try.results6,go_sem, *]) rfl ⟨rfl,HB⟩
    | true =>
     rw [hv] at cH
     have eR:workR X N G D S n=R:=by
      have q:=hR1.out
      rw [hr,hv,Bool.and_self,if_pos rfl] at q
      exact q
     have hr2:=hr
     unfold vrightB givenB at hr2
     simp only [Bool.and_eq_true,beq_iff_eq] at hr2
     obtain⟨h1,h2,h3⟩:=hr2
     have h3':=all_upto2.1 h3
     have h4:n0=n1:=h1.symm
     subst h4
     unfold haveB at hv
     have hv':=all_upto2.1 hv
     have hF:∀i,i<n->N i=true->Fit (X i) i n0:=fun i hi hNi=>by
      have q:=HN.out i hi
      unfold nodeB kindB at q
      simp only [Bool.and_eq_true,decide_eq_true_eq] at q
      refine⟨q.1,q.2.1,HO.out i hi,fun hk=>?_⟩
      have q2:=hv' i hi
      rw [hNi,hk] at q2
      simpa using q2
     have hDD:∀v,v<n0->G v=true->Dim64 (D v)/\drK (D v) 7=true:=fun v hv hG=>⟨HD.out v hv,by have q:=h3' v hv;rw [hG] at q;simpa using q⟩
     clear h1 h3 h3' hv hv' hr hR1
     have hmf:∀(fn:Fn) (first cap:Array Value) (w:World),(Instr.makeFunc fn first cap).run Try.prog w=.ok (.func fn first cap) w:=fun _ _ _ _=>rfl
     go_upto_region 7 with (first
      | (refine wpList_loadBig (by rfl) _ 43 (by rfl) Try.underlying43 (vrL (.slice A0 n0 C0) (.slice A1 n0 C1) S) (by kernel_rfl) (by rfl) (XV.cell0) (vr_val _ _ _) ?_)
      | (go_at_call 14;(with_reducible refine (cR _ (VD.keep HB) (VG.keep HB)).mono ?_);rintro _ W5 ⟨rfl,hb2⟩;replace HB:=later HB hb2;replace XN:=XN.keeps hb2;replace XQ:=XQ.keeps hb2;replace XV:=XV.keeps hb2;replace VC:=VC.keep hb2;clear hb2 x0 x1;have x0:=XN.cell 0 _ rfl;have x1:=XQ.cell 0 _ rfl)
      | (go_at_call 15;(with_reducible refine (cH _ (VN.keep HB) VC).mono ?_);rintro _ W6 ⟨rfl,hb2⟩;replace HB:=later HB hb2;replace XN:=XN.keeps hb2;replace XQ:=XQ.keeps hb2;replace XV:=XV.keeps hb2;replace VC:=VC.keep hb2;clear hb2 x0 x1))
     have ct:=utriedS_w #[.pointer (some ⟨w.heap.size,0,none⟩),.pointer (some ⟨qb,0,none⟩),.pointer (some ⟨vb,0,none⟩)] n0 R W6 (fun W hW=>by
      have q:=uwork_w w.heap.size qb vb AN n CN X g N A0 A1 n0 C0 C1 D G S hn hn0 HX.out hF hN.out HS.out h2 hDD W (VN.keep (later HB hW)) (VC.keep hW) (VD.keep (later HB hW)) (VG.keep (later HB hW)) ((XN.keeps hW).cell 0 _ rfl) (XN.keeps hW).lt ((XQ.keeps hW).cell 0 _ rfl) (XQ.keeps hW).lt (XV.keeps hW)
      rw [eR] at q
      exact q)
     have hW6:w.heap.size<=W6.heap.size:=HB.size
     clear eR hF hDD
     cases R with
     | ok Z =>
      go_wp2_with (go_at_call 16;(with_reducible refine ct.mono ?_);rintro r W7 ⟨hM,hb2⟩;obtain⟨v,rfl,DV⟩:=hM;replace HB:=later HB hb2;clear hb2;obtain⟨gD,CD,rfl,lD,DD⟩:=DV)
      exact bodyPost_ret (v:=.tuple #[.slice (some ⟨gD,0,none⟩) n0 CD,.int .i64 0]) (by simp [results,Try.results6,go_sem, *]) rfl ⟨⟨_,rfl,gD,CD,rfl,by omega,DD⟩,HB⟩
     | error e =>
      go_wp2_with (go_at_call 16;(with_reducible refine ct.mono ?_);rintro r W7 ⟨hM,hb2⟩;replace hM:r=.returned (.tuple #[.slice none 0 0,.int .i64 e]):=hM;subst hM;replace HB:=later HB hb2;clear hb2)
      exact bodyPost_ret (v:=.tuple #[.slice none 0 0,.int .i64 e]) (by simp [results,Try.results6,go_sem, *]) rfl ⟨rfl,HB⟩
def likeB (n:Nat) (D:Nat->Nat->Int×Int) (m:Nat) (E:Nat->Nat->Int×Int):Bool:=n==m&&(List.range n).all fun i=>eqD (D i) (E i)
theorem usmall_w (A:Option Addr) (n C:Nat) (D:Option Addr) (m E:Nat) (w:World) :
  Calls Try.prog 5 #[.slice A n C,.slice D m E] w fun x w'=>x=.returned (.bool (decide (n<=60)&&decide (m<=12)))/\w=w':=by
 by_cases h1:n<=60
 ·have q1:(n:Int)<=60:=by omega
  by_cases h2:m<=12
  ·have q2:(m:Int)<=12:=by omega
   rw [decide_eq_true h1,decide_eq_true h2]
   clear h1 h2
   go_enter Try.func5,Try.ntmps5
   go_wp2_with fail
   go_ret
   exact⟨rfl,rfl⟩
  ·have q2:¬(m:Int)<=12:=by omega
   rw [decide_eq_true h1,decide_eq_false h2]
   clear h1 h2
   go_enter Try.func5,Try.ntmps5
   go_wp2_with fail
   go_ret
   exact⟨rfl,rfl⟩
 ·have q1:¬(n:Int)<=60:=by omega
  rw [decide_eq_false h1]
  clear h1
  go_enter Try.func5,Try.ntmps5
  go_wp2_with fail
  go_ret
  exact⟨rfl,rfl⟩
set_option maxRecDepth 4000 in
set_option maxHeartbeats 4000000 in
theorem uLike_w (A0 A1:Option Addr) (n C0 m C1:Nat) (D E:Nat->Nat->Int×Int) (hn:(n:Int)<=9223372036854775807) (w:World) (VD:Dms w A0 n D) (VE:Dms w A1 m E) :
  Calls Try.prog 8 #[.slice A0 n C0,.slice A1 m C1] w fun x w'=>x=.returned (.bool (likeB n D m E))/\Below w.heap.size w w':=by
 obtain⟨R,hR⟩:∃R,Hid (likeB n D m E=R):=⟨_,rfl⟩
 rw [hR.out]
 have HB:Below w.heap.size w w:=Below.refl _ _
 go_enter Try.func8,Try.ntmps8
 by_cases cn:¬n=m
 ·have e1:Hid (false=R):=by have q:=hR.out;unfold likeB at q;rw [beq_eq_false_iff_ne.2 cn,Bool.false_and] at q;exact q
  have cn2:¬(n:Int)=(m:Int):=by omega
  have cn3:((n:Int) != (m:Int))=true:=bne_iff_ne.2 cn2
  clear hR
  replace cn:Hid (¬n=m):=cn
  go_wp2_with fail
  go_ret
  exact⟨by have q:=e1.out;subst q;rfl,HB⟩
 replace cn:n=m:=Decidable.not_not.1 cn
 subst cn
 have hR2:Hid (((List.range n).all fun i=>eqD (D i) (E i))=R):=by have q:=hR.out;unfold likeB at q;rw [beq_self_eq_true,Bool.true_and] at q;exact q
 clear hR
 go_wp2_with fail
 go_loopg [13] n (fun T s13 wx=>∃i:Nat,i+T=n/\s13=.int .i64 (i:Int)/\Below w.heap.size w wx/\Hid (∀q,q<i->eqD (D q) (E q)=true))
 case atStart=>exact⟨0,by omega,rfl,HB,fun j hj=>absurd hj (by omega)⟩
 case round =>
  clear HB
  obtain⟨i,hi,rfl,HB,hall⟩:=hrel
  by_cases ci:i=n
  ·have e1:Hid (true=R):=by have q:=hR2.out;subst ci;rw [all_upto2.2 hall] at q;exact q
   clear hR2 hall
   subst ci
   go_wp2_with fail
   go_ret
   exact⟨by have q:=e1.out;subst q;rfl,HB⟩
  ·have hin:i<n:=by omega
   have hlt:(i:Int)<(n:Int):=by omega
   obtain⟨b0,o0,hA0,l0,g0⟩:=(VD.keep HB) i hin
   obtain⟨b1,o1,hA1,l1,g1⟩:=(VE.keep HB) i hin
   replace g0:Hid (∀j c,(dimL (D i))[j]?=some c->wr.cell? ⟨b0,o0+i*14+j,none⟩=some c):=g0
   replace g1:Hid (∀j c,(dimL (E i))[j]?=some c->wr.cell? ⟨b1,o1+i*14+j,none⟩=some c):=g1
   subst hA0 hA1
   obtain⟨b,hb⟩:∃b,Hid (eqD (D i) (E i)=b):=⟨_,rfl⟩
   have q1:=fun W=>run_eq_dim (D i) (E i) b hb.out W
   go_upto_region 6 with fail
   obtain⟨DD,hDD⟩:∃DD,D i=DD:=⟨_,rfl⟩
   obtain⟨EE,hEE⟩:∃EE,E i=EE:=⟨_,rfl⟩
   rw [hDD] at g0 q1
   rw [hEE] at g1 q1
   clear hDD hEE
   refine region_behind (by kernel_rfl) (by kernel_rfl) ?_
   repeat (first
    | (go_big_quiet_want;refine quiet_loadBig _ 30 (by rfl) Try.underlying30 (dimL DD) (by kernel_rfl) (by rfl) ((fun W hW j c hj=>by obtain⟨q9,rfl⟩:=hW;exact keepsC q9.bel (g0.out j c hj) l0)) (dim_valU DD) ?_;simp only [Act.put,List.setIfInBounds_toArray,List.set_cons_zero,List.set_cons_succ];go_big_quiet_on)
    | (go_big_quiet_want;refine quiet_loadBig _ 30 (by rfl) Try.underlying30 (dimL EE) (by kernel_rfl) (by rfl) ((fun W hW j c hj=>by obtain⟨q9,rfl⟩:=hW;exact keepsC q9.bel (g1.out j c hj) l1)) (dim_valU EE) ?_;simp only [Act.put,List.setIfInBounds_toArray,List.set_cons_zero,List.set_cons_succ];go_big_quiet_on)
    | (go_big_quiet_step (fail))
    | (go_big_quiet_want;refine quiet_run (.bool (!b)) (fun W _=>by simp [execOp,go_sem,q1 W];cases b <;> rfl) ?_;simp only [Act.put,List.setIfInBounds_toArray,List.set_cons_zero,List.set_cons_succ];go_big_quiet_on))
   refine wpQuiet_nil ?_
   rintro _ ⟨q,rfl⟩
   obtain⟨W,hb1⟩:=q
   dsimp only
   replace HB:=later HB hb1
   clear hb1 g0 g1 q1
   cases b with
   | true =>
    have hall2:Hid (∀q,q<i+1->eqD (D q) (E q)=true):=fun q hq=>by rcases Nat.lt_or_ge q i with h | h;exact hall.out q h;rw [show q=i by omega];exact hb.out
    clear hall hb
    go_wp2_with fail
    go_roundg (n-i-1)
    case measure=>omega
    case rel=>exact⟨i+1,by omega,by go_num,HB,hall2⟩
   | false =>
    have e1:Hid (false=R):=by have q:=hR2.out;rw [all_not2 (i:=i) hin hb.out] at q;exact q
    clear hR2 hall hb
    go_wp2_with fail
    go_ret
    exact⟨by have q:=e1.out;subst q;rfl,HB⟩
def arR (k:Int):Int:=if k=1\/k=2\/k=15 then 0 else if 3<=k/\k<=6 then 2 else if 7<=k/\k<=14 then 1 else -1
theorem arR_yes {k:Int} (h:kindB k=true):arR k=(arG k:Int):=by
 unfold kindB at h
 simp only [Bool.and_eq_true,decide_eq_true_eq] at h
 unfold arR arG
 by_cases c1:k=1\/k=2\/k=15
 ·rw [if_pos c1,if_pos c1];rfl
 ·rw [if_neg c1,if_neg c1]
  by_cases c2:3<=k/\k<=6
  ·rw [if_pos c2,if_pos c2];rfl
  ·rw [if_neg c2,if_neg c2,if_pos (by omega)];rfl
theorem arR_no {k:Int} (h:kindB k=false):arR k=-1:=by
 unfold kindB at h
 have h2:¬(1<=k/\k<=15):=fun q=>by rw [decide_eq_true q.1,decide_eq_true q.2] at h;cases h
 unfold arR
 rw [if_neg (by omega),if_neg (by omega),if_neg (by omega)]
set_option maxHeartbeats 1000000 in
theorem fargs_w (k:Int) (w:World):Calls Try.prog 41 #[.int .i64 k] w fun r w'=>r=.returned (.int .i64 (arR k))/\w=w':=by
 obtain⟨R,hR⟩:∃R,Hid (arR k=R):=⟨_,rfl⟩
 rw [hR.out]
 rcases (by omega:k=1\/k=2\/k=15\/(3<=k/\k<=6)\/(7<=k/\k<=14)\/k<1\/15<k) with h | h | h | ⟨h,h2⟩ | ⟨h,h2⟩ | h | h
 ·subst h
  have e:Hid (R=0):=hR.out.symm
  clear hR
  go_enter Try.func41,Try.ntmps41
  go_wp2_with fail
  go_ret
  exact⟨by rw [e.out];rfl,rfl⟩
 ·subst h
  have e:Hid (R=0):=hR.out.symm
  clear hR
  go_enter Try.func41,Try.ntmps41
  go_wp2_with fail
  go_ret
  exact⟨by rw [e.out];rfl,rfl⟩
 ·subst h
  have e:Hid (R=0):=hR.out.symm
  clear hR
  go_enter Try.func41,Try.ntmps41
  go_wp2_with fail
  go_ret
  exact⟨by rw [e.out];rfl,rfl⟩
 all_goals
  have k1:(k==1)=false:=beq_eq_false_iff_ne.2 (by omega)
  have k2:(k==2)=false:=beq_eq_false_iff_ne.2 (by omega)
  have k15:(k==15)=false:=beq_eq_false_iff_ne.2 (by omega)
 ·have e:Hid (R=2):=by show _=_;rw [<-hR.out];unfold arR;rw [if_neg (by omega),if_pos ⟨h,h2⟩]
  clear hR
  go_enter Try.func41,Try.ntmps41
  go_wp2_with fail
  go_ret
  exact⟨by rw [e.out];rfl,rfl⟩
 ·have e:Hid (R=1):=by show _=_;rw [<-hR.out];unfold arR;rw [if_neg (by omega),if_neg (by omega),if_pos ⟨h,h2⟩]
  have h3:(3:Int)<=k:=by omega
  have h6:¬k<=6:=by omega
  clear hR
  go_enter Try.func41,Try.ntmps41
  go_wp2_with fail
  go_ret
  exact⟨by rw [e.out];rfl,rfl⟩
 ·have e:Hid (R=-1):=by show _=_;rw [<-hR.out];unfold arR;rw [if_neg (by omega),if_neg (by omega),if_neg (by omega)]
  have h3:¬(3:Int)<=k:=by omega
  have h7:¬(7:Int)<=k:=by omega
  clear hR
  go_enter Try.func41,Try.ntmps41
  go_wp2_with fail
  go_ret
  exact⟨by rw [e.out];rfl,rfl⟩
 ·have e:Hid (R=-1):=by show _=_;rw [<-hR.out];unfold arR;rw [if_neg (by omega),if_neg (by omega),if_neg (by omega)]
  have h3:(3:Int)<=k:=by omega
  have h6:¬k<=6:=by omega
  have h7:(7:Int)<=k:=by omega
  have h14:¬k<=14:=by omega
  clear hR
  go_enter Try.func41,Try.ntmps41
  go_wp2_with fail
  go_ret
  exact⟨by rw [e.out];rfl,rfl⟩
end Go.Proofs.Ytbejmklkicoibaa
