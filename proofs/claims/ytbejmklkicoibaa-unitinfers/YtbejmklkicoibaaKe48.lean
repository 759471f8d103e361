/- orreryref14's Infer, over what solve answers. -/
import Derived.Test.YtbejmklkicoibaaSh
import Derived.Test.YtbejmklkicoibaaKe47
namespace Go.Proofs.Ytbejmklkicoibaa
open Go.ChangeShapes Go.WideShapes Go.ChangeAt Go.RowKit
theorem FSt.congrK {w0 w:World} {fb:Nat} {AN:Option Addr} {n CN:Nat} {A0:Option Addr} {m C0:Nat} {A1:Option Addr} {C1:Nat} {A2:Option Addr} {C2:Nat} {S:Nat->Int×Int} {g:Nat} {K J:Nat->Prop} {Q:Nat->Pro} {vr:Value} {L:List FV} (h:FSt w0 fb AN n CN A0 m C0 A1 C1 A2 C2 S g K Q vr L w) (e:∀i,J i->K i):FSt w0 fb AN n CN A0 m C0 A1 C1 A2 C2 S g J Q vr L w:=⟨h.fd,h.hb,h.r2,h.fs.congr e,h.ow,h.ok,h.gl,h.lo⟩
set_option maxRecDepth 4000 in
set_option maxHeartbeats 8000000 in
theorem fInfer_w (AN:Option Addr) (n CN:Nat) (X:Nat->Nd) (AQ:Option Addr) (m CQ:Nat) (Y:Nat->Int) (A0 A1:Option Addr) (n0 C0 n1 C1:Nat) (D:Nat->Nat->Int×Int) (G:Nat->Bool) (S:Nat->Int×Int)
  (hn:n<=4000) (hm:(m:Int)<=9223372036854775807) (hn0:n0<=500) (hn1:(n1:Int)<=9223372036854775807) (hX:∀i,i<n->(X i).Ok) (hS:Dim64 S) (hD:∀v,v<n0->Dim64 (D v)) (w:World) (VN:Nds w AN n X) (VQ:Ins w AQ m Y) (VD:Dms w A0 n0 D) (VG:Bls w A1 n1 G)
  (csol:∀(fb g2:Nat) (Ae:Option Addr) (Ce:Nat) (KN:Nat->Prop) (Q:Nat->Pro) (vr:Value) (L:List FV) (W:World),FSt w fb AN n CN A0 n0 C0 A1 C1 Ae Ce S g2 KN Q vr L W->L.length<=4000->(∀x,x∈L->POk (n0:Int) x.1/\FG G x.1.2)->(∀v,v<n0->G v=true->Dim64 (D v)/\drK (D v) 7=true)->Dms W A0 n0 D->Bls W A1 n0 G->Calls Try.prog 26 #[.pointer (some ⟨fb,0,none⟩)] W fun r w'=>SlAns r w' n0 (allFrom [] (L.map (·.1)) (startD G D))/\Below fb W w') :
  Calls Try.prog 7 #[.slice AN n CN,.slice AQ m CQ,.slice A0 n0 C0,.slice A1 n1 C1,dimV S] w fun r w'=>SlAns r w' n0 (inferR X n Y m n0 n1 G D S)/\Below w.heap.size w w':=by
 show Calls Try.prog _ #[_,_,_,_,.agg #[.int .i64 (S 0).1,.int .i64 (S 0).2,.int .i64 (S 1).1,.int .i64 (S 1).2,.int .i64 (S 2).1,.int .i64 (S 2).2,.int .i64 (S 3).1,.int .i64 (S 3).2,.int .i64 (S 4).1,.int .i64 (S 4).2,.int .i64 (S 5).1,.int .i64 (S 5).2,.int .i64 (S 6).1,.int .i64 (S 6).2]] w _
 obtain⟨R,hR⟩:∃R,Hid (inferR X n Y m n0 n1 G D S=R):=⟨_,rfl⟩
 rw [hR.out]
 have cg:=fun W vn=>fGraph_w AN n CN X hn hX W vn
 have c2:=fun W=>dright_w S hS W
 have c3:=fun (v:Nat) (h:v<n0) W=>dright_w (D v) (hD v h) W
 have hn4:(n:Int)<=4000:=by omega
 obtain⟨XS,HB⟩:=blks1 w 30 [.int .i64 (S 0).1,.int .i64 (S 0).2,.int .i64 (S 1).1,.int .i64 (S 1).2,.int .i64 (S 2).1,.int .i64 (S 2).2,.int .i64 (S 3).1,.int .i64 (S 3).2,.int .i64 (S 4).1,.int .i64 (S 4).2,.int .i64 (S 5).1,.int .i64 (S 5).2,.int .i64 (S 6).1,.int .i64 (S 6).2]
 go_enter Try.func7,Try.ntmps7
 go_upto_region 1 with fail
 generalize (w.alloc (.cells #[.int .i64 (S 0).1,.int .i64 (S 0).2,.int .i64 (S 1).1,.int .i64 (S 1).2,.int .i64 (S 2).1,.int .i64 (S 2).2,.int .i64 (S 3).1,.int .i64 (S 3).2,.int .i64 (S 4).1,.int .i64 (S 4).2,.int .i64 (S 5).1,.int .i64 (S 5).2,.int .i64 (S 6).1,.int .i64 (S 6).2] 30))=V1 at *
 replace XS:BlkAt V1 w.heap.size 30 (dimL S):=XS
 obtain⟨gb,hgb⟩:∃gb,Hid (graphB X n=gb):=⟨_,rfl⟩
 rw [hgb.out] at cg
 cases gb with
 | false =>
  have e:Hid (R=.error 170):=by show _=_;rw [<-hR.out];unfold inferR;rw [hgb.out,Bool.false_and];rfl
  clear hR hgb
  go_wp2_with (go_at_call 21;(with_reducible refine (cg _ (VN.keep HB)).mono ?_);rintro _ W2 ⟨rfl,hb2⟩;replace HB:=later HB hb2;clear hb2)
  have e2:=e.out
  subst e2
  exact bodyPost_ret (v:=.tuple #[.slice none 0 0,.int .i64 170]) (by simp [results,Try.results7,go_sem, *]) rfl ⟨rfl,HB⟩
 | true =>
  go_upto_region 4 with (go_at_call 21;(with_reducible refine (cg _ (VN.keep HB)).mono ?_);rintro _ W2 ⟨rfl,hb2⟩;replace HB:=later HB hb2;replace XS:=XS.keeps hb2;clear hb2)
  clear cg
  go_loopg [27] m (fun T s27 wx=>∃i:Nat,i+T=m/\s27=.int .i64 (i:Int)/\wx=W2/\Hid (∀q,q<i->oneOf (Y q) (n:Int)=true))
  case atStart=>exact⟨0,by omega,rfl,rfl,fun j hj=>absurd hj (by omega)⟩
  case round =>
   obtain⟨i,hi,rfl,rfl,hall⟩:=hrel
   by_cases ci:i=m
   ·subst ci
    have hin:Hid (((List.range i).all fun q=>oneOf (Y q) (n:Int))=true):=all_upto2.2 hall
    have hR2:Hid ((if (vrightB n0 n1 G D S&&haveB X (needH X n Y i) n n0)=true then workR X (needH X n Y i) G D S n else .error 1)=R):=by
     show _=_
     rw [<-hR.out]
     unfold inferR
     rw [hgb.out,hin.out]
     rfl
    have hnode:∀q,q<n->nodeB (X q) (q:Int)=true:=by
     have hg:=hgb.out
     unfold graphB at hg
     simp only [Bool.and_eq_true,decide_eq_true_eq] at hg
     exact all_upto2.1 hg.2
    have hop:∀q,q<n->∀j,j<(X q).ar->0<=(X q).at j/\(X q).at j<(q:Int):=fun q hq j hj=>by
     have q1:=hnode q hq
     unfold nodeB opsG at q1
     simp only [Bool.and_eq_true] at q1
     have q2:=all_upto2.1 q1.2.2 j hj
     unfold oneOf at q2
     simpa using q2
    have hkd:∀q,q<n->kindB (X q).k=true:=fun q hq=>by
     have q1:=hnode q hq
     unfold nodeB at q1
     exact (Bool.and_eq_true_iff.1 q1).1
    have hY:∀k,k<i->0<=Y k/\Y k<(n:Int):=fun k hk=>by
     have q2:=hall.out k hk
     unfold oneOf at q2
     simpa using q2
    obtain⟨N,hNN⟩:∃N,Hid (needH X n Y i=N):=⟨_,rfl⟩
    have hN:Hid (∀q,q<n->N q=true->∀j,j<(X q).ar->N ((X q).at j).toNat=true):=by rw [<-hNN.out];exact needH_closed hop Y i
    have cn:=fun W vn vq=>fneeded_w AN n CN AQ i CQ X Y hn hm hY (fun q hq j hj=>⟨(hop q hq j hj).1,by have:=(hop q hq j hj).2;omega⟩) hkd W vn vq
    rw [hNN.out] at cn hR2
    have HN:Hid (∀q,q<n->nodeB (X q) (q:Int)=true):=hnode
    have HX:Hid (∀q,q<n->(X q).Ok):=hX
    have HD:Hid (∀v,v<n0->Dim64 (D v)):=hD
    have HO:Hid (∀q,q<n->∀j,j<(X q).ar->0<=(X q).at j/\(X q).at j<(q:Int)):=hop
    have HS:Hid (Dim64 S):=hS
    clear hR hall hin hnode hop hkd hY hNN hX hD hS hgb
    unfold dimV at c2
    by_cases c1:n1=n0
    ·subst c1
     cases hd:drK S 7 with
     | false =>
      rw [hd] at c2
      have e:Hid (R=.error 1):=by show _=_;rw [<-hR2.out];unfold vrightB;rw [hd,Bool.false_and,Bool.and_false];rfl
      clear hR2 hd
      go_wp2_with (first
       | (refine wpList_loadBig (by rfl) _ 30 (by rfl) Try.underlying30 (dimL S) (by kernel_rfl) (by rfl) (XS.cell0) (dim_valU S) ?_)
       | (go_at_call 22;(with_reducible refine (c2 _).mono ?_);rintro _ W3 ⟨rfl,hb2⟩;replace HB:=later HB hb2;clear hb2))
      have e2:=e.out
      subst e2
      exact bodyPost_ret (v:=.tuple #[.slice none 0 0,.int .i64 1]) (by simp [results,Try.results7,go_sem, *]) rfl ⟨rfl,HB⟩
     | true =>
      rw [hd] at c2
      have hR3:Hid ((if (givenB G D n1&&haveB X N n n1)=true then workR X N G D S n else .error 1)=R):=by
       show _=_
       rw [<-hR2.out]
       unfold vrightB
       rw [hd,Bool.true_and,beq_self_eq_true,Bool.true_and]
      have HdS:Hid (drK S 7=true):=hd
      clear hR2 hd
      go_upto_region 13 with (first
       | (refine wpList_loadBig (by rfl) _ 30 (by rfl) Try.underlying30 (dimL S) (by kernel_rfl) (by rfl) (XS.cell0) (dim_valU S) ?_)
       | (go_at_call 22;(with_reducible refine (c2 _).mono ?_);rintro _ W3 ⟨rfl,hb2⟩;replace HB:=later HB hb2;replace XS:=XS.keeps hb2;clear hb2)
       | (go_at_call 23;(with_reducible refine (cn _ (VN.keep HB) (VQ.keep HB)).mono ?_);rintro _ W4 ⟨g,hg3,rfl,VC,hb3⟩;replace HB:=later HB hb3;replace XS:=XS.keeps hb3;clear hb3))
      clear c2 cn
      go_loopg [55] n1 (fun T s55 wx=>∃i:Nat,i+T=n1/\s55=.int .i64 (i:Int)/\Below w.heap.size w wx/\BlkAt wx w.heap.size 30 (dimL S)/\Cel wx g n (fun j=>.int .i64 (nI (N j)))/\Hid (∀q,q<i->(!G q || drK (D q) 7)=true))
      case atStart=>exact⟨0,by omega,rfl,HB,XS,VC,fun j hj=>absurd hj (by omega)⟩
      case round =>
       clear HB XS VC
       obtain⟨k,hk,rfl,HB,XS,VC,hall⟩:=hrel
       by_cases ck:k=n1
       ·subst ck
        have hR4:Hid ((if haveB X N n k=true then workR X N G D S n else .error 1)=R):=by
         show _=_
         rw [<-hR3.out]
         unfold givenB
         rw [all_upto2.2 hall.out,Bool.true_and]
        have HGD:Hid (∀v,v<k->G v=true->Dim64 (D v)/\drK (D v) 7=true):=fun v hv hg=>⟨HD.out v hv,by have q:=hall.out v hv;rw [hg] at q;simpa using q⟩
        clear hR3 hall HD c3
        go_wp2_with fail
        go_loopg [73] n (fun T s73 wx=>∃t:Nat,t+T=n/\s73=.int .i64 (t:Int)/\Below w.heap.size w wx/\BlkAt wx w.heap.size 30 (dimL S)/\Cel wx g n (fun j=>.int .i64 (nI (N j)))/\Hid (∀q,q<t->(!(N q&&((X q).k==2&&decide ((k:Int)<=(X q).v))))=true))
        case atStart=>exact⟨0,by omega,rfl,HB,XS,VC,fun j hj=>absurd hj (by omega)⟩
        case round =>
         clear HB XS VC
         obtain⟨t,ht,rfl,HB,XS,VC,hall⟩:=hrel
         by_cases ct:t=n
         ·subst ct
          have hR5:Hid (workR X N G D S t=R):=by
           show _=_
           rw [<-hR4.out,if_pos (show haveB X N t k=true from all_upto2.2 hall.out)]
          have HF:Hid (∀q,q<t->N q=true->Fit (X q) q k):=fun q hq hNq=>by
           have q1:=HN.out q hq
           unfold nodeB kindB at q1
           simp only [Bool.and_eq_true,decide_eq_true_eq] at q1
           refine⟨q1.1,q1.2.1,HO.out q hq,fun hk2=>?_⟩
           have q2:=hall.out q hq
           rw [hNq,hk2] at q2
           simpa using q2
          have HST:Hid (∀i,i<=t->∀st,stateF X N G D S i=some st->(∀j,j<i->N j=true->POk (k:Int) (st.1 j)/\FG G (st.1 j).2)/\(∀R,R∈st.2->POk (k:Int) R/\FG G R.2)/\st.2.length<=i):=fun i hi st h=>by
           obtain⟨p1,p2, -,p4, -⟩:=state_two (G':=G) (D':=D) (S:=fun _ _=>0) (fun i hi=>(HX.out i hi).E) HF.out hN.out HS.out HdS.out HGD.out HGD.out (fun v hv e he=>rfl) i hi st st h h
           exact⟨fun j hj hn=>⟨(p1 j hj hn).1,(p1 j hj hn).2.1⟩,p2,p4⟩
          have HR1:Hid (∀j,j<t->(X j).k=1->rightR (X j).q (X j).p=true):=fun j hj h1=>by
           have q1:=HN.out j hj
           unfold nodeB fieldB at q1
           rw [if_pos h1] at q1
           simp only [Bool.and_eq_true] at q1
           exact q1.2.1.1
          have HCS:Hid (∀(fb g2:Nat) (Ae:Option Addr) (Ce:Nat) (KN:Nat->Prop) (Q:Nat->Pro) (vr:Value) (L:List FV) (W:World),FSt w fb AN t CN A0 k C0 A1 C1 Ae Ce S g2 KN Q vr L W->L.length<=4000->(∀x,x∈L->POk (k:Int) x.1/\FG G x.1.2)->(∀v,v<k->G v=true->Dim64 (D v)/\drK (D v) 7=true)->Dms W A0 k D->Bls W A1 k G->Calls Try.prog 26 #[.pointer (some ⟨fb,0,none⟩)] W fun r w'=>SlAns r w' k (allFrom [] (L.map (·.1)) (startD G D))/\Below fb W w'):=csol
          clear hR4 hall csol
          have cE:=fun W=>fempty_w k (by omega) W
          go_upto_region 24 with fail
          generalize wr=V5 at *
          go_cut [18] from 97 to 107 (fun s18 wx=>∃fb g2 Ae Ce cs,s18=.pointer (some ⟨fb,0,none⟩)/\Below V5.heap.size V5 wx/\V5.heap.size<=g2/\g2<fb/\BlkAt wx fb 62 (fdL AN t CN A0 k C0 A1 C1 Ae Ce plE g2 (.slice none 0 0))/\RtAt wx Ae k (fun _=>(0,1))/\BlkAt wx g2 58 cs/\cs.length=t*15)
          case first =>
           have hh:Below V5.heap.size V5 V5.drew:=(Below.refl _ _).drew
           refine wp_region_held_drew (S:=fun _=>True) (by kernel_rfl) trivial (fun hHeld=>?_)
           generalize V5.drew=V6 at *
           refine tk (v:=?_) 0 rfl ?_ hHeld ?_;rotate_left;(focus ((intro w hSw;(try dsimp only at hSw);go_simp);try with_reducible rfl));simp only[gA,gB,Act.put,gD,gE,gF];refine tk (v:=?_) 1 rfl ?_ hHeld ?_;rotate_left;(focus ((intro w hSw;(try dsimp only at hSw);go_simp);try with_reducible rfl));simp only[gA,gB,gC,Act.put,gD,gE,gF];refine tk (v:=?_) 2 rfl ?_ hHeld ?_;rotate_left;(focus ((intro w hSw;(try dsimp only at hSw);go_simp);try with_reducible rfl));simp only[gA,gB,gC,Act.put,gD,gE,gF];refine tk (v:=?_) 3 rfl ?_ hHeld ?_;rotate_left;(focus ((intro w hSw;(try dsimp only at hSw);go_simp);try with_reducible rfl));simp only[gA,gB,gC,Act.put,gD,gE,gF];refine tk (v:=?_) 4 rfl ?_ hHeld ?_;rotate_left;(focus ((intro w hSw;(try dsimp only at hSw);go_simp);try with_reducible rfl));simp only[gA,gB,gC,Act.put,gD,gE,gF];refine tk (v:=?_) 6 rfl ?_ hHeld ?_;rotate_left;(focus ((intro w hSw;(try dsimp only at hSw);go_simp);try with_reducible rfl));simp only[gA,gB,gC,Act.put,gD,gE,gF];refine tk (v:=?_) 7 rfl ?_ hHeld ?_;rotate_left;(focus ((intro w hSw;(try dsimp only at hSw);go_simp);try with_reducible rfl));simp only[gA,gB,gC,Act.put,gD,gE,gF]
           refine wpAnyH_ready (rs:=[5,8]) (by kernel_rfl) (by simp) ?_
           refine AllReadyH.cons rfl (fun K hK=>?_) (AllReadyH.cons rfl (fun K hK=>?_) AllReadyH.nil)
           ·simp only[gA,gB,gC,Act.put,gD,gE,gF]
            go_simp
            go_at_call 24
            (with_reducible refine (cE _).mono ?_)
            rintro r W3 ⟨⟨ve,hr,Ie⟩,hb2⟩
            obtain⟨Ae,Ce,e7, -,re, -⟩:=Ie.form
            rw [List.length_replicate] at e7 re
            subst e7
            replace re:RtAt W3 Ae k (fun _=>(0,1)):=re.congr fun u hu=>by rw [List.getD_eq_getElem?_getD,List.getElem?_replicate,if_pos hu];rfl
            replace hr:r=.returned (.agg #[.slice Ae k Ce,.int .i64 (plE 0).1,.int .i64 (plE 0).2,.int .i64 (plE 1).1,.int .i64 (plE 1).2,.int .i64 (plE 2).1,.int .i64 (plE 2).2,.int .i64 (plE 3).1,.int .i64 (plE 3).2,.int .i64 (plE 4).1,.int .i64 (plE 4).2,.int .i64 (plE 5).1,.int .i64 (plE 5).2,.int .i64 (plE 6).1,.int .i64 (plE 6).2]):=hr
            subst hr
            replace hh:=later hh hb2
            skip
            clear Ie hb2
            dsimp only
            refine hK.out _ _ trivial (fun hHeld=>?_)
            clear hK K
            refine rd 8 rfl (fun K hK=>?_)
            refine step_makeFr (by rfl) _ _ (by rfl) t (by rfl) (by rfl) (by omega) ?_
            rintro W4 ⟨cs,bg,hcl⟩ hb3 hs3
            have hge:V5.heap.size<=W3.heap.size:=hh.size
            replace hh:=later hh hb3
            obtain⟨g2,hg2⟩:∃g2,g2=W3.heap.size:=⟨_,rfl⟩
            rw [<-hg2] at bg hs3 hge ⊢
            clear hg2
            replace re:=re.keep hb3
            clear hb3
            refine hK.out _ _ trivial (fun hHeld=>?_)
            clear hK K
            refine tk (v:=?_) 9 rfl ?_ hHeld ?_;rotate_left;(focus ((intro w hSw;(try dsimp only at hSw);go_simp);try with_reducible rfl));simp only[gA,gB,gC,Act.put,gD,gE,gF]
            refine rd 10 rfl (fun K hK=>?_);simp only[gA,gB,gC,Act.put,gD,gE,gF];go_simp
            have hh5:Below W4.heap.size W4 (W4.alloc (.cells (fdL AN t CN A0 k C0 A1 C1 Ae Ce plE g2 (.slice none 0 0)).toArray 62)):=Below.alloc (Below.refl _ _) (Nat.le_refl _) _
            have nbk:BlkAt (W4.alloc (.cells (fdL AN t CN A0 k C0 A1 C1 Ae Ce plE g2 (.slice none 0 0)).toArray 62)) W4.heap.size 62 (fdL AN t CN A0 k C0 A1 C1 Ae Ce plE g2 (.slice none 0 0)):=blk_new _ _ _
            refine hK.out _ _ trivial (fun hHeld=>?_)
            clear hK K
            refine tk (v:=?_) 11 rfl ?_ hHeld ?_;rotate_left;(focus ((intro w hSw;(try dsimp only at hSw);go_simp);try with_reducible rfl));simp only[gA,gB,gC,Act.put,gD,gE,gF]
            refine wpAnyH_done (by kernel_rfl) ?_ _
            go_wp2_with fail
            go_meet
            case rel=>exact⟨W4.heap.size,g2,Ae,Ce,cs,rfl,later hh hh5,hge,hs3,nbk,re.keep hh5,bg.keeps hh5,hcl⟩
           ·refine step_makeFr (by rfl) _ _ (by rfl) t (by rfl) (by rfl) (by omega) ?_
            rintro W4 ⟨cs,bg,hcl⟩ hb3 hs3
            have hge:V5.heap.size<=V6.heap.size:=hh.size
            replace hh:=later hh hb3
            obtain⟨g2,hg2⟩:∃g2,g2=V6.heap.size:=⟨_,rfl⟩
            rw [<-hg2] at bg hs3 hge ⊢
            clear hg2
            skip
            clear hb3
            refine hK.out _ _ trivial (fun hHeld=>?_)
            clear hK K
            refine rd 5 rfl (fun K hK=>?_);simp only[gA,gB,gC,Act.put,gD,gE,gF];go_simp
            go_at_call 24
            (with_reducible refine (cE _).mono ?_)
            rintro r W3 ⟨⟨ve,hr,Ie⟩,hb2⟩
            obtain⟨Ae,Ce,e7, -,re, -⟩:=Ie.form
            rw [List.length_replicate] at e7 re
            subst e7
            replace re:RtAt W3 Ae k (fun _=>(0,1)):=re.congr fun u hu=>by rw [List.getD_eq_getElem?_getD,List.getElem?_replicate,if_pos hu];rfl
            replace hr:r=.returned (.agg #[.slice Ae k Ce,.int .i64 (plE 0).1,.int .i64 (plE 0).2,.int .i64 (plE 1).1,.int .i64 (plE 1).2,.int .i64 (plE 2).1,.int .i64 (plE 2).2,.int .i64 (plE 3).1,.int .i64 (plE 3).2,.int .i64 (plE 4).1,.int .i64 (plE 4).2,.int .i64 (plE 5).1,.int .i64 (plE 5).2,.int .i64 (plE 6).1,.int .i64 (plE 6).2]):=hr
            subst hr
            replace hh:=later hh hb2
            replace bg:=bg.keeps hb2;replace hs3:=Nat.lt_of_lt_of_le hs3 hb2.size
            clear Ie hb2
            dsimp only
            refine hK.out _ _ trivial (fun hHeld=>?_)
            clear hK K
            refine tk (v:=?_) 9 rfl ?_ hHeld ?_;rotate_left;(focus ((intro w hSw;(try dsimp only at hSw);go_simp);try with_reducible rfl));simp only[gA,gB,gC,Act.put,gD,gE,gF]
            refine rd 10 rfl (fun K hK=>?_);simp only[gA,gB,gC,Act.put,gD,gE,gF];go_simp
            have hh5:Below W3.heap.size W3 (W3.alloc (.cells (fdL AN t CN A0 k C0 A1 C1 Ae Ce plE g2 (.slice none 0 0)).toArray 62)):=Below.alloc (Below.refl _ _) (Nat.le_refl _) _
            have nbk:BlkAt (W3.alloc (.cells (fdL AN t CN A0 k C0 A1 C1 Ae Ce plE g2 (.slice none 0 0)).toArray 62)) W3.heap.size 62 (fdL AN t CN A0 k C0 A1 C1 Ae Ce plE g2 (.slice none 0 0)):=blk_new _ _ _
            refine hK.out _ _ trivial (fun hHeld=>?_)
            clear hK K
            refine tk (v:=?_) 11 rfl ?_ hHeld ?_;rotate_left;(focus ((intro w hSw;(try dsimp only at hSw);go_simp);try with_reducible rfl));simp only[gA,gB,gC,Act.put,gD,gE,gF]
            refine wpAnyH_done (by kernel_rfl) ?_ _
            go_wp2_with fail
            go_meet
            case rel=>exact⟨W3.heap.size,g2,Ae,Ce,cs,rfl,later hh hh5,hge,hs3,nbk,re.keep hh5,bg.keeps hh5,hcl⟩
          case rest =>
          clear cE
          have hg5:=VC.1
          obtain⟨fb,g2,Ae,Ce,cs,rfl,hh,hge,hlt2,XF,re,bg,hcl⟩:=hcut
          have hw5:=HB.size
          replace HB:=later HB hh
          replace XS:=XS.keeps hh
          replace VC:=VC.keep hh
          go_upto_region 26 with (first
           | (refine wpList_loadBig (by rfl) _ 30 (by rfl) Try.underlying30 (dimL S) (by kernel_rfl) (by rfl) (XS.cell0) (dim_valU S) ?_)
           | (refine wpList_storeMid (off:=4) (by rfl) _ _ 30 (by rfl) XF (dimL S) (by kernel_rfl) (show 4+14<=20 by decide) (by rfl) (by rfl) (by rfl) ?_;rintro V7 XF7 hs7 hB7 hk7))
          have T0:FSt w fb AN t CN A0 k C0 A1 C1 Ae Ce S g2 (fun j=>j<0/\N j=true) (fun _=>(plE,[])) (.slice none 0 0) [] V7:=⟨XF7,hB7 _ _ HB (by omega),re.other XF (by decide) hk7,⟨cs,hk7 _ _ _ (by omega) bg,hcl,fun i h=>absurd h.1 (by omega)⟩,ownFr_nil _ _,fun x hx=>(by cases hx),hlt2,by omega⟩
          have VC7:Cel V7 g t (fun j=>.int .i64 (nI (N j))):=VC.keepB (hB7 fb wc (Below.refl _ _) (Nat.le_refl _)) (by omega) (by omega)
          clear VC XF XF7 hs7 hB7 hk7 re bg hcl XS HB hh
          have hgfb:g<fb:=by omega
          have hgg:g<g2:=by omega
          have hwfb:w.heap.size<=fb:=by omega
          clear hg5 hge hw5
          go_wp2_with fail
          go_loopg [115] t (fun T s115 wx=>∃(i:Nat) (Q:Nat->Pro) (L:List FV) (vr:Value),i+T=t/\s115=.int .i64 (i:Int)/\Hid (stateF X N G D S i=some (Q,L.map (·.1)))/\FSt w fb AN t CN A0 k C0 A1 C1 Ae Ce S g2 (fun j=>j<i/\N j=true) Q vr L wx/\Cel wx g t (fun j=>.int .i64 (nI (N j))))
          case atStart=>exact⟨0,_,[],_,by omega,rfl,rfl,T0,VC7⟩
          case round =>
           clear T0 VC7
           obtain⟨i,Q,L,vr,hi,rfl,hst,T0,VC⟩:=hrel
           obtain⟨hQ0,hL0,hLl⟩:=HST.out i (by omega) _ hst.out
           rw [List.length_map] at hLl
           have HQ:Hid (∀j,j<i/\N j=true->POk (k:Int) (Q j)/\FG G (Q j).2):=fun j hj=>hQ0 j hj.1 hj.2
           have HL:Hid (∀x,x∈L->POk (k:Int) x.1/\FG G x.1.2):=fun x hx=>hL0 x.1 (List.mem_map.2 ⟨x,hx,rfl⟩)
           clear hQ0 hL0
           by_cases ci:i=t
           ·have eR:Hid (allFrom [] (L.map (·.1)) (startD G D)=R):=by
             show _=_
             rw [<-hR5.out]
             unfold workR
             rw [<-ci,hst.out]
            have cS:=HCS.out fb g2 Ae Ce _ Q vr L wr T0 (by omega) HL.out HGD.out (VD.keep T0.hb) (VG.keep T0.hb)
            rw [eR.out] at cS
            clear eR hR5 HCS HST hst
            cases R with
            | error e =>
             go_wp2_with (go_at_call 26;(with_reducible refine cS.mono ?_);rintro r W9 ⟨hM,hb2⟩;replace hM:r=.returned (.tuple #[.slice none 0 0,.int .i64 e]):=hM;subst hM)
             exact bodyPost_ret (v:=.tuple #[.slice none 0 0,.int .i64 e]) (by simp [results,Try.results7,go_sem, *]) rfl ⟨rfl,T0.hb.trans (hb2.mono hwfb)⟩
            | ok Z =>
             go_wp2_with (go_at_call 26;(with_reducible refine cS.mono ?_);rintro r W9 ⟨hM,hb2⟩;obtain⟨A9,C9,rfl,DR⟩:=hM)
             exact bodyPost_ret (v:=.tuple #[.slice A9 k C9,.int .i64 0]) (by simp [results,Try.results7,go_sem, *]) rfl ⟨⟨A9,C9,rfl,DR⟩,T0.hb.trans (hb2.mono hwfb)⟩
           ·have hit:i<t:=by omega
            have hlt:(i:Int)<(t:Int):=by omega
            have cn:=(VC.2 i hit).1
            dsimp only at cn
            cases hN':N i with
            | false =>
             rw [hN'] at cn
             replace cn:wr.cell? ⟨g,i,none⟩=some (.int .i64 0):=cn
             have hN2:Hid (N i=false):=hN'
             clear hN'
             go_wp2_with fail
             go_roundg (t-i-1)
             case measure=>omega
             case rel =>
              refine⟨i+1,Q,L,vr,by omega,by go_num,(state_skip hN2.out).trans hst.out,T0.congrK (fun j hj=>⟨?_,hj.2⟩),VC⟩
              rcases Nat.lt_or_ge j i with h | h
              ·exact h
              ·exfalso
               have e:j=i:=by omega
               have q:=hj.2
               rw [e,hN2.out] at q
               cases q
            | true =>
             rw [hN'] at cn
             replace cn:wr.cell? ⟨g,i,none⟩=some (.int .i64 1):=cn
             have hN2:Hid (N i=true):=hN'
             clear hN'
             obtain⟨bn,on,hA,hbn, -⟩:=VN i hit
             subst hA
             obtain⟨F0,hF0⟩:∃F0,Hid (formF X G D S Q (X i)=F0):=⟨_,rfl⟩
             have hfit:=HF.out i hit hN2.out
             have hstp:Hid (stateF X N G D S (i+1)=F0.map fun r=>((fun j=>if j=i then r.1 else Q j),L.map (·.1)++r.2)):=by show _=_;rw [state_step hst.out hN2.out hfit,hF0.out]
             have cf:=fform_w (G:=G) (D:=D) w fb bn on t CN A0 k C0 A1 C1 Ae Ce S g2 _ Q vr L X (X i) i (by omega) hit rfl wr VN T0 hfit HS.out HdS.out HGD.out (fun j hj=>⟨by have:=HO.out i hit j hj;omega,hN.out i hit hN2.out j hj⟩) HQ.out HR1.out (by omega) VD VG
             rw [hF0.out] at cf
             have hL4:L.length<=i:=hLl
             clear hF0 hfit
             cases F0 with
             | none =>
              have e:Hid (R=.error 3):=by
               show _=_
               rw [<-hR5.out]
               unfold workR
               rw [stateF_none (i:=i+1) hstp.out t (by omega)]
              clear hR5 hstp HCS HST hst
              go_wp2_with (first
               | (go_at_call 25;(with_reducible refine cf.mono ?_);rintro r W8 ⟨hM,hb8⟩;obtain⟨A9,C9,E9,rfl⟩:=hM;have HB8:Below w.heap.size w W8:=T0.hb.trans (hb8.mono hwfb))
               | (refine wpList_storeBig (by rfl) _ _ 58 (by rfl) (blk_new _ _ _) (fmL (.slice A9 k C9) E9) (by kernel_rfl) (by rfl) (by rfl) (by rfl) (by rfl) ?_;rintro V9 XR hs2 hB2 hk2))
              have HB:Below w.heap.size w V9:=hB2 _ _ (Below.alloc HB8 HB8.size _) HB8.size
              have e2:=e.out
              subst e2
              exact bodyPost_ret (v:=.tuple #[.slice none 0 0,.int .i64 3]) (by simp [results,Try.results7,go_sem, *]) rfl ⟨rfl,HB⟩
             | some YZ =>
              obtain⟨Y,Z⟩:=YZ
              go_upto_region 33 with (first
               | (go_at_call 25;(with_reducible refine cf.mono ?_);rintro r W8 ⟨hM,hb8⟩;obtain⟨A9,C9,vr9,M,rfl,rY,T9,hMZ⟩:=hM)
               | (refine wpList_storeBig (by rfl) _ _ 58 (by rfl) (blk_new _ _ _) (fmL (.slice A9 k C9) Y.1) (by kernel_rfl) (by rfl) (by rfl) (by rfl) (by rfl) ?_;rintro V9 XR hs2 hB2 hk2))
              have grw:Below W8.heap.size W8 V9:=hB2 _ _ (Below.alloc (Below.refl _ _) (Nat.le_refl _) _) (Nat.le_refl _)
              have XN:=XR
              obtain⟨xb,hxb⟩:∃xb,xb=W8.heap.size:=⟨_,rfl⟩
              rw [<-hxb] at XN ⊢
              replace T9:=T9.keep grw
              replace rY:=rY.keep grw
              replace VC:=(VC.keepB hb8 hgfb hb8.size).keep grw
              clear hB2 hk2 grw XR hxb hb8 cf cn
              have hS:∀W,Below V9.heap.size V9 W->(fun W=>W.cell? ⟨fb,18,none⟩=some (.slice (some ⟨g2,0,none⟩) t t)/\(∀j u,(fmL (.slice A9 k C9) Y.1)[j]?=some u->W.cell? ⟨xb,0+j,none⟩=some u)) W:=fun W h=>⟨(T9.keep h).fd.cell 18 _ rfl,fun j u hj=>(XN.keeps h).cell0 j u hj⟩
              have hdr:Below V9.heap.size V9 V9.drew:=(Below.refl _ _).drew
              refine held_tail 7 (fun W=>W.cell? ⟨fb,18,none⟩=some (.slice (some ⟨g2,0,none⟩) t t)/\(∀j u,(fmL (.slice A9 k C9) Y.1)[j]?=some u->W.cell? ⟨xb,0+j,none⟩=some u)) (by kernel_rfl) (by kernel_rfl) (hS _ hdr) (fun hHeld=>?_)
              simp only [List.take_succ_cons,List.take_zero,List.drop_succ_cons,List.drop_zero]
              replace T9:=T9.keep hdr
              replace rY:=rY.keep hdr
              replace VC:=VC.keep hdr
              refine tk (v:=?_) 0 rfl ?_ hHeld ?_;rotate_left;(focus ((intro w hSw;(try dsimp only at hSw);go_simp);try with_reducible rfl));simp only[gA,gB,Act.put,gD,gE,gF];refine tk (v:=?_) 1 rfl ?_ hHeld ?_;rotate_left;(focus ((intro w hSw;(try dsimp only at hSw);go_simp);try with_reducible rfl));simp only[gA,gB,gC,Act.put,gD,gE,gF];refine tk (v:=?_) 2 rfl ?_ hHeld ?_;rotate_left;(focus ((intro w hSw;(try dsimp only at hSw);go_simp);try with_reducible rfl));simp only[gA,gB,gC,Act.put,gD,gE,gF];refine tk (v:=?_) 3 rfl ?_ hHeld ?_;rotate_left;(focus ((intro w hSw;(try dsimp only at hSw);go_simp);try with_reducible rfl));simp only[gA,gB,gC,Act.put,gD,gE,gF];refine tk (v:=?_) 4 rfl ?_ hHeld ?_;rotate_left;(focus ((intro w hSw;(try dsimp only at hSw);go_simp);try with_reducible rfl));simp only[gA,gB,gC,Act.put,gD,gE,gF]
              refine wpAnyH_take (i:=5) (v:=fmV (.slice A9 k C9) Y.1) rfl (by kernel_rfl) (by kernel_rfl) (by kernel_rfl) (fun _ _ _ h=>h) (yields_loadBig (by rfl) _ 58 (by rfl) Try.underlying58 (fmL (.slice A9 k C9) Y.1) (by kernel_rfl) (by rfl) (fun W hS2=>hS2.2) (fm_val _ _)) hHeld ?_;simp only[gA,gB,gC,Act.put,gD,gE,gF]
              refine tk (v:=?_) 6 rfl ?_ hHeld ?_;rotate_left;(focus ((intro w hSw;(try dsimp only at hSw);go_simp);try with_reducible rfl));simp only[gA,gB,gC,Act.put,gD,gE,gF]
              refine wpAnyH_done (by kernel_rfl) ?_ _
              show wpList _ _ _ _ _ _
              clear hS hdr XN
              generalize V9.drew=V10 at *
              obtain⟨cs9,b9,l9,f9⟩:=T9.fs
              have HF9:Hid _:=f9
              clear f9
              go_wp2_with (refine wpList_storeMid (off:=i*15) (by rfl) _ _ 58 (by rfl) b9 (fmL (.slice A9 k C9) Y.1) (by kernel_rfl) (show i*15+15<=cs9.length by omega) (by rfl) (by rfl) (by rfl) ?_;rintro V11 XR2 hs3 hB3 hk3)
              go_roundg (t-i-1)
              case measure=>omega
              case rel =>
               refine⟨i+1,_,L++M,vr9,by omega,by go_num, ?_,(T9.put b9 l9 HF9.out hit rY XR2 hB3 hk3).congrK (fun j hj=>?_),VC.keepB (hB3 g2 _ (Below.refl _ _) (Nat.le_refl _)) hgg (by omega)⟩
               ·show _=_
                rw [hstp.out,List.map_append,hMZ]
                rfl
               ·rcases Nat.lt_or_ge j i with h | h
                ·exact Or.inl ⟨h,hj.2⟩
                ·exact Or.inr (by omega)
         ·have htn:t<n:=by omega
          have hlt:(t:Int)<(n:Int):=by omega
          obtain⟨b,o,hA,hb, -⟩:=(VN.keep HB) t htn
          subst hA
          obtain⟨x,hx⟩:∃x,x=X t:=⟨_,rfl⟩
          have xc:Hid (∀j c,(ndL x)[j]?=some c->wr.cell? ⟨b,o+t*22+j,none⟩=some c):=by rw [hx];exact ((VN.keep HB).at (i:=t) htn).2
          have hgood:Hid ((!(N t&&(x.k==2&&decide ((k:Int)<=x.v))))=true->∀q,q<t+1->(!(N q&&((X q).k==2&&decide ((k:Int)<=(X q).v))))=true):=fun h q hq=>by
           rcases Nat.lt_or_ge q t with h1 | h1
           ·exact hall.out q h1
           ·rw [show q=t by omega,<-hx];exact h
          have hbad:Hid ((!(N t&&(x.k==2&&decide ((k:Int)<=x.v))))=false->R=.error 1):=fun q=>by
           rw [<-hR4.out,if_neg]
           unfold haveB
           rw [all_not2 (i:=t) htn (by rw [<-hx];exact q)]
           simp
          clear hR4 hall
          replace hx:Hid (x=X t):=hx
          go_upto_region 21 with (first
           | (refine wpList_loadBig (by rfl) _ 54 (by rfl) Try.underlying54 (ndL x) (by kernel_rfl) (by rfl) (xc.out) (nd_val x) ?_)
           | (refine wpList_storeBig (by rfl) _ _ 54 (by rfl) (blk_new _ _ _) (ndL x) (by kernel_rfl) (by rfl) (by rfl) (by rfl) (by rfl) ?_;rintro V2 XR hs2 hB2 hk2))
          have grw:Below wr.heap.size wr V2:=hB2 _ _ (Below.alloc (Below.refl _ _) (Nat.le_refl _) _) (Nat.le_refl _)
          replace HB:=later HB grw
          replace XS:=XS.keeps grw
          replace VC:=VC.keep grw
          have XN:=XR
          have cn:=(VC.2 t htn).1
          dsimp only at cn
          obtain⟨xb,hxb⟩:∃xb,xb=wr.heap.size:=⟨_,rfl⟩
          rw [<-hxb] at XN ⊢
          clear hxb hB2 hk2 hs2 grw xc XR
          obtain⟨y0,y1,y2,y3,y4,y5,y6,y7⟩:=XN.nd.cells
          generalize N t=Nt at *
          cases Nt with
          | false =>
           replace cn:V2.cell? ⟨g,t,none⟩=some (.int .i64 0):=cn
           have g2:Hid _:=hgood.out rfl
           clear hgood hbad
           go_wp2_with fail
           go_roundg (n-t-1)
           case measure=>omega
           case rel=>exact⟨t+1,by omega,by go_num,HB,XS,VC,g2⟩
          | true =>
           replace cn:V2.cell? ⟨g,t,none⟩=some (.int .i64 1):=cn
           by_cases d1:x.k=2
           ·rw [d1] at y0
            have hh:Hid (x.k=2):=d1
            by_cases d2:(k:Int)<=x.v
            ·have g2:Hid _:=hbad.out (by rw [d1,decide_eq_true d2];rfl)
             clear hgood hbad d1
             go_wp2_with fail
             have e2:=g2.out
             subst e2
             exact bodyPost_ret (v:=.tuple #[.slice none 0 0,.int .i64 1]) (by simp [results,Try.results7,go_sem, *]) rfl ⟨rfl,HB⟩
            ·have g2:Hid _:=hgood.out (by rw [d1,decide_eq_false d2];rfl)
             clear hgood hbad d1
             go_wp2_with fail
             go_roundg (n-t-1)
             case measure=>omega
             case rel=>exact⟨t+1,by omega,by go_num,HB,XS,VC,g2⟩
           ·have d2:(x.k==2)=false:=beq_eq_false_iff_ne.2 d1
            have g2:Hid _:=hgood.out (by rw [d2];rfl)
            clear hgood hbad
            go_wp2_with fail
            go_roundg (n-t-1)
            case measure=>omega
            case rel=>exact⟨t+1,by omega,by go_num,HB,XS,VC,g2⟩
       ·have hkn:k<n1:=by omega
        have hlt:(k:Int)<(n1:Int):=by omega
        obtain⟨b1,o1,hA1,l1,g1⟩:=(VG.keep HB) k hkn
        obtain⟨b0,o0,hA0,l0,g0⟩:=(VD.keep HB) k hkn
        replace g0:Hid (∀j c,(dimL (D k))[j]?=some c->wr.cell? ⟨b0,o0+k*14+j,none⟩=some c):=g0
        subst hA1 hA0
        have hgood:Hid ((!G k || drK (D k) 7)=true->∀q,q<k+1->(!G q || drK (D q) 7)=true):=fun h q hq=>by
         rcases Nat.lt_or_ge q k with h1 | h1
         ·exact hall.out q h1
         ·rw [show q=k by omega];exact h
        have hbad:Hid ((!G k || drK (D k) 7)=false->R=.error 1):=fun q=>by
         rw [<-hR3.out,if_neg]
         unfold givenB
         rw [all_not2 (i:=k) hkn q,Bool.false_and]
         simp
        have c4:=c3 k hkn
        unfold dimV at c4
        clear hR3 hall c3
        cases hG:G k with
        | false =>
         rw [hG] at g1
         have g2:Hid _:=hgood.out (by rw [hG];rfl)
         clear hgood hbad hG
         go_wp2_with fail
         go_roundg (n1-k-1)
         case measure=>omega
         case rel=>exact⟨k+1,by omega,by go_num,HB,XS,VC,g2⟩
        | true =>
         rw [hG] at g1
         cases hd:drK (D k) 7 with
         | false =>
          rw [hd] at c4
          have g2:Hid _:=hbad.out (by rw [hG,hd];rfl)
          clear hgood hbad hG hd
          go_wp2_with (first
           | (refine wpList_loadBig (by rfl) _ 30 (by rfl) Try.underlying30 (dimL (D k)) (by kernel_rfl) (by rfl) (g0.out) (dim_valU (D k)) ?_)
           | (go_at_call 22;(with_reducible refine (c4 _).mono ?_);rintro _ W3 ⟨rfl,hb2⟩;replace HB:=later HB hb2;clear hb2))
          have e2:=g2.out
          subst e2
          exact bodyPost_ret (v:=.tuple #[.slice none 0 0,.int .i64 1]) (by simp [results,Try.results7,go_sem, *]) rfl ⟨rfl,HB⟩
         | true =>
          rw [hd] at c4
          have g2:Hid _:=hgood.out (by rw [hd,Bool.or_true])
          clear hgood hbad hG hd
          go_wp2_with (first
           | (refine wpList_loadBig (by rfl) _ 30 (by rfl) Try.underlying30 (dimL (D k)) (by kernel_rfl) (by rfl) (g0.out) (dim_valU (D k)) ?_)
           | (go_at_call 22;(with_reducible refine (c4 _).mono ?_);rintro _ W3 ⟨rfl,hb2⟩;replace HB:=later HB hb2;replace XS:=XS.keeps hb2;replace VC:=VC.keep hb2;clear hb2))
          go_roundg (n1-k-1)
          case measure=>omega
          case rel=>exact⟨k+1,by omega,by go_num,HB,XS,VC,g2⟩
    ·have e:Hid (R=.error 1):=by show _=_;rw [<-hR2.out];unfold vrightB;rw [beq_eq_false_iff_ne.2 c1];rfl
     have c1':((n1:Int)==(n0:Int))=false:=beq_eq_false_iff_ne.2 (by omega)
     clear hR2
     go_wp2_with fail
     have e2:=e.out
     subst e2
     exact bodyPost_ret (v:=.tuple #[.slice none 0 0,.int .i64 1]) (by simp [results,Try.results7,go_sem, *]) rfl ⟨rfl,HB⟩
   ·have hin:i<m:=by omega
    have hlt:(i:Int)<(m:Int):=by omega
    obtain⟨b,o,hA,hb,x0⟩:=(VQ.keep HB) i hin
    subst hA
    have hbad:Hid (oneOf (Y i) (n:Int)=false->R=.error 170):=fun q=>by
     rw [<-hR.out]
     unfold inferR
     rw [all_not2 (i:=i) hin q,Bool.and_false]
     rfl
    have hgood:Hid (oneOf (Y i) (n:Int)=true->∀q,q<i+1->oneOf (Y q) (n:Int)=true):=fun h q hq=>by
     rcases Nat.lt_or_ge q i with h1 | h1
     ·exact hall.out q h1
     ·rw [show q=i by omega];exact h
    clear hR hall
    generalize Y i=y at *
    by_cases d1:0<=y
    ·by_cases d2:y<(n:Int)
     ·have g2:Hid _:=hgood.out (decide_eq_true ⟨d1,d2⟩)
      clear hgood hbad
      go_wp2_with fail
      go_roundg (m-i-1)
      case measure=>omega
      case rel=>exact⟨i+1,by omega,by go_num,rfl,g2⟩
     ·have g2:Hid _:=hbad.out (decide_eq_false (fun h=>d2 h.2))
      clear hgood hbad
      go_wp2_with fail
      have e2:=g2.out
      subst e2
      exact bodyPost_ret (v:=.tuple #[.slice none 0 0,.int .i64 170]) (by simp [results,Try.results7,go_sem, *]) rfl ⟨rfl,HB⟩
    ·have g2:Hid _:=hbad.out (decide_eq_false (fun h=>d1 h.1))
     clear hgood hbad
     go_wp2_with fail
     have e2:=g2.out
     subst e2
     exact bodyPost_ret (v:=.tuple #[.slice none 0 0,.int .i64 170]) (by simp [results,Try.results7,go_sem, *]) rfl ⟨rfl,HB⟩
end Go.Proofs.Ytbejmklkicoibaa
