/- orreryref14's Finder.form: letters, of which a rule may be told. -/
import Derived.Test.YtbejmklkicoibaaSh
import Derived.Test.YtbejmklkicoibaaKe43
namespace Go.Proofs.Ytbejmklkicoibaa
open Go.ChangeShapes Go.WideShapes Go.ChangeAt Go.RowKit
set_option maxRecDepth 4000 in
set_option maxHeartbeats 8000000 in
theorem fform_rest (w0:World) (fb bn on n CN:Nat) (A0:Option Addr) (m C0:Nat) (A1:Option Addr) (C1:Nat) (A2:Option Addr) (C2:Nat) (S:Nat->Int×Int) (g:Nat) (KN:Nat->Prop) (Q:Nat->Pro) (vr:Value) (L:List FV) (X:Nat->Nd) (x:Nd) (i:Nat) (hm:m<=500) (hi:i<n) (hx:x=X i) (w:World) (VN:Nds w0 (some ⟨bn,on,none⟩) n X) (T:FSt w0 fb (some ⟨bn,on,none⟩) n CN A0 m C0 A1 C1 A2 C2 S g KN Q vr L w) (hk:10<=x.k/\x.k<=14) (hKa:KN x.a.toNat) (h0a:0<=x.a) (hf:(X x.a.toNat).k=1->rightR (X x.a.toNat).q (X x.a.toNat).p=true) (hL:L.length<=100000) :
  Calls Try.prog 25 #[.pointer (some ⟨fb,0,none⟩),.int .i64 (i:Int)] w fun r w'=>FmAns w0 fb (some ⟨bn,on,none⟩) n CN A0 m C0 A1 C1 A2 C2 S g KN Q L r w' (some ((plE,[]),if frB (X x.a.toNat) then [] else [Q x.a.toNat]))/\Below fb w w':=by
 have hfb:fb<w.heap.size:=T.fd.lt
 obtain⟨ta,hta⟩:∃ta:Nat,Hid (x.a=(ta:Int)):=⟨x.a.toNat,by show _=_;omega⟩
 have ea:x.a.toNat=ta:=by have:=hta.out;omega
 rw [ea] at hKa
 rw [ea] at hf ⊢
 obtain⟨Z,hZ⟩:∃Z,Hid ((if frB (X ta) then [] else [Q ta])=Z):=⟨_,rfl⟩
 rw [hZ.out]
 clear ea h0a
 have a0:∀b,w.heap.size<=b->ApartF vr b:=fun b hb=>T.ow.apart hb
 obtain⟨b,o,hA,hb, -⟩:=(VN.keep T.hb) i hi
 have hb0:bn=b:=by injection hA with hA;injection hA with hA
 subst hb0
 have xc:Hid (∀j c,(ndL x)[j]?=some c->w.cell? ⟨bn,on+i*22+j,none⟩=some c):=by rw [hx];exact ((VN.keep T.hb).at (i:=i) hi).2
 clear hA
 replace hx:Hid (x=X i):=hx
 have hlt:(i:Int)<(n:Int):=by omega
 have ce:=fun W=>fempty_w m hm W
 have T0:=T
 obtain⟨RB,HB⟩:=blks1 w 58 [.slice none 0 0,.int .i64 0,.int .i64 0,.int .i64 0,.int .i64 0,.int .i64 0,.int .i64 0,.int .i64 0,.int .i64 0,.int .i64 0,.int .i64 0,.int .i64 0,.int .i64 0,.int .i64 0,.int .i64 0]
 go_enter Try.func25,Try.ntmps25
 go_upto_region 1 with fail
 generalize (w.alloc (.cells #[.slice none 0 0,.int .i64 0,.int .i64 0,.int .i64 0,.int .i64 0,.int .i64 0,.int .i64 0,.int .i64 0,.int .i64 0,.int .i64 0,.int .i64 0,.int .i64 0,.int .i64 0,.int .i64 0,.int .i64 0] 58))=V1 at *
 replace T:=T.keep HB
 have c0:=T.fd.cell 0 _ rfl
 have hrl:w.heap.size<V1.heap.size:=RB.lt
 have xl:bn<V1.heap.size:=Nat.lt_of_lt_of_le hb HB.size
 replace xc:Hid (∀j c,(ndL x)[j]?=some c->V1.cell? ⟨bn,on+i*22+j,none⟩=some c):=fun j c hj=>keepsC HB (xc.out j c hj) hb
 go_upto_region 2 with (first
  | (refine wpList_loadBig (by rfl) _ 54 (by rfl) Try.underlying54 (ndL x) (by kernel_rfl) (by rfl) (xc.out) (nd_val x) ?_)
  | (refine wpList_storeBig (by rfl) _ _ 54 (by rfl) (blk_new _ _ _) (ndL x) (by kernel_rfl) (by rfl) (by rfl) (by rfl) (by rfl) ?_;rintro V2 XR hs2 hB2 hk2))
 have grw:Below V1.heap.size V1 V2:=hB2 _ _ (Below.alloc (Below.refl _ _) (Nat.le_refl _) _) (Nat.le_refl _)
 have XN:=XR
 obtain⟨nb,hnb⟩:∃nb,nb=V1.heap.size:=⟨_,rfl⟩
 have hnb2:w.heap.size<nb:=by omega
 rw [<-hnb] at XN ⊢
 replace T:=T.keep grw
 replace RB:=RB.keeps grw
 replace HB:=later HB grw
 clear XR hB2 hk2 hs2 grw c0 xc xl hrl hnb
 have c1:=T.fd.cell 1 _ rfl
 try simp only [Act.put]
 go_upto_region 3 with (first
  | (go_at_call 24;(with_reducible refine (ce _).mono ?_);rintro _ W3 ⟨⟨ve,rfl,Ie⟩,hb2⟩;have hw2:w.heap.size<=V2.heap.size:=HB.size;replace HB:=later HB hb2;replace RB:=RB.keeps hb2;replace XN:=XN.keeps hb2;replace T:=T.keep hb2;replace Ie:=Ie.base hw2;clear hb2 c1 hw2;obtain⟨Ae,Ce,e7, -,re,hAe⟩:=Ie.form;rw [List.length_replicate] at e7 re hAe;subst e7;clear Ie)
  | (refine wpList_storeBig (by rfl) _ _ 58 (by rfl) (blk_new _ _ _) (fmL (.slice Ae m Ce) plE) (by kernel_rfl) (by rfl) (by rfl) (by rfl) (by rfl) ?_;rintro V4 XR hs2 hB2 hk2))
 replace re:RtAt W3 Ae m (fun _=>(0,1)):=re.congr fun u hu=>by rw [List.getD_eq_getElem?_getD,List.getElem?_replicate,if_pos hu];rfl
 have grw:Below W3.heap.size W3 V4:=hB2 _ _ (Below.alloc (Below.refl _ _) (Nat.le_refl _) _) (Nat.le_refl _)
 have XE:=XR
 obtain⟨eb,heb⟩:∃eb,eb=W3.heap.size:=⟨_,rfl⟩
 have hnl:nb<W3.heap.size:=XN.lt
 have heb2:nb<eb:=by omega
 rw [<-heb] at XE ⊢
 have U:FFt w0 fb bn on n CN A0 m C0 A1 C1 A2 C2 S g KN Q vr L w nb eb x Ae Ce V4:=⟨T.keep grw,XN.keeps grw,XE,RB.keeps grw,re.keep grw,later HB grw,hnb2,heb2⟩
 clear XR hB2 hk2 hs2 grw XN XE RB T re HB heb hnb2 heb2 hnl ce
 try simp only [Act.put]
 have y0:V4.cell? ⟨nb,0,none⟩=some (.int .i64 x.k):=U.nd.cell 0 _ rfl
 have k1:(x.k==1)=false:=beq_eq_false_iff_ne.2 (by omega)
 have k2:(x.k==2)=false:=beq_eq_false_iff_ne.2 (by omega)
 have k3:(x.k==3)=false:=beq_eq_false_iff_ne.2 (by omega)
 have k4:(x.k==4)=false:=beq_eq_false_iff_ne.2 (by omega)
 have k5:(x.k==5)=false:=beq_eq_false_iff_ne.2 (by omega)
 have k6:(x.k==6)=false:=beq_eq_false_iff_ne.2 (by omega)
 have k7:(x.k==7)=false:=beq_eq_false_iff_ne.2 (by omega)
 have k8:(x.k==8)=false:=beq_eq_false_iff_ne.2 (by omega)
 have k9:(x.k==9)=false:=beq_eq_false_iff_ne.2 (by omega)
 have k15:(x.k==15)=false:=beq_eq_false_iff_ne.2 (by omega)
 replace hk:Hid (10<=x.k/\x.k<=14):=hk
 go_upto_region 33 with fail
 obtain⟨hta2,hgl,Aa,ca,ra,fa⟩:=T0.fs.at hKa
 have hS:∀W,FFt w0 fb bn on n CN A0 m C0 A1 C1 A2 C2 S g KN Q vr L w nb eb x Ae Ce W->(fun W=>W.cell? ⟨fb,18,none⟩=some (.slice (some ⟨g,0,none⟩) n n)/\W.cell? ⟨nb,1,none⟩=some (.int .i64 (ta:Int))/\W.cell? ⟨fb,19,none⟩=some vr/\(∀j u,(fmL (.slice Aa m ca) (Q ta).1)[j]?=some u->W.cell? ⟨g,ta*15+j,none⟩=some u)) W:=fun W h=>by
  refine⟨h.t.fd.cell 18 _ rfl, ?_,h.t.fd.cell 19 _ rfl,fun j u hj=>keepsC h.hw (fa j u hj) hgl⟩
  have q:=h.nd.cell 1 _ rfl
  rw [hta.out] at q
  exact q
 have hta3:(ta:Int)<(n:Int):=by omega
 have cf:∀W,FFt w0 fb bn on n CN A0 m C0 A1 C1 A2 C2 S g KN Q vr L w nb eb x Ae Ce W->Calls Try.prog 46 #[.pointer (some ⟨fb,0,none⟩),.int .i64 (ta:Int)] W fun r w'=>r=.returned (.bool (frB (X ta)))/\w'=W:=fun W h=>ffree_w fb (some ⟨bn,on,none⟩) n CN X ta hta2 hf W (VN.keep h.t.hb) (h.t.fd.cell 0 _ rfl)
 have y1:=(hS _ U).2.1
 clear k1 k2 k3 k4 k5 k6 k7 k8 k9 k15 y0
 cases hfr:frB (X ta) with
 | true =>
  rw [hfr] at cf
  have RB5:=U.rb
  go_wp2_with (first
   | (go_at_call 46;(with_reducible refine (cf _ U).mono ?_);rintro _ W6 ⟨rfl,hW6⟩;rw [hW6];clear hW6)
   | (refine wpList_loadBig (by rfl) _ 58 (by rfl) Try.underlying58 (fmL (.slice Ae m Ce) plE) (by kernel_rfl) (by rfl) (U.em.cell0) (fm_val _ _) ?_)
   | (refine wpList_storeBig (by rfl) _ _ 58 (by rfl) (RB5) (fmL (.slice Ae m Ce) plE) (by kernel_rfl) (by rfl) (by rfl) (by rfl) (by rfl) ?_;rintro V6 XR hs2 hB2 hk2))
  have HB6:=hB2 _ _ U.hw (Nat.le_refl _)
  exact bodyPost_ret (v:=.tuple #[fmV (.slice Ae m Ce) plE,.bool true]) (results_cell_tmp Try.results25 _ V6 w.heap.size 58 (fmL (.slice Ae m Ce) plE).toArray (0,0) _ (by rfl) XR Try.underlying58 (by rfl) (by kernel_rfl) (by rfl)) rfl ⟨⟨Ae,Ce,vr,[],rfl,(U.re.other RB5 (by decide) hk2).congr (fun u _=>(co_nil u).symm),by rw [List.append_nil];exact T0.keep HB6,by rw [<-hZ.out,hfr];rfl⟩,HB6.mono (by omega)⟩
 | false =>
  rw [hfr] at cf
  go_upto_region 34 with (go_at_call 46;(with_reducible refine (cf _ U).mono ?_);rintro _ W6 ⟨rfl,hW6⟩;rw [hW6];clear hW6)
  clear y1 cf fa
  refine held_tail 15 (fun W=>W.cell? ⟨fb,18,none⟩=some (.slice (some ⟨g,0,none⟩) n n)/\W.cell? ⟨nb,1,none⟩=some (.int .i64 (ta:Int))/\W.cell? ⟨fb,19,none⟩=some vr/\(∀j u,(fmL (.slice Aa m ca) (Q ta).1)[j]?=some u->W.cell? ⟨g,ta*15+j,none⟩=some u)) (by kernel_rfl) (by kernel_rfl) (hS _ (U.keep (Below.refl _ _).drew)) (fun hHeld=>?_)
  simp only [List.take_succ_cons,List.take_zero,List.drop_succ_cons,List.drop_zero]
  replace U:=U.keep (Below.refl _ _).drew
  generalize V4.drew=V5 at *
  refine tk (v:=?_) 0 rfl ?_ hHeld ?_;rotate_left;(focus ((intro w hSw;(try dsimp only at hSw);go_simp);try with_reducible rfl));simp only[gA,gB,Act.put,gD,gE,gF];refine tk (v:=?_) 1 rfl ?_ hHeld ?_;rotate_left;(focus ((intro w hSw;(try dsimp only at hSw);go_simp);try with_reducible rfl));simp only[gA,gB,gC,Act.put,gD,gE,gF];refine tk (v:=?_) 2 rfl ?_ hHeld ?_;rotate_left;(focus ((intro w hSw;(try dsimp only at hSw);go_simp);try with_reducible rfl));simp only[gA,gB,gC,Act.put,gD,gE,gF];refine tk (v:=?_) 3 rfl ?_ hHeld ?_;rotate_left;(focus ((intro w hSw;(try dsimp only at hSw);go_simp);try with_reducible rfl));simp only[gA,gB,gC,Act.put,gD,gE,gF];refine tk (v:=?_) 4 rfl ?_ hHeld ?_;rotate_left;(focus ((intro w hSw;(try dsimp only at hSw);go_simp);try with_reducible rfl));simp only[gA,gB,gC,Act.put,gD,gE,gF];refine tk (v:=?_) 5 rfl ?_ hHeld ?_;rotate_left;(focus ((intro w hSw;(try dsimp only at hSw);go_simp);try with_reducible rfl));simp only[gA,gB,gC,Act.put,gD,gE,gF];refine tk (v:=?_) 6 rfl ?_ hHeld ?_;rotate_left;(focus ((intro w hSw;(try dsimp only at hSw);go_simp);try with_reducible rfl));simp only[gA,gB,gC,Act.put,gD,gE,gF];refine tk (v:=?_) 7 rfl ?_ hHeld ?_;rotate_left;(focus ((intro w hSw;(try dsimp only at hSw);go_simp);try with_reducible rfl));simp only[gA,gB,gC,Act.put,gD,gE,gF];refine tk (v:=?_) 8 rfl ?_ hHeld ?_;rotate_left;(focus ((intro w hSw;(try dsimp only at hSw);go_simp);try with_reducible rfl));simp only[gA,gB,gC,Act.put,gD,gE,gF];refine tk (v:=?_) 9 rfl ?_ hHeld ?_;rotate_left;(focus ((intro w hSw;(try dsimp only at hSw);go_simp);try with_reducible rfl));simp only[gA,gB,gC,Act.put,gD,gE,gF];refine tk (v:=?_) 10 rfl ?_ hHeld ?_;rotate_left;(focus ((intro w hSw;(try dsimp only at hSw);go_simp);try with_reducible rfl));simp only[gA,gB,gC,Act.put,gD,gE,gF];refine tk (v:=?_) 11 rfl ?_ hHeld ?_;rotate_left;(focus ((intro w hSw;(try dsimp only at hSw);go_simp);try with_reducible rfl));simp only[gA,gB,gC,Act.put,gD,gE,gF]
  refine wpAnyH_take (i:=12) (v:=.agg #[.slice Aa m ca,.int .i64 ((Q ta).1 0).1,.int .i64 ((Q ta).1 0).2,.int .i64 ((Q ta).1 1).1,.int .i64 ((Q ta).1 1).2,.int .i64 ((Q ta).1 2).1,.int .i64 ((Q ta).1 2).2,.int .i64 ((Q ta).1 3).1,.int .i64 ((Q ta).1 3).2,.int .i64 ((Q ta).1 4).1,.int .i64 ((Q ta).1 4).2,.int .i64 ((Q ta).1 5).1,.int .i64 ((Q ta).1 5).2,.int .i64 ((Q ta).1 6).1,.int .i64 ((Q ta).1 6).2]) rfl (by kernel_rfl) (by kernel_rfl) (by kernel_rfl) (fun _ _ _ h=>h) (yields_loadBig (by rfl) _ 58 (by rfl) Try.underlying58 (fmL (.slice Aa m ca) (Q ta).1) (by kernel_rfl) (by rfl) (fun W hS2=>hS2.2.2.2) (fm_val _ _)) hHeld ?_;simp only[gA,gB,gC,Act.put,gD,gE,gF]
  refine rd 13 rfl (fun K hK=>?_);simp only[gA,gB,gC,Act.put,gD,gE,gF];go_simp
  have nbk:BlkAt (V5.alloc (.cells (fmL (.slice Aa m ca) (Q ta).1).toArray 58)) V5.heap.size 58 (fmL (.slice Aa m ca) (Q ta).1):=blk_new _ _ _
  have hg1:Below V5.heap.size V5 (V5.alloc (.cells (fmL (.slice Aa m ca) (Q ta).1).toArray 58)):=Below.alloc (Below.refl _ _) (Nat.le_refl _) _
  replace U:=U.keep hg1
  clear hg1
  change K _ (V5.alloc (.cells (fmL (.slice Aa m ca) (Q ta).1).toArray 58))
  refine hK.out _ _ (hS _ U) (fun hHeld=>?_)
  clear hK K
  generalize V5.alloc (.cells (fmL (.slice Aa m ca) (Q ta).1).toArray 58)=W7 at *
  generalize V5.heap.size=nbb at *
  refine rd 14 rfl (fun K hK=>?_)
  refine step_catFr2 (B:=fb+1) (n:=m) (by rfl) _ _ (by rfl) vr L (Q ta,.slice Aa m ca) nbb (by rfl) (by rfl) U.t.ow nbk ⟨_,_,rfl⟩ hL U.t.fd.lt ?_
  rintro v' w8 I8 hb8 hk8 ha8 hs8
  obtain⟨A8,C8,e8, -⟩:=I8.form
  generalize (L++[(Q ta,Value.slice Aa m ca)]).length=q8 at e8
  subst e8
  have fd8:=U.t.fd.keep hb8 (Nat.lt_succ_self fb)
  have nd8:=U.t.ow.kinds hk8 _ _ _ (by decide) U.nd
  refine hK.out _ _ ⟨fd8.cell 18 _ rfl,by have q:=nd8.cell 1 _ rfl;rw [hta.out] at q;exact q,fd8.cell 19 _ rfl,fun j u hj=>(World.cell?_of_block (hb8.block g (by have:=U.t.gl;omega))).trans ((hS _ U).2.2.2 j u hj)⟩ (fun _=>wpAnyH_done (by kernel_rfl) ?_ _)
  clear hK K hHeld
  obtain⟨-,em8, -,rb8,re8,hB8,ap8,kr8⟩:=U.grown hfb a0 hb8 hk8 ha8
  have TG:=U.t.grown I8 hb8 (U.t.ow.kinds hk8) (FvOk.one (ra.keep U.hw))
  have y19:=fd8.cell 19 _ rfl
  have fz:=fd8.froz 19
  show wpList _ _ _ _ _ _
  go_wp2_with (first
   | (refine wpList_loadBig (by rfl) _ 58 (by rfl) Try.underlying58 (fmL (.slice Ae m Ce) plE) (by kernel_rfl) (by rfl) (em8.cell0) (fm_val _ _) ?_)
   | (refine wpList_storeBig (by rfl) _ _ 58 (by rfl) (rb8) (fmL (.slice Ae m Ce) plE) (by kernel_rfl) (by rfl) (by rfl) (by rfl) (by rfl) ?_;rintro V6 XR hs2 hB2 hk2))
  have HB6:=hB2 _ _ hB8 (Nat.le_of_lt hfb)
  exact bodyPost_ret (v:=.tuple #[fmV (.slice Ae m Ce) plE,.bool true]) (results_cell_tmp Try.results25 _ V6 w.heap.size 58 (fmL (.slice Ae m Ce) plE).toArray (0,0) _ (by rfl) XR Try.underlying58 (by rfl) (by kernel_rfl) (by rfl)) rfl ⟨⟨Ae,Ce,_,[(Q ta,.slice Aa m ca)],rfl,(re8.other rb8 (by decide) hk2).congr (fun u _=>(co_nil u).symm),TG.off rb8 hfb ap8 hB2 hk2,by rw [<-hZ.out,hfr];rfl⟩,HB6⟩
end Go.Proofs.Ytbejmklkicoibaa
