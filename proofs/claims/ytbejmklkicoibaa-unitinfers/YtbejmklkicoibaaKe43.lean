/- orreryref14's Finder.form: powers, roots, negatives. -/
import Derived.Test.YtbejmklkicoibaaSh
import Derived.Test.YtbejmklkicoibaaKe41
import Derived.Test.YtbejmklkicoibaaKe42
namespace Go.Proofs.Ytbejmklkicoibaa
open Go.ChangeShapes Go.WideShapes Go.ChangeAt Go.RowKit
set_option maxRecDepth 4000 in
set_option maxHeartbeats 8000000 in
theorem fform_neg (w0:World) (fb bn on n CN:Nat) (A0:Option Addr) (m C0:Nat) (A1:Option Addr) (C1:Nat) (A2:Option Addr) (C2:Nat) (S:Nat->Int×Int) (g:Nat) (KN:Nat->Prop) (Q:Nat->Pro) (vr:Value) (L:List FV) (X:Nat->Nd) (x:Nd) (i:Nat) (hm:m<=500) (hi:i<n) (hx:x=X i) (w:World) (VN:Nds w0 (some ⟨bn,on,none⟩) n X) (T:FSt w0 fb (some ⟨bn,on,none⟩) n CN A0 m C0 A1 C1 A2 C2 S g KN Q vr L w) (hk:x.k=7) (hKa:KN x.a.toNat) (h0a:0<=x.a) :
  Calls Try.prog 25 #[.pointer (some ⟨fb,0,none⟩),.int .i64 (i:Int)] w fun r w'=>FmAns w0 fb (some ⟨bn,on,none⟩) n CN A0 m C0 A1 C1 A2 C2 S g KN Q L r w' (some (Q x.a.toNat,[]))/\Below fb w w':=by
 have hfb:fb<w.heap.size:=T.fd.lt
 obtain⟨ta,hta⟩:∃ta:Nat,Hid (x.a=(ta:Int)):=⟨x.a.toNat,by show _=_;omega⟩
 have ea:x.a.toNat=ta:=by have:=hta.out;omega
 rw [ea] at hKa
 rw [ea]
 clear ea h0a
 obtain⟨b,o,hA,hb, -⟩:=(VN.keep T.hb) i hi
 have hb0:bn=b:=by injection hA with hA;injection hA with hA
 subst hb0
 have xc:Hid (∀j c,(ndL x)[j]?=some c->w.cell? ⟨bn,on+i*22+j,none⟩=some c):=by rw [hx];exact ((VN.keep T.hb).at (i:=i) hi).2
 clear hA
 replace hx:Hid (x=X i):=hx
 have hlt:(i:Int)<(n:Int):=by omega
 have ce:=fun W=>fempty_w m hm W
 have T0:=T
 obtain⟨RB,HB⟩:=blks1 w 58 [.slice none 0 0,.int .i64 0,.int .i64 0,.int .i64 0,.int .i64 0,.int .i64 0,.int .i64 0,.int .i64 0,.int .i64 0,.int .i64 0,.int .i64 0,.int .i64 0,.int .i64 0,.int .i64 0,.int .i64 0]
 go_enter Try.func25,Try.ntmps25
 go_upto_region 1 with fail
 generalize (w.alloc (.cells #[.slice none 0 0,.int .i64 0,.int .i64 0,.int .i64 0,.int .i64 0,.int .i64 0,.int .i64 0,.int .i64 0,.int .i64 0,.int .i64 0,.int .i64 0,.int .i64 0,.int .i64 0,.int .i64 0,.int .i64 0] 58))=V1 at *
 replace T:=T.keep HB
 have c0:=T.fd.cell 0 _ rfl
 have hrl:w.heap.size<V1.heap.size:=RB.lt
 have xl:bn<V1.heap.size:=Nat.lt_of_lt_of_le hb HB.size
 replace xc:Hid (∀j c,(ndL x)[j]?=some c->V1.cell? ⟨bn,on+i*22+j,none⟩=some c):=fun j c hj=>keepsC HB (xc.out j c hj) hb
 go_upto_region 2 with (first
  | (refine wpList_loadBig (by rfl) _ 54 (by rfl) Try.underlying54 (ndL x) (by kernel_rfl) (by rfl) (xc.out) (nd_val x) ?_)
  | (refine wpList_storeBig (by rfl) _ _ 54 (by rfl) (blk_new _ _ _) (ndL x) (by kernel_rfl) (by rfl) (by rfl) (by rfl) (by rfl) ?_;rintro V2 XR hs2 hB2 hk2))
 have grw:Below V1.heap.size V1 V2:=hB2 _ _ (Below.alloc (Below.refl _ _) (Nat.le_refl _) _) (Nat.le_refl _)
 have XN:=XR
 obtain⟨nb,hnb⟩:∃nb,nb=V1.heap.size:=⟨_,rfl⟩
 have hnb2:w.heap.size<nb:=by omega
 rw [<-hnb] at XN ⊢
 replace T:=T.keep grw
 replace RB:=RB.keeps grw
 replace HB:=later HB grw
 clear XR hB2 hk2 hs2 grw c0 xc xl hrl hnb
 have c1:=T.fd.cell 1 _ rfl
 try simp only [Act.put]
 go_upto_region 3 with (first
  | (go_at_call 24;(with_reducible refine (ce _).mono ?_);rintro _ W3 ⟨⟨ve,rfl,Ie⟩,hb2⟩;have hw2:w.heap.size<=V2.heap.size:=HB.size;replace HB:=later HB hb2;replace RB:=RB.keeps hb2;replace XN:=XN.keeps hb2;replace T:=T.keep hb2;replace Ie:=Ie.base hw2;clear hb2 c1 hw2;obtain⟨Ae,Ce,e7, -,re,hAe⟩:=Ie.form;rw [List.length_replicate] at e7 re hAe;subst e7;clear Ie)
  | (refine wpList_storeBig (by rfl) _ _ 58 (by rfl) (blk_new _ _ _) (fmL (.slice Ae m Ce) plE) (by kernel_rfl) (by rfl) (by rfl) (by rfl) (by rfl) ?_;rintro V4 XR hs2 hB2 hk2))
 replace re:RtAt W3 Ae m (fun _=>(0,1)):=re.congr fun u hu=>by rw [List.getD_eq_getElem?_getD,List.getElem?_replicate,if_pos hu];rfl
 have grw:Below W3.heap.size W3 V4:=hB2 _ _ (Below.alloc (Below.refl _ _) (Nat.le_refl _) _) (Nat.le_refl _)
 have XE:=XR
 obtain⟨eb,heb⟩:∃eb,eb=W3.heap.size:=⟨_,rfl⟩
 have hnl:nb<W3.heap.size:=XN.lt
 have heb2:nb<eb:=by omega
 rw [<-heb] at XE ⊢
 have U:FFt w0 fb bn on n CN A0 m C0 A1 C1 A2 C2 S g KN Q vr L w nb eb x Ae Ce V4:=⟨T.keep grw,XN.keeps grw,XE,RB.keeps grw,re.keep grw,later HB grw,hnb2,heb2⟩
 clear XR hB2 hk2 hs2 grw XN XE RB T re HB heb hnb2 heb2 hnl ce
 try simp only [Act.put]
 have y0:V4.cell? ⟨nb,0,none⟩=some (.int .i64 x.k):=U.nd.cell 0 _ rfl
 rw [hk] at y0
 replace hk:Hid (x.k=7):=hk
 go_upto_region 28 with fail
 obtain⟨hta2,hgl,Aa,ca,ra,fa⟩:=T0.fs.at hKa
 have hS:∀W,FFt w0 fb bn on n CN A0 m C0 A1 C1 A2 C2 S g KN Q vr L w nb eb x Ae Ce W->(fun W=>W.cell? ⟨fb,18,none⟩=some (.slice (some ⟨g,0,none⟩) n n)/\W.cell? ⟨nb,1,none⟩=some (.int .i64 (ta:Int))/\W.cell? ⟨nb,3,none⟩=some (.int .i64 x.n)/\(∀j u,(fmL (.slice Aa m ca) (Q ta).1)[j]?=some u->W.cell? ⟨g,ta*15+j,none⟩=some u)/\(∀j u,(fmL (.slice Ae m Ce) plE)[j]?=some u->W.cell? ⟨eb,0+j,none⟩=some u)) W:=fun W h=>by
  refine⟨h.t.fd.cell 18 _ rfl, ?_,h.nd.cell 3 _ rfl,fun j u hj=>keepsC h.hw (fa j u hj) hgl,fun j u hj=>h.em.cell0 j u hj⟩
  have q:=h.nd.cell 1 _ rfl
  rw [hta.out] at q
  exact q
 have hta3:(ta:Int)<(n:Int):=by omega
 clear y0 fa
 refine held_tail 8 (fun W=>W.cell? ⟨fb,18,none⟩=some (.slice (some ⟨g,0,none⟩) n n)/\W.cell? ⟨nb,1,none⟩=some (.int .i64 (ta:Int))/\W.cell? ⟨nb,3,none⟩=some (.int .i64 x.n)/\(∀j u,(fmL (.slice Aa m ca) (Q ta).1)[j]?=some u->W.cell? ⟨g,ta*15+j,none⟩=some u)/\(∀j u,(fmL (.slice Ae m Ce) plE)[j]?=some u->W.cell? ⟨eb,0+j,none⟩=some u)) (by kernel_rfl) (by kernel_rfl) (hS _ (U.keep (Below.refl _ _).drew)) (fun hHeld=>?_)
 simp only [List.take_succ_cons,List.take_zero,List.drop_succ_cons,List.drop_zero]
 replace U:=U.keep (Below.refl _ _).drew
 refine tk (v:=?_) 0 rfl ?_ hHeld ?_;rotate_left;(focus ((intro w hSw;(try dsimp only at hSw);go_simp);try with_reducible rfl));simp only[gA,gB,Act.put,gD,gE,gF];refine tk (v:=?_) 1 rfl ?_ hHeld ?_;rotate_left;(focus ((intro w hSw;(try dsimp only at hSw);go_simp);try with_reducible rfl));simp only[gA,gB,gC,Act.put,gD,gE,gF];refine tk (v:=?_) 2 rfl ?_ hHeld ?_;rotate_left;(focus ((intro w hSw;(try dsimp only at hSw);go_simp);try with_reducible rfl));simp only[gA,gB,gC,Act.put,gD,gE,gF];refine tk (v:=?_) 3 rfl ?_ hHeld ?_;rotate_left;(focus ((intro w hSw;(try dsimp only at hSw);go_simp);try with_reducible rfl));simp only[gA,gB,gC,Act.put,gD,gE,gF];refine tk (v:=?_) 4 rfl ?_ hHeld ?_;rotate_left;(focus ((intro w hSw;(try dsimp only at hSw);go_simp);try with_reducible rfl));simp only[gA,gB,gC,Act.put,gD,gE,gF];refine tk (v:=?_) 5 rfl ?_ hHeld ?_;rotate_left;(focus ((intro w hSw;(try dsimp only at hSw);go_simp);try with_reducible rfl));simp only[gA,gB,gC,Act.put,gD,gE,gF];refine tk (v:=?_) 6 rfl ?_ hHeld ?_;rotate_left;(focus ((intro w hSw;(try dsimp only at hSw);go_simp);try with_reducible rfl));simp only[gA,gB,gC,Act.put,gD,gE,gF]
 refine wpAnyH_take (i:=7) (v:=fmV (.slice Aa m ca) (Q ta).1) rfl (by kernel_rfl) (by kernel_rfl) (by kernel_rfl) (fun _ _ _ h=>h) (yields_loadBig (by rfl) _ 58 (by rfl) Try.underlying58 (fmL (.slice Aa m ca) (Q ta).1) (by kernel_rfl) (by rfl) (fun W hS2=>hS2.2.2.2.1) (fm_val _ _)) hHeld ?_;simp only[gA,gB,gC,Act.put,gD,gE,gF]
 refine wpAnyH_done (by kernel_rfl) ?_ _
 show wpList _ _ _ _ _ _
 have RB5:=U.rb
 go_wp2_with (first
  | (refine wpList_storeBig (by rfl) _ _ 58 (by rfl) (RB5) (fmL (.slice Aa m ca) (Q ta).1) (by kernel_rfl) (by rfl) (by rfl) (by rfl) (by rfl) ?_;rintro V6 XR hs2 hB2 hk2))
 have HB6:=hB2 _ _ U.hw (Nat.le_refl _)
 exact bodyPost_ret (v:=.tuple #[fmV (.slice Aa m ca) (Q ta).1,.bool true]) (results_cell_tmp Try.results25 _ V6 w.heap.size 58 (fmL (.slice Aa m ca) (Q ta).1).toArray (0,0) _ (by rfl) XR Try.underlying58 (by rfl) (by kernel_rfl) (by rfl)) rfl ⟨⟨Aa,ca,vr,[],rfl,(ra.keep U.hw).other RB5 (by decide) hk2,by rw [List.append_nil];exact T0.keep HB6,rfl⟩,HB6.mono (by omega)⟩
set_option maxRecDepth 4000 in
set_option maxHeartbeats 8000000 in
theorem fform_pow {G:Nat->Bool} (w0:World) (fb bn on n CN:Nat) (A0:Option Addr) (m C0:Nat) (A1:Option Addr) (C1:Nat) (A2:Option Addr) (C2:Nat) (S:Nat->Int×Int) (g:Nat) (KN:Nat->Prop) (Q:Nat->Pro) (vr:Value) (L:List FV) (X:Nat->Nd) (x:Nd) (i:Nat) (hm:m<=500) (hi:i<n) (hx:x=X i) (w:World) (VN:Nds w0 (some ⟨bn,on,none⟩) n X) (T:FSt w0 fb (some ⟨bn,on,none⟩) n CN A0 m C0 A1 C1 A2 C2 S g KN Q vr L w) (hk:x.k=8) (hKa:KN x.a.toNat) (h0a:0<=x.a) (pa:POk (m:Int) (Q x.a.toNat)) (ga:FG G (Q x.a.toNat).2) (hq:ROk ((x.n,1))) :
  Calls Try.prog 25 #[.pointer (some ⟨fb,0,none⟩),.int .i64 (i:Int)] w fun r w'=>FmAns w0 fb (some ⟨bn,on,none⟩) n CN A0 m C0 A1 C1 A2 C2 S g KN Q L r w' ((powerP (Q x.a.toNat) ((x.n,1))).map fun Y=>(Y,[]))/\Below fb w w':=by
 have hfb:fb<w.heap.size:=T.fd.lt
 obtain⟨ta,hta⟩:∃ta:Nat,Hid (x.a=(ta:Int)):=⟨x.a.toNat,by show _=_;omega⟩
 have ea:x.a.toNat=ta:=by have:=hta.out;omega
 rw [ea] at hKa
 rw [ea] at pa ga ⊢
 obtain⟨TT,hTT⟩:∃TT,Hid (timesP (plE,[]) (Q ta) ((x.n,1))=TT):=⟨_,rfl⟩
 rw [show powerP (Q ta) ((x.n,1))=TT from hTT.out]
 have HPA:Hid (POk (m:Int) (Q ta)/\FG G (Q ta).2/\ROk ((x.n,1))):=⟨pa,ga,hq⟩
 have cw:=fun W=>dwhole_w x.n W
 clear pa ga hq ea h0a
 obtain⟨b,o,hA,hb, -⟩:=(VN.keep T.hb) i hi
 have hb0:bn=b:=by injection hA with hA;injection hA with hA
 subst hb0
 have xc:Hid (∀j c,(ndL x)[j]?=some c->w.cell? ⟨bn,on+i*22+j,none⟩=some c):=by rw [hx];exact ((VN.keep T.hb).at (i:=i) hi).2
 clear hA
 replace hx:Hid (x=X i):=hx
 have hlt:(i:Int)<(n:Int):=by omega
 have ce:=fun W=>fempty_w m hm W
 have T0:=T
 obtain⟨RB,HB⟩:=blks1 w 58 [.slice none 0 0,.int .i64 0,.int .i64 0,.int .i64 0,.int .i64 0,.int .i64 0,.int .i64 0,.int .i64 0,.int .i64 0,.int .i64 0,.int .i64 0,.int .i64 0,.int .i64 0,.int .i64 0,.int .i64 0]
 go_enter Try.func25,Try.ntmps25
 go_upto_region 1 with fail
 generalize (w.alloc (.cells #[.slice none 0 0,.int .i64 0,.int .i64 0,.int .i64 0,.int .i64 0,.int .i64 0,.int .i64 0,.int .i64 0,.int .i64 0,.int .i64 0,.int .i64 0,.int .i64 0,.int .i64 0,.int .i64 0,.int .i64 0] 58))=V1 at *
 replace T:=T.keep HB
 have c0:=T.fd.cell 0 _ rfl
 have hrl:w.heap.size<V1.heap.size:=RB.lt
 have xl:bn<V1.heap.size:=Nat.lt_of_lt_of_le hb HB.size
 replace xc:Hid (∀j c,(ndL x)[j]?=some c->V1.cell? ⟨bn,on+i*22+j,none⟩=some c):=fun j c hj=>keepsC HB (xc.out j c hj) hb
 go_upto_region 2 with (first
  | (refine wpList_loadBig (by rfl) _ 54 (by rfl) Try.underlying54 (ndL x) (by kernel_rfl) (by rfl) (xc.out) (nd_val x) ?_)
  | (refine wpList_storeBig (by rfl) _ _ 54 (by rfl) (blk_new _ _ _) (ndL x) (by kernel_rfl) (by rfl) (by rfl) (by rfl) (by rfl) ?_;rintro V2 XR hs2 hB2 hk2))
 have grw:Below V1.heap.size V1 V2:=hB2 _ _ (Below.alloc (Below.refl _ _) (Nat.le_refl _) _) (Nat.le_refl _)
 have XN:=XR
 obtain⟨nb,hnb⟩:∃nb,nb=V1.heap.size:=⟨_,rfl⟩
 have hnb2:w.heap.size<nb:=by omega
 rw [<-hnb] at XN ⊢
 replace T:=T.keep grw
 replace RB:=RB.keeps grw
 replace HB:=later HB grw
 clear XR hB2 hk2 hs2 grw c0 xc xl hrl hnb
 have c1:=T.fd.cell 1 _ rfl
 try simp only [Act.put]
 go_upto_region 3 with (first
  | (go_at_call 24;(with_reducible refine (ce _).mono ?_);rintro _ W3 ⟨⟨ve,rfl,Ie⟩,hb2⟩;have hw2:w.heap.size<=V2.heap.size:=HB.size;replace HB:=later HB hb2;replace RB:=RB.keeps hb2;replace XN:=XN.keeps hb2;replace T:=T.keep hb2;replace Ie:=Ie.base hw2;clear hb2 c1 hw2;obtain⟨Ae,Ce,e7, -,re,hAe⟩:=Ie.form;rw [List.length_replicate] at e7 re hAe;subst e7;clear Ie)
  | (refine wpList_storeBig (by rfl) _ _ 58 (by rfl) (blk_new _ _ _) (fmL (.slice Ae m Ce) plE) (by kernel_rfl) (by rfl) (by rfl) (by rfl) (by rfl) ?_;rintro V4 XR hs2 hB2 hk2))
 replace re:RtAt W3 Ae m (fun _=>(0,1)):=re.congr fun u hu=>by rw [List.getD_eq_getElem?_getD,List.getElem?_replicate,if_pos hu];rfl
 have grw:Below W3.heap.size W3 V4:=hB2 _ _ (Below.alloc (Below.refl _ _) (Nat.le_refl _) _) (Nat.le_refl _)
 have XE:=XR
 obtain⟨eb,heb⟩:∃eb,eb=W3.heap.size:=⟨_,rfl⟩
 have hnl:nb<W3.heap.size:=XN.lt
 have heb2:nb<eb:=by omega
 rw [<-heb] at XE ⊢
 have U:FFt w0 fb bn on n CN A0 m C0 A1 C1 A2 C2 S g KN Q vr L w nb eb x Ae Ce V4:=⟨T.keep grw,XN.keeps grw,XE,RB.keeps grw,re.keep grw,later HB grw,hnb2,heb2⟩
 clear XR hB2 hk2 hs2 grw XN XE RB T re HB heb hnb2 heb2 hnl ce
 try simp only [Act.put]
 have y0:V4.cell? ⟨nb,0,none⟩=some (.int .i64 x.k):=U.nd.cell 0 _ rfl
 rw [hk] at y0
 replace hk:Hid (x.k=8):=hk
 go_upto_region 30 with fail
 obtain⟨hta2,hgl,Aa,ca,ra,fa⟩:=T0.fs.at hKa
 have hS:∀W,FFt w0 fb bn on n CN A0 m C0 A1 C1 A2 C2 S g KN Q vr L w nb eb x Ae Ce W->(fun W=>W.cell? ⟨fb,18,none⟩=some (.slice (some ⟨g,0,none⟩) n n)/\W.cell? ⟨nb,1,none⟩=some (.int .i64 (ta:Int))/\W.cell? ⟨nb,3,none⟩=some (.int .i64 x.n)/\(∀j u,(fmL (.slice Aa m ca) (Q ta).1)[j]?=some u->W.cell? ⟨g,ta*15+j,none⟩=some u)/\(∀j u,(fmL (.slice Ae m Ce) plE)[j]?=some u->W.cell? ⟨eb,0+j,none⟩=some u)) W:=fun W h=>by
  refine⟨h.t.fd.cell 18 _ rfl, ?_,h.nd.cell 3 _ rfl,fun j u hj=>keepsC h.hw (fa j u hj) hgl,fun j u hj=>h.em.cell0 j u hj⟩
  have q:=h.nd.cell 1 _ rfl
  rw [hta.out] at q
  exact q
 have hta3:(ta:Int)<(n:Int):=by omega
 have cj:∀W,FFt w0 fb bn on n CN A0 m C0 A1 C1 A2 C2 S g KN Q vr L w nb eb x Ae Ce W->Calls Try.prog 45 #[fmV (.slice Ae m Ce) plE,fmV (.slice Aa m ca) (Q ta).1,.agg #[.int .i64 ((x.n,1)).1,.int .i64 ((x.n,1)).2]] W fun r w'=>PjAns r w' m TT/\Below W.heap.size W w':=fun W h=>by
  rw [<-hTT.out]
  exact fjoin_w m hm (plE,[]) (Q ta) ((x.n,1)) (pOk_dim plE_ok.1 plE_ok.2) HPA.out.1 HPA.out.2.1 HPA.out.2.2 Ae Aa Ce ca W (h.re.congr fun u _=>(co_nil u).symm) (ra.keep h.hw)
 clear y0 fa ra
 refine held_tail 15 (fun W=>W.cell? ⟨fb,18,none⟩=some (.slice (some ⟨g,0,none⟩) n n)/\W.cell? ⟨nb,1,none⟩=some (.int .i64 (ta:Int))/\W.cell? ⟨nb,3,none⟩=some (.int .i64 x.n)/\(∀j u,(fmL (.slice Aa m ca) (Q ta).1)[j]?=some u->W.cell? ⟨g,ta*15+j,none⟩=some u)/\(∀j u,(fmL (.slice Ae m Ce) plE)[j]?=some u->W.cell? ⟨eb,0+j,none⟩=some u)) (by kernel_rfl) (by kernel_rfl) (hS _ (U.keep (Below.refl _ _).drew)) (fun hHeld=>?_)
 simp only [List.take_succ_cons,List.take_zero,List.drop_succ_cons,List.drop_zero]
 replace U:=U.keep (Below.refl _ _).drew
 refine wpAnyH_take (i:=0) (v:=fmV (.slice Ae m Ce) plE) rfl (by kernel_rfl) (by kernel_rfl) (by kernel_rfl) (fun _ _ _ h=>h) (yields_loadBig (by rfl) _ 58 (by rfl) Try.underlying58 (fmL (.slice Ae m Ce) plE) (by kernel_rfl) (by rfl) (fun W hS2=>hS2.2.2.2.2) (fm_val _ _)) hHeld ?_;simp only[gA,gB,Act.put,gD,gE,gF]
 refine tk (v:=?_) 1 rfl ?_ hHeld ?_;rotate_left;(focus ((intro w hSw;(try dsimp only at hSw);go_simp);try with_reducible rfl));simp only[gA,gB,gC,Act.put,gD,gE,gF];refine tk (v:=?_) 2 rfl ?_ hHeld ?_;rotate_left;(focus ((intro w hSw;(try dsimp only at hSw);go_simp);try with_reducible rfl));simp only[gA,gB,gC,Act.put,gD,gE,gF];refine tk (v:=?_) 3 rfl ?_ hHeld ?_;rotate_left;(focus ((intro w hSw;(try dsimp only at hSw);go_simp);try with_reducible rfl));simp only[gA,gB,gC,Act.put,gD,gE,gF];refine tk (v:=?_) 4 rfl ?_ hHeld ?_;rotate_left;(focus ((intro w hSw;(try dsimp only at hSw);go_simp);try with_reducible rfl));simp only[gA,gB,gC,Act.put,gD,gE,gF];refine tk (v:=?_) 5 rfl ?_ hHeld ?_;rotate_left;(focus ((intro w hSw;(try dsimp only at hSw);go_simp);try with_reducible rfl));simp only[gA,gB,gC,Act.put,gD,gE,gF];refine tk (v:=?_) 6 rfl ?_ hHeld ?_;rotate_left;(focus ((intro w hSw;(try dsimp only at hSw);go_simp);try with_reducible rfl));simp only[gA,gB,gC,Act.put,gD,gE,gF];refine tk (v:=?_) 7 rfl ?_ hHeld ?_;rotate_left;(focus ((intro w hSw;(try dsimp only at hSw);go_simp);try with_reducible rfl));simp only[gA,gB,gC,Act.put,gD,gE,gF]
 refine wpAnyH_take (i:=8) (v:=fmV (.slice Aa m ca) (Q ta).1) rfl (by kernel_rfl) (by kernel_rfl) (by kernel_rfl) (fun _ _ _ h=>h) (yields_loadBig (by rfl) _ 58 (by rfl) Try.underlying58 (fmL (.slice Aa m ca) (Q ta).1) (by kernel_rfl) (by rfl) (fun W hS2=>hS2.2.2.2.1) (fm_val _ _)) hHeld ?_;simp only[gA,gB,gC,Act.put,gD,gE,gF]
 refine tk (v:=?_) 9 rfl ?_ hHeld ?_;rotate_left;(focus ((intro w hSw;(try dsimp only at hSw);go_simp);try with_reducible rfl));simp only[gA,gB,gC,Act.put,gD,gE,gF];refine tk (v:=?_) 10 rfl ?_ hHeld ?_;rotate_left;(focus ((intro w hSw;(try dsimp only at hSw);go_simp);try with_reducible rfl));simp only[gA,gB,gC,Act.put,gD,gE,gF]
 refine rd 11 rfl (fun K hK=>?_);simp only[gA,gB,gC,Act.put,gD,gE,gF];go_simp
 go_at_call 44
 (with_reducible refine (cw _).mono ?_)
 rintro _ W8 ⟨rfl,hb1⟩
 replace U:=U.keep hb1
 clear hb1
 dsimp only
 refine hK.out _ _ (hS _ U) (fun hHeld=>?_)
 clear hK K
 refine rd 12 rfl (fun K hK=>?_);simp only[gA,gB,gC,Act.put,gD,gE,gF];go_simp
 go_at_call 45
 (with_reducible refine (cj _ U).mono ?_)
 rintro r W9 ⟨hM,hb1⟩
 replace U:=U.keep hb1
 clear hb1
 cases TT with
 | none =>
  obtain⟨A9,C9,E9,hr⟩:=hM
  replace hr:r=.returned (.tuple #[.agg #[.slice A9 m C9,.int .i64 (E9 0).1,.int .i64 (E9 0).2,.int .i64 (E9 1).1,.int .i64 (E9 1).2,.int .i64 (E9 2).1,.int .i64 (E9 2).2,.int .i64 (E9 3).1,.int .i64 (E9 3).2,.int .i64 (E9 4).1,.int .i64 (E9 4).2,.int .i64 (E9 5).1,.int .i64 (E9 5).2,.int .i64 (E9 6).1,.int .i64 (E9 6).2],.bool false]):=hr
  subst hr
  dsimp only
  refine hK.out _ _ (hS _ U) (fun hHeld=>?_)
  clear hK K
  refine tk (v:=?_) 13 rfl ?_ hHeld ?_;rotate_left;(focus ((intro w hSw;(try dsimp only at hSw);go_simp);try with_reducible rfl));simp only[gA,gB,gC,Act.put,gD,gE,gF];refine tk (v:=?_) 14 rfl ?_ hHeld ?_;rotate_left;(focus ((intro w hSw;(try dsimp only at hSw);go_simp);try with_reducible rfl));simp only[gA,gB,gC,Act.put,gD,gE,gF]
  refine wpAnyH_done (by kernel_rfl) ?_ _
  show wpList _ _ _ _ _ _
  have RB5:=U.rb
  go_wp2_with (first
   | (refine wpList_storeBig (by rfl) _ _ 58 (by rfl) (RB5) (fmL (.slice A9 m C9) E9) (by kernel_rfl) (by rfl) (by rfl) (by rfl) (by rfl) ?_;rintro V6 XR hs2 hB2 hk2))
  have HB6:=hB2 _ _ U.hw (Nat.le_refl _)
  exact bodyPost_ret (v:=.tuple #[fmV (.slice A9 m C9) E9,.bool false]) (results_cell_tmp Try.results25 _ V6 w.heap.size 58 (fmL (.slice A9 m C9) E9).toArray (0,0) _ (by rfl) XR Try.underlying58 (by rfl) (by kernel_rfl) (by rfl)) rfl ⟨⟨A9,C9,E9,rfl⟩,HB6.mono (by omega)⟩
 | some Y =>
  obtain⟨A9,C9,hr,rY⟩:=hM
  replace hr:r=.returned (.tuple #[.agg #[.slice A9 m C9,.int .i64 (Y.1 0).1,.int .i64 (Y.1 0).2,.int .i64 (Y.1 1).1,.int .i64 (Y.1 1).2,.int .i64 (Y.1 2).1,.int .i64 (Y.1 2).2,.int .i64 (Y.1 3).1,.int .i64 (Y.1 3).2,.int .i64 (Y.1 4).1,.int .i64 (Y.1 4).2,.int .i64 (Y.1 5).1,.int .i64 (Y.1 5).2,.int .i64 (Y.1 6).1,.int .i64 (Y.1 6).2],.bool true]):=hr
  subst hr
  dsimp only
  refine hK.out _ _ (hS _ U) (fun hHeld=>?_)
  clear hK K
  refine tk (v:=?_) 13 rfl ?_ hHeld ?_;rotate_left;(focus ((intro w hSw;(try dsimp only at hSw);go_simp);try with_reducible rfl));simp only[gA,gB,gC,Act.put,gD,gE,gF];refine tk (v:=?_) 14 rfl ?_ hHeld ?_;rotate_left;(focus ((intro w hSw;(try dsimp only at hSw);go_simp);try with_reducible rfl));simp only[gA,gB,gC,Act.put,gD,gE,gF]
  refine wpAnyH_done (by kernel_rfl) ?_ _
  show wpList _ _ _ _ _ _
  have RB5:=U.rb
  go_wp2_with (first
   | (refine wpList_storeBig (by rfl) _ _ 58 (by rfl) (RB5) (fmL (.slice A9 m C9) Y.1) (by kernel_rfl) (by rfl) (by rfl) (by rfl) (by rfl) ?_;rintro V6 XR hs2 hB2 hk2))
  have HB6:=hB2 _ _ U.hw (Nat.le_refl _)
  exact bodyPost_ret (v:=.tuple #[fmV (.slice A9 m C9) Y.1,.bool true]) (results_cell_tmp Try.results25 _ V6 w.heap.size 58 (fmL (.slice A9 m C9) Y.1).toArray (0,0) _ (by rfl) XR Try.underlying58 (by rfl) (by kernel_rfl) (by rfl)) rfl ⟨⟨A9,C9,vr,[],rfl,rY.other RB5 (by decide) hk2,by rw [List.append_nil];exact T0.keep HB6,rfl⟩,HB6.mono (by omega)⟩
set_option maxRecDepth 4000 in
set_option maxHeartbeats 8000000 in
theorem fform_sqrt {G:Nat->Bool} (w0:World) (fb bn on n CN:Nat) (A0:Option Addr) (m C0:Nat) (A1:Option Addr) (C1:Nat) (A2:Option Addr) (C2:Nat) (S:Nat->Int×Int) (g:Nat) (KN:Nat->Prop) (Q:Nat->Pro) (vr:Value) (L:List FV) (X:Nat->Nd) (x:Nd) (i:Nat) (hm:m<=500) (hi:i<n) (hx:x=X i) (w:World) (VN:Nds w0 (some ⟨bn,on,none⟩) n X) (T:FSt w0 fb (some ⟨bn,on,none⟩) n CN A0 m C0 A1 C1 A2 C2 S g KN Q vr L w) (hk:x.k=9) (hKa:KN x.a.toNat) (h0a:0<=x.a) (pa:POk (m:Int) (Q x.a.toNat)) (ga:FG G (Q x.a.toNat).2) (hq:ROk ((1,2))) :
  Calls Try.prog 25 #[.pointer (some ⟨fb,0,none⟩),.int .i64 (i:Int)] w fun r w'=>FmAns w0 fb (some ⟨bn,on,none⟩) n CN A0 m C0 A1 C1 A2 C2 S g KN Q L r w' ((powerP (Q x.a.toNat) ((1,2))).map fun Y=>(Y,[]))/\Below fb w w':=by
 have hfb:fb<w.heap.size:=T.fd.lt
 obtain⟨ta,hta⟩:∃ta:Nat,Hid (x.a=(ta:Int)):=⟨x.a.toNat,by show _=_;omega⟩
 have ea:x.a.toNat=ta:=by have:=hta.out;omega
 rw [ea] at hKa
 rw [ea] at pa ga ⊢
 obtain⟨TT,hTT⟩:∃TT,Hid (timesP (plE,[]) (Q ta) ((1,2))=TT):=⟨_,rfl⟩
 rw [show powerP (Q ta) ((1,2))=TT from hTT.out]
 have HPA:Hid (POk (m:Int) (Q ta)/\FG G (Q ta).2/\ROk ((1,2))):=⟨pa,ga,hq⟩
 have cw:=fun W=>dwhole_w x.n W
 clear pa ga hq ea h0a
 obtain⟨b,o,hA,hb, -⟩:=(VN.keep T.hb) i hi
 have hb0:bn=b:=by injection hA with hA;injection hA with hA
 subst hb0
 have xc:Hid (∀j c,(ndL x)[j]?=some c->w.cell? ⟨bn,on+i*22+j,none⟩=some c):=by rw [hx];exact ((VN.keep T.hb).at (i:=i) hi).2
 clear hA
 replace hx:Hid (x=X i):=hx
 have hlt:(i:Int)<(n:Int):=by omega
 have ce:=fun W=>fempty_w m hm W
 have T0:=T
 obtain⟨RB,HB⟩:=blks1 w 58 [.slice none 0 0,.int .i64 0,.int .i64 0,.int .i64 0,.int .i64 0,.int .i64 0,.int .i64 0,.int .i64 0,.int .i64 0,.int .i64 0,.int .i64 0,.int .i64 0,.int .i64 0,.int .i64 0,.int .i64 0]
 go_enter Try.func25,Try.ntmps25
 go_upto_region 1 with fail
 generalize (w.alloc (.cells #[.slice none 0 0,.int .i64 0,.int .i64 0,.int .i64 0,.int .i64 0,.int .i64 0,.int .i64 0,.int .i64 0,.int .i64 0,.int .i64 0,.int .i64 0,.int .i64 0,.int .i64 0,.int .i64 0,.int .i64 0] 58))=V1 at *
 replace T:=T.keep HB
 have c0:=T.fd.cell 0 _ rfl
 have hrl:w.heap.size<V1.heap.size:=RB.lt
 have xl:bn<V1.heap.size:=Nat.lt_of_lt_of_le hb HB.size
 replace xc:Hid (∀j c,(ndL x)[j]?=some c->V1.cell? ⟨bn,on+i*22+j,none⟩=some c):=fun j c hj=>keepsC HB (xc.out j c hj) hb
 go_upto_region 2 with (first
  | (refine wpList_loadBig (by rfl) _ 54 (by rfl) Try.underlying54 (ndL x) (by kernel_rfl) (by rfl) (xc.out) (nd_val x) ?_)
  | (refine wpList_storeBig (by rfl) _ _ 54 (by rfl) (blk_new _ _ _) (ndL x) (by kernel_rfl) (by rfl) (by rfl) (by rfl) (by rfl) ?_;rintro V2 XR hs2 hB2 hk2))
 have grw:Below V1.heap.size V1 V2:=hB2 _ _ (Below.alloc (Below.refl _ _) (Nat.le_refl _) _) (Nat.le_refl _)
 have XN:=XR
 obtain⟨nb,hnb⟩:∃nb,nb=V1.heap.size:=⟨_,rfl⟩
 have hnb2:w.heap.size<nb:=by omega
 rw [<-hnb] at XN ⊢
 replace T:=T.keep grw
 replace RB:=RB.keeps grw
 replace HB:=later HB grw
 clear XR hB2 hk2 hs2 grw c0 xc xl hrl hnb
 have c1:=T.fd.cell 1 _ rfl
 try simp only [Act.put]
 go_upto_region 3 with (first
  | (go_at_call 24;(with_reducible refine (ce _).mono ?_);rintro _ W3 ⟨⟨ve,rfl,Ie⟩,hb2⟩;have hw2:w.heap.size<=V2.heap.size:=HB.size;replace HB:=later HB hb2;replace RB:=RB.keeps hb2;replace XN:=XN.keeps hb2;replace T:=T.keep hb2;replace Ie:=Ie.base hw2;clear hb2 c1 hw2;obtain⟨Ae,Ce,e7, -,re,hAe⟩:=Ie.form;rw [List.length_replicate] at e7 re hAe;subst e7;clear Ie)
  | (refine wpList_storeBig (by rfl) _ _ 58 (by rfl) (blk_new _ _ _) (fmL (.slice Ae m Ce) plE) (by kernel_rfl) (by rfl) (by rfl) (by rfl) (by rfl) ?_;rintro V4 XR hs2 hB2 hk2))
 replace re:RtAt W3 Ae m (fun _=>(0,1)):=re.congr fun u hu=>by rw [List.getD_eq_getElem?_getD,List.getElem?_replicate,if_pos hu];rfl
 have grw:Below W3.heap.size W3 V4:=hB2 _ _ (Below.alloc (Below.refl _ _) (Nat.le_refl _) _) (Nat.le_refl _)
 have XE:=XR
 obtain⟨eb,heb⟩:∃eb,eb=W3.heap.size:=⟨_,rfl⟩
 have hnl:nb<W3.heap.size:=XN.lt
 have heb2:nb<eb:=by omega
 rw [<-heb] at XE ⊢
 have U:FFt w0 fb bn on n CN A0 m C0 A1 C1 A2 C2 S g KN Q vr L w nb eb x Ae Ce V4:=⟨T.keep grw,XN.keeps grw,XE,RB.keeps grw,re.keep grw,later HB grw,hnb2,heb2⟩
 clear XR hB2 hk2 hs2 grw XN XE RB T re HB heb hnb2 heb2 hnl ce
 try simp only [Act.put]
 have y0:V4.cell? ⟨nb,0,none⟩=some (.int .i64 x.k):=U.nd.cell 0 _ rfl
 rw [hk] at y0
 replace hk:Hid (x.k=9):=hk
 go_upto_region 32 with fail
 obtain⟨hta2,hgl,Aa,ca,ra,fa⟩:=T0.fs.at hKa
 have hS:∀W,FFt w0 fb bn on n CN A0 m C0 A1 C1 A2 C2 S g KN Q vr L w nb eb x Ae Ce W->(fun W=>W.cell? ⟨fb,18,none⟩=some (.slice (some ⟨g,0,none⟩) n n)/\W.cell? ⟨nb,1,none⟩=some (.int .i64 (ta:Int))/\W.cell? ⟨nb,3,none⟩=some (.int .i64 x.n)/\(∀j u,(fmL (.slice Aa m ca) (Q ta).1)[j]?=some u->W.cell? ⟨g,ta*15+j,none⟩=some u)/\(∀j u,(fmL (.slice Ae m Ce) plE)[j]?=some u->W.cell? ⟨eb,0+j,none⟩=some u)) W:=fun W h=>by
  refine⟨h.t.fd.cell 18 _ rfl, ?_,h.nd.cell 3 _ rfl,fun j u hj=>keepsC h.hw (fa j u hj) hgl,fun j u hj=>h.em.cell0 j u hj⟩
  have q:=h.nd.cell 1 _ rfl
  rw [hta.out] at q
  exact q
 have hta3:(ta:Int)<(n:Int):=by omega
 have cj:∀W,FFt w0 fb bn on n CN A0 m C0 A1 C1 A2 C2 S g KN Q vr L w nb eb x Ae Ce W->Calls Try.prog 45 #[fmV (.slice Ae m Ce) plE,fmV (.slice Aa m ca) (Q ta).1,.agg #[.int .i64 ((1,2)).1,.int .i64 ((1,2)).2]] W fun r w'=>PjAns r w' m TT/\Below W.heap.size W w':=fun W h=>by
  rw [<-hTT.out]
  exact fjoin_w m hm (plE,[]) (Q ta) ((1,2)) (pOk_dim plE_ok.1 plE_ok.2) HPA.out.1 HPA.out.2.1 HPA.out.2.2 Ae Aa Ce ca W (h.re.congr fun u _=>(co_nil u).symm) (ra.keep h.hw)
 clear y0 fa ra
 refine held_tail 13 (fun W=>W.cell? ⟨fb,18,none⟩=some (.slice (some ⟨g,0,none⟩) n n)/\W.cell? ⟨nb,1,none⟩=some (.int .i64 (ta:Int))/\W.cell? ⟨nb,3,none⟩=some (.int .i64 x.n)/\(∀j u,(fmL (.slice Aa m ca) (Q ta).1)[j]?=some u->W.cell? ⟨g,ta*15+j,none⟩=some u)/\(∀j u,(fmL (.slice Ae m Ce) plE)[j]?=some u->W.cell? ⟨eb,0+j,none⟩=some u)) (by kernel_rfl) (by kernel_rfl) (hS _ (U.keep (Below.refl _ _).drew)) (fun hHeld=>?_)
 simp only [List.take_succ_cons,List.take_zero,List.drop_succ_cons,List.drop_zero]
 replace U:=U.keep (Below.refl _ _).drew
 refine wpAnyH_take (i:=0) (v:=fmV (.slice Ae m Ce) plE) rfl (by kernel_rfl) (by kernel_rfl) (by kernel_rfl) (fun _ _ _ h=>h) (yields_loadBig (by rfl) _ 58 (by rfl) Try.underlying58 (fmL (.slice Ae m Ce) plE) (by kernel_rfl) (by rfl) (fun W hS2=>hS2.2.2.2.2) (fm_val _ _)) hHeld ?_;simp only[gA,gB,Act.put,gD,gE,gF]
 refine tk (v:=?_) 1 rfl ?_ hHeld ?_;rotate_left;(focus ((intro w hSw;(try dsimp only at hSw);go_simp);try with_reducible rfl));simp only[gA,gB,gC,Act.put,gD,gE,gF];refine tk (v:=?_) 2 rfl ?_ hHeld ?_;rotate_left;(focus ((intro w hSw;(try dsimp only at hSw);go_simp);try with_reducible rfl));simp only[gA,gB,gC,Act.put,gD,gE,gF];refine tk (v:=?_) 3 rfl ?_ hHeld ?_;rotate_left;(focus ((intro w hSw;(try dsimp only at hSw);go_simp);try with_reducible rfl));simp only[gA,gB,gC,Act.put,gD,gE,gF];refine tk (v:=?_) 4 rfl ?_ hHeld ?_;rotate_left;(focus ((intro w hSw;(try dsimp only at hSw);go_simp);try with_reducible rfl));simp only[gA,gB,gC,Act.put,gD,gE,gF];refine tk (v:=?_) 5 rfl ?_ hHeld ?_;rotate_left;(focus ((intro w hSw;(try dsimp only at hSw);go_simp);try with_reducible rfl));simp only[gA,gB,gC,Act.put,gD,gE,gF];refine tk (v:=?_) 6 rfl ?_ hHeld ?_;rotate_left;(focus ((intro w hSw;(try dsimp only at hSw);go_simp);try with_reducible rfl));simp only[gA,gB,gC,Act.put,gD,gE,gF];refine tk (v:=?_) 7 rfl ?_ hHeld ?_;rotate_left;(focus ((intro w hSw;(try dsimp only at hSw);go_simp);try with_reducible rfl));simp only[gA,gB,gC,Act.put,gD,gE,gF]
 refine wpAnyH_take (i:=8) (v:=fmV (.slice Aa m ca) (Q ta).1) rfl (by kernel_rfl) (by kernel_rfl) (by kernel_rfl) (fun _ _ _ h=>h) (yields_loadBig (by rfl) _ 58 (by rfl) Try.underlying58 (fmL (.slice Aa m ca) (Q ta).1) (by kernel_rfl) (by rfl) (fun W hS2=>hS2.2.2.2.1) (fm_val _ _)) hHeld ?_;simp only[gA,gB,gC,Act.put,gD,gE,gF]
 refine tk (v:=?_) 9 rfl ?_ hHeld ?_;rotate_left;(focus ((intro w hSw;(try dsimp only at hSw);go_simp);try with_reducible rfl));simp only[gA,gB,gC,Act.put,gD,gE,gF]
 skip
 refine rd 10 rfl (fun K hK=>?_);simp only[gA,gB,gC,Act.put,gD,gE,gF];go_simp
 go_at_call 45
 (with_reducible refine (cj _ U).mono ?_)
 rintro r W9 ⟨hM,hb1⟩
 replace U:=U.keep hb1
 clear hb1
 cases TT with
 | none =>
  obtain⟨A9,C9,E9,hr⟩:=hM
  replace hr:r=.returned (.tuple #[.agg #[.slice A9 m C9,.int .i64 (E9 0).1,.int .i64 (E9 0).2,.int .i64 (E9 1).1,.int .i64 (E9 1).2,.int .i64 (E9 2).1,.int .i64 (E9 2).2,.int .i64 (E9 3).1,.int .i64 (E9 3).2,.int .i64 (E9 4).1,.int .i64 (E9 4).2,.int .i64 (E9 5).1,.int .i64 (E9 5).2,.int .i64 (E9 6).1,.int .i64 (E9 6).2],.bool false]):=hr
  subst hr
  dsimp only
  refine hK.out _ _ (hS _ U) (fun hHeld=>?_)
  clear hK K
  refine tk (v:=?_) 11 rfl ?_ hHeld ?_;rotate_left;(focus ((intro w hSw;(try dsimp only at hSw);go_simp);try with_reducible rfl));simp only[gA,gB,gC,Act.put,gD,gE,gF];refine tk (v:=?_) 12 rfl ?_ hHeld ?_;rotate_left;(focus ((intro w hSw;(try dsimp only at hSw);go_simp);try with_reducible rfl));simp only[gA,gB,gC,Act.put,gD,gE,gF]
  refine wpAnyH_done (by kernel_rfl) ?_ _
  show wpList _ _ _ _ _ _
  have RB5:=U.rb
  go_wp2_with (first
   | (refine wpList_storeBig (by rfl) _ _ 58 (by rfl) (RB5) (fmL (.slice A9 m C9) E9) (by kernel_rfl) (by rfl) (by rfl) (by rfl) (by rfl) ?_;rintro V6 XR hs2 hB2 hk2))
  have HB6:=hB2 _ _ U.hw (Nat.le_refl _)
  exact bodyPost_ret (v:=.tuple #[fmV (.slice A9 m C9) E9,.bool false]) (results_cell_tmp Try.results25 _ V6 w.heap.size 58 (fmL (.slice A9 m C9) E9).toArray (0,0) _ (by rfl) XR Try.underlying58 (by rfl) (by kernel_rfl) (by rfl)) rfl ⟨⟨A9,C9,E9,rfl⟩,HB6.mono (by omega)⟩
 | some Y =>
  obtain⟨A9,C9,hr,rY⟩:=hM
  replace hr:r=.returned (.tuple #[.agg #[.slice A9 m C9,.int .i64 (Y.1 0).1,.int .i64 (Y.1 0).2,.int .i64 (Y.1 1).1,.int .i64 (Y.1 1).2,.int .i64 (Y.1 2).1,.int .i64 (Y.1 2).2,.int .i64 (Y.1 3).1,.int .i64 (Y.1 3).2,.int .i64 (Y.1 4).1,.int .i64 (Y.1 4).2,.int .i64 (Y.1 5).1,.int .i64 (Y.1 5).2,.int .i64 (Y.1 6).1,.int .i64 (Y.1 6).2],.bool true]):=hr
  subst hr
  dsimp only
  refine hK.out _ _ (hS _ U) (fun hHeld=>?_)
  clear hK K
  refine tk (v:=?_) 11 rfl ?_ hHeld ?_;rotate_left;(focus ((intro w hSw;(try dsimp only at hSw);go_simp);try with_reducible rfl));simp only[gA,gB,gC,Act.put,gD,gE,gF];refine tk (v:=?_) 12 rfl ?_ hHeld ?_;rotate_left;(focus ((intro w hSw;(try dsimp only at hSw);go_simp);try with_reducible rfl));simp only[gA,gB,gC,Act.put,gD,gE,gF]
  refine wpAnyH_done (by kernel_rfl) ?_ _
  show wpList _ _ _ _ _ _
  have RB5:=U.rb
  go_wp2_with (first
   | (refine wpList_storeBig (by rfl) _ _ 58 (by rfl) (RB5) (fmL (.slice A9 m C9) Y.1) (by kernel_rfl) (by rfl) (by rfl) (by rfl) (by rfl) ?_;rintro V6 XR hs2 hB2 hk2))
  have HB6:=hB2 _ _ U.hw (Nat.le_refl _)
  exact bodyPost_ret (v:=.tuple #[fmV (.slice A9 m C9) Y.1,.bool true]) (results_cell_tmp Try.results25 _ V6 w.heap.size 58 (fmL (.slice A9 m C9) Y.1).toArray (0,0) _ (by rfl) XR Try.underlying58 (by rfl) (by kernel_rfl) (by rfl)) rfl ⟨⟨A9,C9,vr,[],rfl,rY.other RB5 (by decide) hk2,by rw [List.append_nil];exact T0.keep HB6,rfl⟩,HB6.mono (by omega)⟩
end Go.Proofs.Ytbejmklkicoibaa
