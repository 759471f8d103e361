/- orreryref14's Finder.form: sums and differences. -/
import Derived.Test.YtbejmklkicoibaaSh
import Derived.Test.YtbejmklkicoibaaKe44
namespace Go.Proofs.Ytbejmklkicoibaa
open Go.ChangeShapes Go.WideShapes Go.ChangeAt Go.RowKit
def JoinR (TT:Option Pro) (ok:Bool) (A:Option Addr) (E:Nat->Int×Int) (m:Nat) (w:World):Prop:=match TT with
 | none=>ok=false
 | some Y=>ok=true/\E=Y.1/\RtAt w A m (fun u=>coF (u:Int) Y.2)
theorem JoinR.keep {TT:Option Pro} {ok:Bool} {A:Option Addr} {E:Nat->Int×Int} {m:Nat} {w W:World} (h:JoinR TT ok A E m w) (k:Below w.heap.size w W):JoinR TT ok A E m W:=by
 cases TT with
 | none=>exact h
 | some Y=>exact⟨h.1,h.2.1,h.2.2.keep k⟩
theorem JoinR.other {TT:Option Pro} {ok:Bool} {A:Option Addr} {E:Nat->Int×Int} {m:Nat} {w W:World} {g:Nat} {cs:List Value} (h:JoinR TT ok A E m w) (hg:BlkAt w g 58 cs) (k:∀k Tk ck,g≠k->BlkAt w k Tk ck->BlkAt W k Tk ck):JoinR TT ok A E m W:=by
 cases TT with
 | none=>exact h
 | some Y=>exact⟨h.1,h.2.1,h.2.2.other hg (by decide) k⟩
theorem pj_join {r:Ending} {w:World} {m:Nat} {TT:Option Pro} (h:PjAns r w m TT):∃A9 C9 E9 ok,r=.returned (.tuple #[fmV (.slice A9 m C9) E9,.bool ok])/\JoinR TT ok A9 E9 m w:=by
 cases TT with
 | none=>obtain⟨A,C,E,e⟩:=h;exact⟨A,C,E,false,e,rfl⟩
 | some Y=>obtain⟨A,C,e,r⟩:=h;exact⟨A,C,Y.1,true,e,rfl,rfl,r⟩
set_option maxRecDepth 4000 in
set_option maxHeartbeats 4000000 in
theorem fform_adda (w0:World) (fb bn on n CN:Nat) (A0:Option Addr) (m C0:Nat) (A1:Option Addr) (C1:Nat) (A2:Option Addr) (C2:Nat) (S:Nat->Int×Int) (g:Nat) (KN:Nat->Prop) (Q:Nat->Pro) (vr:Value) (L:List FV) (X:Nat->Nd) (x:Nd) (i:Nat) (hm:m<=500) (hi:i<n) (hx:x=X i) (w:World) (VN:Nds w0 (some ⟨bn,on,none⟩) n X) (T:FSt w0 fb (some ⟨bn,on,none⟩) n CN A0 m C0 A1 C1 A2 C2 S g KN Q vr L w) (hk:x.k=3) (hKa:KN x.a.toNat) (hKb:KN x.b.toNat) (h0a:0<=x.a) (h0b:0<=x.b) (hf:(X x.a.toNat).k=1->rightR (X x.a.toNat).q (X x.a.toNat).p=true) (hf2:(X x.b.toNat).k=1->rightR (X x.b.toNat).q (X x.b.toNat).p=true) (hfr:frB (X x.a.toNat)=true) :
  Calls Try.prog 25 #[.pointer (some ⟨fb,0,none⟩),.int .i64 (i:Int)] w fun r w'=>FmAns w0 fb (some ⟨bn,on,none⟩) n CN A0 m C0 A1 C1 A2 C2 S g KN Q L r w' (some (Q x.b.toNat,[]))/\Below fb w w':=by
 have hfb:fb<w.heap.size:=T.fd.lt
 obtain⟨ta,hta⟩:∃ta:Nat,Hid (x.a=(ta:Int)):=⟨x.a.toNat,by show _=_;omega⟩
 obtain⟨tb,htb⟩:∃tb:Nat,Hid (x.b=(tb:Int)):=⟨x.b.toNat,by show _=_;omega⟩
 have ea:x.a.toNat=ta:=by have:=hta.out;omega
 have ebb:x.b.toNat=tb:=by have:=htb.out;omega
 rw [ea] at hKa hf
 rw [ebb] at hKb hf2
 rw [ea] at hfr
 rw [ebb]
 clear ea ebb h0a h0b
 obtain⟨b,o,hA,hb, -⟩:=(VN.keep T.hb) i hi
 have hb0:bn=b:=by injection hA with hA;injection hA with hA
 subst hb0
 have xc:Hid (∀j c,(ndL x)[j]?=some c->w.cell? ⟨bn,on+i*22+j,none⟩=some c):=by rw [hx];exact ((VN.keep T.hb).at (i:=i) hi).2
 clear hA
 replace hx:Hid (x=X i):=hx
 have hlt:(i:Int)<(n:Int):=by omega
 have ce:=fun W=>fempty_w m hm W
 have T0:=T
 obtain⟨RB,HB⟩:=blks1 w 58 [.slice none 0 0,.int .i64 0,.int .i64 0,.int .i64 0,.int .i64 0,.int .i64 0,.int .i64 0,.int .i64 0,.int .i64 0,.int .i64 0,.int .i64 0,.int .i64 0,.int .i64 0,.int .i64 0,.int .i64 0]
 go_enter Try.func25,Try.ntmps25
 go_upto_region 1 with fail
 generalize (w.alloc (.cells #[.slice none 0 0,.int .i64 0,.int .i64 0,.int .i64 0,.int .i64 0,.int .i64 0,.int .i64 0,.int .i64 0,.int .i64 0,.int .i64 0,.int .i64 0,.int .i64 0,.int .i64 0,.int .i64 0,.int .i64 0] 58))=V1 at *
 replace T:=T.keep HB
 have c0:=T.fd.cell 0 _ rfl
 have hrl:w.heap.size<V1.heap.size:=RB.lt
 have xl:bn<V1.heap.size:=Nat.lt_of_lt_of_le hb HB.size
 replace xc:Hid (∀j c,(ndL x)[j]?=some c->V1.cell? ⟨bn,on+i*22+j,none⟩=some c):=fun j c hj=>keepsC HB (xc.out j c hj) hb
 go_upto_region 2 with (first
  | (refine wpList_loadBig (by rfl) _ 54 (by rfl) Try.underlying54 (ndL x) (by kernel_rfl) (by rfl) (xc.out) (nd_val x) ?_)
  | (refine wpList_storeBig (by rfl) _ _ 54 (by rfl) (blk_new _ _ _) (ndL x) (by kernel_rfl) (by rfl) (by rfl) (by rfl) (by rfl) ?_;rintro V2 XR hs2 hB2 hk2))
 have grw:Below V1.heap.size V1 V2:=hB2 _ _ (Below.alloc (Below.refl _ _) (Nat.le_refl _) _) (Nat.le_refl _)
 have XN:=XR
 obtain⟨nb,hnb⟩:∃nb,nb=V1.heap.size:=⟨_,rfl⟩
 have hnb2:w.heap.size<nb:=by omega
 rw [<-hnb] at XN ⊢
 replace T:=T.keep grw
 replace RB:=RB.keeps grw
 replace HB:=later HB grw
 clear XR hB2 hk2 hs2 grw c0 xc xl hrl hnb
 have c1:=T.fd.cell 1 _ rfl
 try simp only [Act.put]
 go_upto_region 3 with (first
  | (go_at_call 24;(with_reducible refine (ce _).mono ?_);rintro _ W3 ⟨⟨ve,rfl,Ie⟩,hb2⟩;have hw2:w.heap.size<=V2.heap.size:=HB.size;replace HB:=later HB hb2;replace RB:=RB.keeps hb2;replace XN:=XN.keeps hb2;replace T:=T.keep hb2;replace Ie:=Ie.base hw2;clear hb2 c1 hw2;obtain⟨Ae,Ce,e7, -,re,hAe⟩:=Ie.form;rw [List.length_replicate] at e7 re hAe;subst e7;clear Ie)
  | (refine wpList_storeBig (by rfl) _ _ 58 (by rfl) (blk_new _ _ _) (fmL (.slice Ae m Ce) plE) (by kernel_rfl) (by rfl) (by rfl) (by rfl) (by rfl) ?_;rintro V4 XR hs2 hB2 hk2))
 replace re:RtAt W3 Ae m (fun _=>(0,1)):=re.congr fun u hu=>by rw [List.getD_eq_getElem?_getD,List.getElem?_replicate,if_pos hu];rfl
 have grw:Below W3.heap.size W3 V4:=hB2 _ _ (Below.alloc (Below.refl _ _) (Nat.le_refl _) _) (Nat.le_refl _)
 have XE:=XR
 obtain⟨eb,heb⟩:∃eb,eb=W3.heap.size:=⟨_,rfl⟩
 have hnl:nb<W3.heap.size:=XN.lt
 have heb2:nb<eb:=by omega
 rw [<-heb] at XE ⊢
 have U:FFt w0 fb bn on n CN A0 m C0 A1 C1 A2 C2 S g KN Q vr L w nb eb x Ae Ce V4:=⟨T.keep grw,XN.keeps grw,XE,RB.keeps grw,re.keep grw,later HB grw,hnb2,heb2⟩
 clear XR hB2 hk2 hs2 grw XN XE RB T re HB heb hnb2 heb2 hnl ce
 try simp only [Act.put]
 have y0:V4.cell? ⟨nb,0,none⟩=some (.int .i64 x.k):=U.nd.cell 0 _ rfl
 rw [hk] at y0
 replace hk:Hid (x.k=3):=hk
 go_upto_region 16 with fail
 obtain⟨hta2,hgl,Aa,ca,ra,fa⟩:=T0.fs.at hKa
 obtain⟨htb2, -,Ab,cb,rb,fbb⟩:=T0.fs.at hKb
 have hS:∀W,FFt w0 fb bn on n CN A0 m C0 A1 C1 A2 C2 S g KN Q vr L w nb eb x Ae Ce W->(fun W=>W.cell? ⟨fb,18,none⟩=some (.slice (some ⟨g,0,none⟩) n n)/\W.cell? ⟨nb,1,none⟩=some (.int .i64 (ta:Int))/\W.cell? ⟨nb,2,none⟩=some (.int .i64 (tb:Int))/\(∀j u,(fmL (.slice Aa m ca) (Q ta).1)[j]?=some u->W.cell? ⟨g,ta*15+j,none⟩=some u)/\(∀j u,(fmL (.slice Ab m cb) (Q tb).1)[j]?=some u->W.cell? ⟨g,tb*15+j,none⟩=some u)) W:=fun W h=>by
  refine⟨h.t.fd.cell 18 _ rfl, ?_, ?_,fun j u hj=>keepsC h.hw (fa j u hj) hgl,fun j u hj=>keepsC h.hw (fbb j u hj) hgl⟩
  ·have q:=h.nd.cell 1 _ rfl
   rw [hta.out] at q
   exact q
  ·have q:=h.nd.cell 2 _ rfl
   rw [htb.out] at q
   exact q
 have hta3:(ta:Int)<(n:Int):=by omega
 have htb3:(tb:Int)<(n:Int):=by omega
 have cf:∀W,FFt w0 fb bn on n CN A0 m C0 A1 C1 A2 C2 S g KN Q vr L w nb eb x Ae Ce W->Calls Try.prog 46 #[.pointer (some ⟨fb,0,none⟩),.int .i64 (ta:Int)] W fun r w'=>r=.returned (.bool (frB (X ta)))/\w'=W:=fun W h=>ffree_w fb (some ⟨bn,on,none⟩) n CN X ta hta2 hf W (VN.keep h.t.hb) (h.t.fd.cell 0 _ rfl)
 have cf2:∀W,FFt w0 fb bn on n CN A0 m C0 A1 C1 A2 C2 S g KN Q vr L w nb eb x Ae Ce W->Calls Try.prog 46 #[.pointer (some ⟨fb,0,none⟩),.int .i64 (tb:Int)] W fun r w'=>r=.returned (.bool (frB (X tb)))/\w'=W:=fun W h=>ffree_w fb (some ⟨bn,on,none⟩) n CN X tb htb2 hf2 W (VN.keep h.t.hb) (h.t.fd.cell 0 _ rfl)
 have y1:=(hS _ U).2.1
 have y2:=(hS _ U).2.2.1
 rw [hfr] at cf
 go_upto_region 17 with (go_at_call 46;(with_reducible refine (cf _ U).mono ?_);rintro _ W6 ⟨rfl,hW6⟩;rw [hW6];clear hW6)
 clear y0 y1 y2 fa fbb cf cf2
 refine held_tail 8 (fun W=>W.cell? ⟨fb,18,none⟩=some (.slice (some ⟨g,0,none⟩) n n)/\W.cell? ⟨nb,1,none⟩=some (.int .i64 (ta:Int))/\W.cell? ⟨nb,2,none⟩=some (.int .i64 (tb:Int))/\(∀j u,(fmL (.slice Aa m ca) (Q ta).1)[j]?=some u->W.cell? ⟨g,ta*15+j,none⟩=some u)/\(∀j u,(fmL (.slice Ab m cb) (Q tb).1)[j]?=some u->W.cell? ⟨g,tb*15+j,none⟩=some u)) (by kernel_rfl) (by kernel_rfl) (hS _ (U.keep (Below.refl _ _).drew)) (fun hHeld=>?_)
 simp only [List.take_succ_cons,List.take_zero,List.drop_succ_cons,List.drop_zero]
 replace U:=U.keep (Below.refl _ _).drew
 refine tk (v:=?_) 0 rfl ?_ hHeld ?_;rotate_left;(focus ((intro w hSw;(try dsimp only at hSw);go_simp);try with_reducible rfl));simp only[gA,gB,Act.put,gD,gE,gF];refine tk (v:=?_) 1 rfl ?_ hHeld ?_;rotate_left;(focus ((intro w hSw;(try dsimp only at hSw);go_simp);try with_reducible rfl));simp only[gA,gB,gC,Act.put,gD,gE,gF];refine tk (v:=?_) 2 rfl ?_ hHeld ?_;rotate_left;(focus ((intro w hSw;(try dsimp only at hSw);go_simp);try with_reducible rfl));simp only[gA,gB,gC,Act.put,gD,gE,gF];refine tk (v:=?_) 3 rfl ?_ hHeld ?_;rotate_left;(focus ((intro w hSw;(try dsimp only at hSw);go_simp);try with_reducible rfl));simp only[gA,gB,gC,Act.put,gD,gE,gF];refine tk (v:=?_) 4 rfl ?_ hHeld ?_;rotate_left;(focus ((intro w hSw;(try dsimp only at hSw);go_simp);try with_reducible rfl));simp only[gA,gB,gC,Act.put,gD,gE,gF];refine tk (v:=?_) 5 rfl ?_ hHeld ?_;rotate_left;(focus ((intro w hSw;(try dsimp only at hSw);go_simp);try with_reducible rfl));simp only[gA,gB,gC,Act.put,gD,gE,gF];refine tk (v:=?_) 6 rfl ?_ hHeld ?_;rotate_left;(focus ((intro w hSw;(try dsimp only at hSw);go_simp);try with_reducible rfl));simp only[gA,gB,gC,Act.put,gD,gE,gF]
 refine wpAnyH_take (i:=7) (v:=fmV (.slice Ab m cb) (Q tb).1) rfl (by kernel_rfl) (by kernel_rfl) (by kernel_rfl) (fun _ _ _ h=>h) (yields_loadBig (by rfl) _ 58 (by rfl) Try.underlying58 (fmL (.slice Ab m cb) (Q tb).1) (by kernel_rfl) (by rfl) (fun W hS2=>hS2.2.2.2.2) (fm_val _ _)) hHeld ?_;simp only[gA,gB,gC,Act.put,gD,gE,gF]
 refine wpAnyH_done (by kernel_rfl) ?_ _
 show wpList _ _ _ _ _ _
 have RB5:=U.rb
 go_wp2_with (first
  | (refine wpList_storeBig (by rfl) _ _ 58 (by rfl) (RB5) (fmL (.slice Ab m cb) (Q tb).1) (by kernel_rfl) (by rfl) (by rfl) (by rfl) (by rfl) ?_;rintro V6 XR hs2 hB2 hk2))
 have HB6:=hB2 _ _ U.hw (Nat.le_refl _)
 exact bodyPost_ret (v:=.tuple #[fmV (.slice Ab m cb) (Q tb).1,.bool true]) (results_cell_tmp Try.results25 _ V6 w.heap.size 58 (fmL (.slice Ab m cb) (Q tb).1).toArray (0,0) _ (by rfl) XR Try.underlying58 (by rfl) (by kernel_rfl) (by rfl)) rfl ⟨⟨Ab,cb,vr,[],rfl,(rb.keep U.hw).other RB5 (by decide) hk2,by rw [List.append_nil];exact T0.keep HB6,rfl⟩,HB6.mono (by omega)⟩
set_option maxRecDepth 4000 in
set_option maxHeartbeats 4000000 in
theorem fform_addb (w0:World) (fb bn on n CN:Nat) (A0:Option Addr) (m C0:Nat) (A1:Option Addr) (C1:Nat) (A2:Option Addr) (C2:Nat) (S:Nat->Int×Int) (g:Nat) (KN:Nat->Prop) (Q:Nat->Pro) (vr:Value) (L:List FV) (X:Nat->Nd) (x:Nd) (i:Nat) (hm:m<=500) (hi:i<n) (hx:x=X i) (w:World) (VN:Nds w0 (some ⟨bn,on,none⟩) n X) (T:FSt w0 fb (some ⟨bn,on,none⟩) n CN A0 m C0 A1 C1 A2 C2 S g KN Q vr L w) (hk:x.k=3) (hKa:KN x.a.toNat) (hKb:KN x.b.toNat) (h0a:0<=x.a) (h0b:0<=x.b) (hf:(X x.a.toNat).k=1->rightR (X x.a.toNat).q (X x.a.toNat).p=true) (hf2:(X x.b.toNat).k=1->rightR (X x.b.toNat).q (X x.b.toNat).p=true) (hfr:frB (X x.a.toNat)=false) (hfr2:frB (X x.b.toNat)=true) :
  Calls Try.prog 25 #[.pointer (some ⟨fb,0,none⟩),.int .i64 (i:Int)] w fun r w'=>FmAns w0 fb (some ⟨bn,on,none⟩) n CN A0 m C0 A1 C1 A2 C2 S g KN Q L r w' (some (Q x.a.toNat,[]))/\Below fb w w':=by
 have hfb:fb<w.heap.size:=T.fd.lt
 obtain⟨ta,hta⟩:∃ta:Nat,Hid (x.a=(ta:Int)):=⟨x.a.toNat,by show _=_;omega⟩
 obtain⟨tb,htb⟩:∃tb:Nat,Hid (x.b=(tb:Int)):=⟨x.b.toNat,by show _=_;omega⟩
 have ea:x.a.toNat=ta:=by have:=hta.out;omega
 have ebb:x.b.toNat=tb:=by have:=htb.out;omega
 rw [ea] at hKa hf
 rw [ebb] at hKb hf2
 rw [ea] at hfr ⊢
 rw [ebb] at hfr2
 clear ea ebb h0a h0b
 obtain⟨b,o,hA,hb, -⟩:=(VN.keep T.hb) i hi
 have hb0:bn=b:=by injection hA with hA;injection hA with hA
 subst hb0
 have xc:Hid (∀j c,(ndL x)[j]?=some c->w.cell? ⟨bn,on+i*22+j,none⟩=some c):=by rw [hx];exact ((VN.keep T.hb).at (i:=i) hi).2
 clear hA
 replace hx:Hid (x=X i):=hx
 have hlt:(i:Int)<(n:Int):=by omega
 have ce:=fun W=>fempty_w m hm W
 have T0:=T
 obtain⟨RB,HB⟩:=blks1 w 58 [.slice none 0 0,.int .i64 0,.int .i64 0,.int .i64 0,.int .i64 0,.int .i64 0,.int .i64 0,.int .i64 0,.int .i64 0,.int .i64 0,.int .i64 0,.int .i64 0,.int .i64 0,.int .i64 0,.int .i64 0]
 go_enter Try.func25,Try.ntmps25
 go_upto_region 1 with fail
 generalize (w.alloc (.cells #[.slice none 0 0,.int .i64 0,.int .i64 0,.int .i64 0,.int .i64 0,.int .i64 0,.int .i64 0,.int .i64 0,.int .i64 0,.int .i64 0,.int .i64 0,.int .i64 0,.int .i64 0,.int .i64 0,.int .i64 0] 58))=V1 at *
 replace T:=T.keep HB
 have c0:=T.fd.cell 0 _ rfl
 have hrl:w.heap.size<V1.heap.size:=RB.lt
 have xl:bn<V1.heap.size:=Nat.lt_of_lt_of_le hb HB.size
 replace xc:Hid (∀j c,(ndL x)[j]?=some c->V1.cell? ⟨bn,on+i*22+j,none⟩=some c):=fun j c hj=>keepsC HB (xc.out j c hj) hb
 go_upto_region 2 with (first
  | (refine wpList_loadBig (by rfl) _ 54 (by rfl) Try.underlying54 (ndL x) (by kernel_rfl) (by rfl) (xc.out) (nd_val x) ?_)
  | (refine wpList_storeBig (by rfl) _ _ 54 (by rfl) (blk_new _ _ _) (ndL x) (by kernel_rfl) (by rfl) (by rfl) (by rfl) (by rfl) ?_;rintro V2 XR hs2 hB2 hk2))
 have grw:Below V1.heap.size V1 V2:=hB2 _ _ (Below.alloc (Below.refl _ _) (Nat.le_refl _) _) (Nat.le_refl _)
 have XN:=XR
 obtain⟨nb,hnb⟩:∃nb,nb=V1.heap.size:=⟨_,rfl⟩
 have hnb2:w.heap.size<nb:=by omega
 rw [<-hnb] at XN ⊢
 replace T:=T.keep grw
 replace RB:=RB.keeps grw
 replace HB:=later HB grw
 clear XR hB2 hk2 hs2 grw c0 xc xl hrl hnb
 have c1:=T.fd.cell 1 _ rfl
 try simp only [Act.put]
 go_upto_region 3 with (first
  | (go_at_call 24;(with_reducible refine (ce _).mono ?_);rintro _ W3 ⟨⟨ve,rfl,Ie⟩,hb2⟩;have hw2:w.heap.size<=V2.heap.size:=HB.size;replace HB:=later HB hb2;replace RB:=RB.keeps hb2;replace XN:=XN.keeps hb2;replace T:=T.keep hb2;replace Ie:=Ie.base hw2;clear hb2 c1 hw2;obtain⟨Ae,Ce,e7, -,re,hAe⟩:=Ie.form;rw [List.length_replicate] at e7 re hAe;subst e7;clear Ie)
  | (refine wpList_storeBig (by rfl) _ _ 58 (by rfl) (blk_new _ _ _) (fmL (.slice Ae m Ce) plE) (by kernel_rfl) (by rfl) (by rfl) (by rfl) (by rfl) ?_;rintro V4 XR hs2 hB2 hk2))
 replace re:RtAt W3 Ae m (fun _=>(0,1)):=re.congr fun u hu=>by rw [List.getD_eq_getElem?_getD,List.getElem?_replicate,if_pos hu];rfl
 have grw:Below W3.heap.size W3 V4:=hB2 _ _ (Below.alloc (Below.refl _ _) (Nat.le_refl _) _) (Nat.le_refl _)
 have XE:=XR
 obtain⟨eb,heb⟩:∃eb,eb=W3.heap.size:=⟨_,rfl⟩
 have hnl:nb<W3.heap.size:=XN.lt
 have heb2:nb<eb:=by omega
 rw [<-heb] at XE ⊢
 have U:FFt w0 fb bn on n CN A0 m C0 A1 C1 A2 C2 S g KN Q vr L w nb eb x Ae Ce V4:=⟨T.keep grw,XN.keeps grw,XE,RB.keeps grw,re.keep grw,later HB grw,hnb2,heb2⟩
 clear XR hB2 hk2 hs2 grw XN XE RB T re HB heb hnb2 heb2 hnl ce
 try simp only [Act.put]
 have y0:V4.cell? ⟨nb,0,none⟩=some (.int .i64 x.k):=U.nd.cell 0 _ rfl
 rw [hk] at y0
 replace hk:Hid (x.k=3):=hk
 go_upto_region 16 with fail
 obtain⟨hta2,hgl,Aa,ca,ra,fa⟩:=T0.fs.at hKa
 obtain⟨htb2, -,Ab,cb,rb,fbb⟩:=T0.fs.at hKb
 have hS:∀W,FFt w0 fb bn on n CN A0 m C0 A1 C1 A2 C2 S g KN Q vr L w nb eb x Ae Ce W->(fun W=>W.cell? ⟨fb,18,none⟩=some (.slice (some ⟨g,0,none⟩) n n)/\W.cell? ⟨nb,1,none⟩=some (.int .i64 (ta:Int))/\W.cell? ⟨nb,2,none⟩=some (.int .i64 (tb:Int))/\(∀j u,(fmL (.slice Aa m ca) (Q ta).1)[j]?=some u->W.cell? ⟨g,ta*15+j,none⟩=some u)/\(∀j u,(fmL (.slice Ab m cb) (Q tb).1)[j]?=some u->W.cell? ⟨g,tb*15+j,none⟩=some u)) W:=fun W h=>by
  refine⟨h.t.fd.cell 18 _ rfl, ?_, ?_,fun j u hj=>keepsC h.hw (fa j u hj) hgl,fun j u hj=>keepsC h.hw (fbb j u hj) hgl⟩
  ·have q:=h.nd.cell 1 _ rfl
   rw [hta.out] at q
   exact q
  ·have q:=h.nd.cell 2 _ rfl
   rw [htb.out] at q
   exact q
 have hta3:(ta:Int)<(n:Int):=by omega
 have htb3:(tb:Int)<(n:Int):=by omega
 have cf:∀W,FFt w0 fb bn on n CN A0 m C0 A1 C1 A2 C2 S g KN Q vr L w nb eb x Ae Ce W->Calls Try.prog 46 #[.pointer (some ⟨fb,0,none⟩),.int .i64 (ta:Int)] W fun r w'=>r=.returned (.bool (frB (X ta)))/\w'=W:=fun W h=>ffree_w fb (some ⟨bn,on,none⟩) n CN X ta hta2 hf W (VN.keep h.t.hb) (h.t.fd.cell 0 _ rfl)
 have cf2:∀W,FFt w0 fb bn on n CN A0 m C0 A1 C1 A2 C2 S g KN Q vr L w nb eb x Ae Ce W->Calls Try.prog 46 #[.pointer (some ⟨fb,0,none⟩),.int .i64 (tb:Int)] W fun r w'=>r=.returned (.bool (frB (X tb)))/\w'=W:=fun W h=>ffree_w fb (some ⟨bn,on,none⟩) n CN X tb htb2 hf2 W (VN.keep h.t.hb) (h.t.fd.cell 0 _ rfl)
 have y1:=(hS _ U).2.1
 have y2:=(hS _ U).2.2.1
 rw [hfr] at cf
 rw [hfr2] at cf2
 go_upto_region 18 with (go_at_call 46;(with_reducible refine (cf _ U).mono ?_);rintro _ W6 ⟨rfl,hW6⟩;rw [hW6];clear hW6)
 go_upto_region 22 with (go_at_call 46;(with_reducible refine (cf2 _ U).mono ?_);rintro _ W6 ⟨rfl,hW6⟩;rw [hW6];clear hW6)
 clear y0 y1 y2 fa fbb cf cf2
 refine held_tail 8 (fun W=>W.cell? ⟨fb,18,none⟩=some (.slice (some ⟨g,0,none⟩) n n)/\W.cell? ⟨nb,1,none⟩=some (.int .i64 (ta:Int))/\W.cell? ⟨nb,2,none⟩=some (.int .i64 (tb:Int))/\(∀j u,(fmL (.slice Aa m ca) (Q ta).1)[j]?=some u->W.cell? ⟨g,ta*15+j,none⟩=some u)/\(∀j u,(fmL (.slice Ab m cb) (Q tb).1)[j]?=some u->W.cell? ⟨g,tb*15+j,none⟩=some u)) (by kernel_rfl) (by kernel_rfl) (hS _ (U.keep (Below.refl _ _).drew)) (fun hHeld=>?_)
 simp only [List.take_succ_cons,List.take_zero,List.drop_succ_cons,List.drop_zero]
 replace U:=U.keep (Below.refl _ _).drew
 refine tk (v:=?_) 0 rfl ?_ hHeld ?_;rotate_left;(focus ((intro w hSw;(try dsimp only at hSw);go_simp);try with_reducible rfl));simp only[gA,gB,Act.put,gD,gE,gF];refine tk (v:=?_) 1 rfl ?_ hHeld ?_;rotate_left;(focus ((intro w hSw;(try dsimp only at hSw);go_simp);try with_reducible rfl));simp only[gA,gB,gC,Act.put,gD,gE,gF];refine tk (v:=?_) 2 rfl ?_ hHeld ?_;rotate_left;(focus ((intro w hSw;(try dsimp only at hSw);go_simp);try with_reducible rfl));simp only[gA,gB,gC,Act.put,gD,gE,gF];refine tk (v:=?_) 3 rfl ?_ hHeld ?_;rotate_left;(focus ((intro w hSw;(try dsimp only at hSw);go_simp);try with_reducible rfl));simp only[gA,gB,gC,Act.put,gD,gE,gF];refine tk (v:=?_) 4 rfl ?_ hHeld ?_;rotate_left;(focus ((intro w hSw;(try dsimp only at hSw);go_simp);try with_reducible rfl));simp only[gA,gB,gC,Act.put,gD,gE,gF];refine tk (v:=?_) 5 rfl ?_ hHeld ?_;rotate_left;(focus ((intro w hSw;(try dsimp only at hSw);go_simp);try with_reducible rfl));simp only[gA,gB,gC,Act.put,gD,gE,gF];refine tk (v:=?_) 6 rfl ?_ hHeld ?_;rotate_left;(focus ((intro w hSw;(try dsimp only at hSw);go_simp);try with_reducible rfl));simp only[gA,gB,gC,Act.put,gD,gE,gF]
 refine wpAnyH_take (i:=7) (v:=fmV (.slice Aa m ca) (Q ta).1) rfl (by kernel_rfl) (by kernel_rfl) (by kernel_rfl) (fun _ _ _ h=>h) (yields_loadBig (by rfl) _ 58 (by rfl) Try.underlying58 (fmL (.slice Aa m ca) (Q ta).1) (by kernel_rfl) (by rfl) (fun W hS2=>hS2.2.2.2.1) (fm_val _ _)) hHeld ?_;simp only[gA,gB,gC,Act.put,gD,gE,gF]
 refine wpAnyH_done (by kernel_rfl) ?_ _
 show wpList _ _ _ _ _ _
 have RB5:=U.rb
 go_wp2_with (first
  | (refine wpList_storeBig (by rfl) _ _ 58 (by rfl) (RB5) (fmL (.slice Aa m ca) (Q ta).1) (by kernel_rfl) (by rfl) (by rfl) (by rfl) (by rfl) ?_;rintro V6 XR hs2 hB2 hk2))
 have HB6:=hB2 _ _ U.hw (Nat.le_refl _)
 exact bodyPost_ret (v:=.tuple #[fmV (.slice Aa m ca) (Q ta).1,.bool true]) (results_cell_tmp Try.results25 _ V6 w.heap.size 58 (fmL (.slice Aa m ca) (Q ta).1).toArray (0,0) _ (by rfl) XR Try.underlying58 (by rfl) (by kernel_rfl) (by rfl)) rfl ⟨⟨Aa,ca,vr,[],rfl,(ra.keep U.hw).other RB5 (by decide) hk2,by rw [List.append_nil];exact T0.keep HB6,rfl⟩,HB6.mono (by omega)⟩
set_option maxRecDepth 4000 in
set_option maxHeartbeats 4000000 in
theorem fform_suba (w0:World) (fb bn on n CN:Nat) (A0:Option Addr) (m C0:Nat) (A1:Option Addr) (C1:Nat) (A2:Option Addr) (C2:Nat) (S:Nat->Int×Int) (g:Nat) (KN:Nat->Prop) (Q:Nat->Pro) (vr:Value) (L:List FV) (X:Nat->Nd) (x:Nd) (i:Nat) (hm:m<=500) (hi:i<n) (hx:x=X i) (w:World) (VN:Nds w0 (some ⟨bn,on,none⟩) n X) (T:FSt w0 fb (some ⟨bn,on,none⟩) n CN A0 m C0 A1 C1 A2 C2 S g KN Q vr L w) (hk:x.k=4) (hKa:KN x.a.toNat) (hKb:KN x.b.toNat) (h0a:0<=x.a) (h0b:0<=x.b) (hf:(X x.a.toNat).k=1->rightR (X x.a.toNat).q (X x.a.toNat).p=true) (hf2:(X x.b.toNat).k=1->rightR (X x.b.toNat).q (X x.b.toNat).p=true) (hfr:frB (X x.a.toNat)=true) :
  Calls Try.prog 25 #[.pointer (some ⟨fb,0,none⟩),.int .i64 (i:Int)] w fun r w'=>FmAns w0 fb (some ⟨bn,on,none⟩) n CN A0 m C0 A1 C1 A2 C2 S g KN Q L r w' (some (Q x.b.toNat,[]))/\Below fb w w':=by
 have hfb:fb<w.heap.size:=T.fd.lt
 obtain⟨ta,hta⟩:∃ta:Nat,Hid (x.a=(ta:Int)):=⟨x.a.toNat,by show _=_;omega⟩
 obtain⟨tb,htb⟩:∃tb:Nat,Hid (x.b=(tb:Int)):=⟨x.b.toNat,by show _=_;omega⟩
 have ea:x.a.toNat=ta:=by have:=hta.out;omega
 have ebb:x.b.toNat=tb:=by have:=htb.out;omega
 rw [ea] at hKa hf
 rw [ebb] at hKb hf2
 rw [ea] at hfr
 rw [ebb]
 clear ea ebb h0a h0b
 obtain⟨b,o,hA,hb, -⟩:=(VN.keep T.hb) i hi
 have hb0:bn=b:=by injection hA with hA;injection hA with hA
 subst hb0
 have xc:Hid (∀j c,(ndL x)[j]?=some c->w.cell? ⟨bn,on+i*22+j,none⟩=some c):=by rw [hx];exact ((VN.keep T.hb).at (i:=i) hi).2
 clear hA
 replace hx:Hid (x=X i):=hx
 have hlt:(i:Int)<(n:Int):=by omega
 have ce:=fun W=>fempty_w m hm W
 have T0:=T
 obtain⟨RB,HB⟩:=blks1 w 58 [.slice none 0 0,.int .i64 0,.int .i64 0,.int .i64 0,.int .i64 0,.int .i64 0,.int .i64 0,.int .i64 0,.int .i64 0,.int .i64 0,.int .i64 0,.int .i64 0,.int .i64 0,.int .i64 0,.int .i64 0]
 go_enter Try.func25,Try.ntmps25
 go_upto_region 1 with fail
 generalize (w.alloc (.cells #[.slice none 0 0,.int .i64 0,.int .i64 0,.int .i64 0,.int .i64 0,.int .i64 0,.int .i64 0,.int .i64 0,.int .i64 0,.int .i64 0,.int .i64 0,.int .i64 0,.int .i64 0,.int .i64 0,.int .i64 0] 58))=V1 at *
 replace T:=T.keep HB
 have c0:=T.fd.cell 0 _ rfl
 have hrl:w.heap.size<V1.heap.size:=RB.lt
 have xl:bn<V1.heap.size:=Nat.lt_of_lt_of_le hb HB.size
 replace xc:Hid (∀j c,(ndL x)[j]?=some c->V1.cell? ⟨bn,on+i*22+j,none⟩=some c):=fun j c hj=>keepsC HB (xc.out j c hj) hb
 go_upto_region 2 with (first
  | (refine wpList_loadBig (by rfl) _ 54 (by rfl) Try.underlying54 (ndL x) (by kernel_rfl) (by rfl) (xc.out) (nd_val x) ?_)
  | (refine wpList_storeBig (by rfl) _ _ 54 (by rfl) (blk_new _ _ _) (ndL x) (by kernel_rfl) (by rfl) (by rfl) (by rfl) (by rfl) ?_;rintro V2 XR hs2 hB2 hk2))
 have grw:Below V1.heap.size V1 V2:=hB2 _ _ (Below.alloc (Below.refl _ _) (Nat.le_refl _) _) (Nat.le_refl _)
 have XN:=XR
 obtain⟨nb,hnb⟩:∃nb,nb=V1.heap.size:=⟨_,rfl⟩
 have hnb2:w.heap.size<nb:=by omega
 rw [<-hnb] at XN ⊢
 replace T:=T.keep grw
 replace RB:=RB.keeps grw
 replace HB:=later HB grw
 clear XR hB2 hk2 hs2 grw c0 xc xl hrl hnb
 have c1:=T.fd.cell 1 _ rfl
 try simp only [Act.put]
 go_upto_region 3 with (first
  | (go_at_call 24;(with_reducible refine (ce _).mono ?_);rintro _ W3 ⟨⟨ve,rfl,Ie⟩,hb2⟩;have hw2:w.heap.size<=V2.heap.size:=HB.size;replace HB:=later HB hb2;replace RB:=RB.keeps hb2;replace XN:=XN.keeps hb2;replace T:=T.keep hb2;replace Ie:=Ie.base hw2;clear hb2 c1 hw2;obtain⟨Ae,Ce,e7, -,re,hAe⟩:=Ie.form;rw [List.length_replicate] at e7 re hAe;subst e7;clear Ie)
  | (refine wpList_storeBig (by rfl) _ _ 58 (by rfl) (blk_new _ _ _) (fmL (.slice Ae m Ce) plE) (by kernel_rfl) (by rfl) (by rfl) (by rfl) (by rfl) ?_;rintro V4 XR hs2 hB2 hk2))
 replace re:RtAt W3 Ae m (fun _=>(0,1)):=re.congr fun u hu=>by rw [List.getD_eq_getElem?_getD,List.getElem?_replicate,if_pos hu];rfl
 have grw:Below W3.heap.size W3 V4:=hB2 _ _ (Below.alloc (Below.refl _ _) (Nat.le_refl _) _) (Nat.le_refl _)
 have XE:=XR
 obtain⟨eb,heb⟩:∃eb,eb=W3.heap.size:=⟨_,rfl⟩
 have hnl:nb<W3.heap.size:=XN.lt
 have heb2:nb<eb:=by omega
 rw [<-heb] at XE ⊢
 have U:FFt w0 fb bn on n CN A0 m C0 A1 C1 A2 C2 S g KN Q vr L w nb eb x Ae Ce V4:=⟨T.keep grw,XN.keeps grw,XE,RB.keeps grw,re.keep grw,later HB grw,hnb2,heb2⟩
 clear XR hB2 hk2 hs2 grw XN XE RB T re HB heb hnb2 heb2 hnl ce
 try simp only [Act.put]
 have y0:V4.cell? ⟨nb,0,none⟩=some (.int .i64 x.k):=U.nd.cell 0 _ rfl
 rw [hk] at y0
 replace hk:Hid (x.k=4):=hk
 go_upto_region 16 with fail
 obtain⟨hta2,hgl,Aa,ca,ra,fa⟩:=T0.fs.at hKa
 obtain⟨htb2, -,Ab,cb,rb,fbb⟩:=T0.fs.at hKb
 have hS:∀W,FFt w0 fb bn on n CN A0 m C0 A1 C1 A2 C2 S g KN Q vr L w nb eb x Ae Ce W->(fun W=>W.cell? ⟨fb,18,none⟩=some (.slice (some ⟨g,0,none⟩) n n)/\W.cell? ⟨nb,1,none⟩=some (.int .i64 (ta:Int))/\W.cell? ⟨nb,2,none⟩=some (.int .i64 (tb:Int))/\(∀j u,(fmL (.slice Aa m ca) (Q ta).1)[j]?=some u->W.cell? ⟨g,ta*15+j,none⟩=some u)/\(∀j u,(fmL (.slice Ab m cb) (Q tb).1)[j]?=some u->W.cell? ⟨g,tb*15+j,none⟩=some u)) W:=fun W h=>by
  refine⟨h.t.fd.cell 18 _ rfl, ?_, ?_,fun j u hj=>keepsC h.hw (fa j u hj) hgl,fun j u hj=>keepsC h.hw (fbb j u hj) hgl⟩
  ·have q:=h.nd.cell 1 _ rfl
   rw [hta.out] at q
   exact q
  ·have q:=h.nd.cell 2 _ rfl
   rw [htb.out] at q
   exact q
 have hta3:(ta:Int)<(n:Int):=by omega
 have htb3:(tb:Int)<(n:Int):=by omega
 have cf:∀W,FFt w0 fb bn on n CN A0 m C0 A1 C1 A2 C2 S g KN Q vr L w nb eb x Ae Ce W->Calls Try.prog 46 #[.pointer (some ⟨fb,0,none⟩),.int .i64 (ta:Int)] W fun r w'=>r=.returned (.bool (frB (X ta)))/\w'=W:=fun W h=>ffree_w fb (some ⟨bn,on,none⟩) n CN X ta hta2 hf W (VN.keep h.t.hb) (h.t.fd.cell 0 _ rfl)
 have cf2:∀W,FFt w0 fb bn on n CN A0 m C0 A1 C1 A2 C2 S g KN Q vr L w nb eb x Ae Ce W->Calls Try.prog 46 #[.pointer (some ⟨fb,0,none⟩),.int .i64 (tb:Int)] W fun r w'=>r=.returned (.bool (frB (X tb)))/\w'=W:=fun W h=>ffree_w fb (some ⟨bn,on,none⟩) n CN X tb htb2 hf2 W (VN.keep h.t.hb) (h.t.fd.cell 0 _ rfl)
 have y1:=(hS _ U).2.1
 have y2:=(hS _ U).2.2.1
 rw [hfr] at cf
 go_upto_region 17 with (go_at_call 46;(with_reducible refine (cf _ U).mono ?_);rintro _ W6 ⟨rfl,hW6⟩;rw [hW6];clear hW6)
 clear y0 y1 y2 fa fbb cf cf2
 refine held_tail 8 (fun W=>W.cell? ⟨fb,18,none⟩=some (.slice (some ⟨g,0,none⟩) n n)/\W.cell? ⟨nb,1,none⟩=some (.int .i64 (ta:Int))/\W.cell? ⟨nb,2,none⟩=some (.int .i64 (tb:Int))/\(∀j u,(fmL (.slice Aa m ca) (Q ta).1)[j]?=some u->W.cell? ⟨g,ta*15+j,none⟩=some u)/\(∀j u,(fmL (.slice Ab m cb) (Q tb).1)[j]?=some u->W.cell? ⟨g,tb*15+j,none⟩=some u)) (by kernel_rfl) (by kernel_rfl) (hS _ (U.keep (Below.refl _ _).drew)) (fun hHeld=>?_)
 simp only [List.take_succ_cons,List.take_zero,List.drop_succ_cons,List.drop_zero]
 replace U:=U.keep (Below.refl _ _).drew
 refine tk (v:=?_) 0 rfl ?_ hHeld ?_;rotate_left;(focus ((intro w hSw;(try dsimp only at hSw);go_simp);try with_reducible rfl));simp only[gA,gB,Act.put,gD,gE,gF];refine tk (v:=?_) 1 rfl ?_ hHeld ?_;rotate_left;(focus ((intro w hSw;(try dsimp only at hSw);go_simp);try with_reducible rfl));simp only[gA,gB,gC,Act.put,gD,gE,gF];refine tk (v:=?_) 2 rfl ?_ hHeld ?_;rotate_left;(focus ((intro w hSw;(try dsimp only at hSw);go_simp);try with_reducible rfl));simp only[gA,gB,gC,Act.put,gD,gE,gF];refine tk (v:=?_) 3 rfl ?_ hHeld ?_;rotate_left;(focus ((intro w hSw;(try dsimp only at hSw);go_simp);try with_reducible rfl));simp only[gA,gB,gC,Act.put,gD,gE,gF];refine tk (v:=?_) 4 rfl ?_ hHeld ?_;rotate_left;(focus ((intro w hSw;(try dsimp only at hSw);go_simp);try with_reducible rfl));simp only[gA,gB,gC,Act.put,gD,gE,gF];refine tk (v:=?_) 5 rfl ?_ hHeld ?_;rotate_left;(focus ((intro w hSw;(try dsimp only at hSw);go_simp);try with_reducible rfl));simp only[gA,gB,gC,Act.put,gD,gE,gF];refine tk (v:=?_) 6 rfl ?_ hHeld ?_;rotate_left;(focus ((intro w hSw;(try dsimp only at hSw);go_simp);try with_reducible rfl));simp only[gA,gB,gC,Act.put,gD,gE,gF]
 refine wpAnyH_take (i:=7) (v:=fmV (.slice Ab m cb) (Q tb).1) rfl (by kernel_rfl) (by kernel_rfl) (by kernel_rfl) (fun _ _ _ h=>h) (yields_loadBig (by rfl) _ 58 (by rfl) Try.underlying58 (fmL (.slice Ab m cb) (Q tb).1) (by kernel_rfl) (by rfl) (fun W hS2=>hS2.2.2.2.2) (fm_val _ _)) hHeld ?_;simp only[gA,gB,gC,Act.put,gD,gE,gF]
 refine wpAnyH_done (by kernel_rfl) ?_ _
 show wpList _ _ _ _ _ _
 have RB5:=U.rb
 go_wp2_with (first
  | (refine wpList_storeBig (by rfl) _ _ 58 (by rfl) (RB5) (fmL (.slice Ab m cb) (Q tb).1) (by kernel_rfl) (by rfl) (by rfl) (by rfl) (by rfl) ?_;rintro V6 XR hs2 hB2 hk2))
 have HB6:=hB2 _ _ U.hw (Nat.le_refl _)
 exact bodyPost_ret (v:=.tuple #[fmV (.slice Ab m cb) (Q tb).1,.bool true]) (results_cell_tmp Try.results25 _ V6 w.heap.size 58 (fmL (.slice Ab m cb) (Q tb).1).toArray (0,0) _ (by rfl) XR Try.underlying58 (by rfl) (by kernel_rfl) (by rfl)) rfl ⟨⟨Ab,cb,vr,[],rfl,(rb.keep U.hw).other RB5 (by decide) hk2,by rw [List.append_nil];exact T0.keep HB6,rfl⟩,HB6.mono (by omega)⟩
set_option maxRecDepth 4000 in
set_option maxHeartbeats 4000000 in
theorem fform_subb (w0:World) (fb bn on n CN:Nat) (A0:Option Addr) (m C0:Nat) (A1:Option Addr) (C1:Nat) (A2:Option Addr) (C2:Nat) (S:Nat->Int×Int) (g:Nat) (KN:Nat->Prop) (Q:Nat->Pro) (vr:Value) (L:List FV) (X:Nat->Nd) (x:Nd) (i:Nat) (hm:m<=500) (hi:i<n) (hx:x=X i) (w:World) (VN:Nds w0 (some ⟨bn,on,none⟩) n X) (T:FSt w0 fb (some ⟨bn,on,none⟩) n CN A0 m C0 A1 C1 A2 C2 S g KN Q vr L w) (hk:x.k=4) (hKa:KN x.a.toNat) (hKb:KN x.b.toNat) (h0a:0<=x.a) (h0b:0<=x.b) (hf:(X x.a.toNat).k=1->rightR (X x.a.toNat).q (X x.a.toNat).p=true) (hf2:(X x.b.toNat).k=1->rightR (X x.b.toNat).q (X x.b.toNat).p=true) (hfr:frB (X x.a.toNat)=false) (hfr2:frB (X x.b.toNat)=true) :
  Calls Try.prog 25 #[.pointer (some ⟨fb,0,none⟩),.int .i64 (i:Int)] w fun r w'=>FmAns w0 fb (some ⟨bn,on,none⟩) n CN A0 m C0 A1 C1 A2 C2 S g KN Q L r w' (some (Q x.a.toNat,[]))/\Below fb w w':=by
 have hfb:fb<w.heap.size:=T.fd.lt
 obtain⟨ta,hta⟩:∃ta:Nat,Hid (x.a=(ta:Int)):=⟨x.a.toNat,by show _=_;omega⟩
 obtain⟨tb,htb⟩:∃tb:Nat,Hid (x.b=(tb:Int)):=⟨x.b.toNat,by show _=_;omega⟩
 have ea:x.a.toNat=ta:=by have:=hta.out;omega
 have ebb:x.b.toNat=tb:=by have:=htb.out;omega
 rw [ea] at hKa hf
 rw [ebb] at hKb hf2
 rw [ea] at hfr ⊢
 rw [ebb] at hfr2
 clear ea ebb h0a h0b
 obtain⟨b,o,hA,hb, -⟩:=(VN.keep T.hb) i hi
 have hb0:bn=b:=by injection hA with hA;injection hA with hA
 subst hb0
 have xc:Hid (∀j c,(ndL x)[j]?=some c->w.cell? ⟨bn,on+i*22+j,none⟩=some c):=by rw [hx];exact ((VN.keep T.hb).at (i:=i) hi).2
 clear hA
 replace hx:Hid (x=X i):=hx
 have hlt:(i:Int)<(n:Int):=by omega
 have ce:=fun W=>fempty_w m hm W
 have T0:=T
 obtain⟨RB,HB⟩:=blks1 w 58 [.slice none 0 0,.int .i64 0,.int .i64 0,.int .i64 0,.int .i64 0,.int .i64 0,.int .i64 0,.int .i64 0,.int .i64 0,.int .i64 0,.int .i64 0,.int .i64 0,.int .i64 0,.int .i64 0,.int .i64 0]
 go_enter Try.func25,Try.ntmps25
 go_upto_region 1 with fail
 generalize (w.alloc (.cells #[.slice none 0 0,.int .i64 0,.int .i64 0,.int .i64 0,.int .i64 0,.int .i64 0,.int .i64 0,.int .i64 0,.int .i64 0,.int .i64 0,.int .i64 0,.int .i64 0,.int .i64 0,.int .i64 0,.int .i64 0] 58))=V1 at *
 replace T:=T.keep HB
 have c0:=T.fd.cell 0 _ rfl
 have hrl:w.heap.size<V1.heap.size:=RB.lt
 have xl:bn<V1.heap.size:=Nat.lt_of_lt_of_le hb HB.size
 replace xc:Hid (∀j c,(ndL x)[j]?=some c->V1.cell? ⟨bn,on+i*22+j,none⟩=some c):=fun j c hj=>keepsC HB (xc.out j c hj) hb
 go_upto_region 2 with (first
  | (refine wpList_loadBig (by rfl) _ 54 (by rfl) Try.underlying54 (ndL x) (by kernel_rfl) (by rfl) (xc.out) (nd_val x) ?_)
  | (refine wpList_storeBig (by rfl) _ _ 54 (by rfl) (blk_new _ _ _) (ndL x) (by kernel_rfl) (by rfl) (by rfl) (by rfl) (by rfl) ?_;rintro V2 XR hs2 hB2 hk2))
 have grw:Below V1.heap.size V1 V2:=hB2 _ _ (Below.alloc (Below.refl _ _) (Nat.le_refl _) _) (Nat.le_refl _)
 have XN:=XR
 obtain⟨nb,hnb⟩:∃nb,nb=V1.heap.size:=⟨_,rfl⟩
 have hnb2:w.heap.size<nb:=by omega
 rw [<-hnb] at XN ⊢
 replace T:=T.keep grw
 replace RB:=RB.keeps grw
 replace HB:=later HB grw
 clear XR hB2 hk2 hs2 grw c0 xc xl hrl hnb
 have c1:=T.fd.cell 1 _ rfl
 try simp only [Act.put]
 go_upto_region 3 with (first
  | (go_at_call 24;(with_reducible refine (ce _).mono ?_);rintro _ W3 ⟨⟨ve,rfl,Ie⟩,hb2⟩;have hw2:w.heap.size<=V2.heap.size:=HB.size;replace HB:=later HB hb2;replace RB:=RB.keeps hb2;replace XN:=XN.keeps hb2;replace T:=T.keep hb2;replace Ie:=Ie.base hw2;clear hb2 c1 hw2;obtain⟨Ae,Ce,e7, -,re,hAe⟩:=Ie.form;rw [List.length_replicate] at e7 re hAe;subst e7;clear Ie)
  | (refine wpList_storeBig (by rfl) _ _ 58 (by rfl) (blk_new _ _ _) (fmL (.slice Ae m Ce) plE) (by kernel_rfl) (by rfl) (by rfl) (by rfl) (by rfl) ?_;rintro V4 XR hs2 hB2 hk2))
 replace re:RtAt W3 Ae m (fun _=>(0,1)):=re.congr fun u hu=>by rw [List.getD_eq_getElem?_getD,List.getElem?_replicate,if_pos hu];rfl
 have grw:Below W3.heap.size W3 V4:=hB2 _ _ (Below.alloc (Below.refl _ _) (Nat.le_refl _) _) (Nat.le_refl _)
 have XE:=XR
 obtain⟨eb,heb⟩:∃eb,eb=W3.heap.size:=⟨_,rfl⟩
 have hnl:nb<W3.heap.size:=XN.lt
 have heb2:nb<eb:=by omega
 rw [<-heb] at XE ⊢
 have U:FFt w0 fb bn on n CN A0 m C0 A1 C1 A2 C2 S g KN Q vr L w nb eb x Ae Ce V4:=⟨T.keep grw,XN.keeps grw,XE,RB.keeps grw,re.keep grw,later HB grw,hnb2,heb2⟩
 clear XR hB2 hk2 hs2 grw XN XE RB T re HB heb hnb2 heb2 hnl ce
 try simp only [Act.put]
 have y0:V4.cell? ⟨nb,0,none⟩=some (.int .i64 x.k):=U.nd.cell 0 _ rfl
 rw [hk] at y0
 replace hk:Hid (x.k=4):=hk
 go_upto_region 16 with fail
 obtain⟨hta2,hgl,Aa,ca,ra,fa⟩:=T0.fs.at hKa
 obtain⟨htb2, -,Ab,cb,rb,fbb⟩:=T0.fs.at hKb
 have hS:∀W,FFt w0 fb bn on n CN A0 m C0 A1 C1 A2 C2 S g KN Q vr L w nb eb x Ae Ce W->(fun W=>W.cell? ⟨fb,18,none⟩=some (.slice (some ⟨g,0,none⟩) n n)/\W.cell? ⟨nb,1,none⟩=some (.int .i64 (ta:Int))/\W.cell? ⟨nb,2,none⟩=some (.int .i64 (tb:Int))/\(∀j u,(fmL (.slice Aa m ca) (Q ta).1)[j]?=some u->W.cell? ⟨g,ta*15+j,none⟩=some u)/\(∀j u,(fmL (.slice Ab m cb) (Q tb).1)[j]?=some u->W.cell? ⟨g,tb*15+j,none⟩=some u)) W:=fun W h=>by
  refine⟨h.t.fd.cell 18 _ rfl, ?_, ?_,fun j u hj=>keepsC h.hw (fa j u hj) hgl,fun j u hj=>keepsC h.hw (fbb j u hj) hgl⟩
  ·have q:=h.nd.cell 1 _ rfl
   rw [hta.out] at q
   exact q
  ·have q:=h.nd.cell 2 _ rfl
   rw [htb.out] at q
   exact q
 have hta3:(ta:Int)<(n:Int):=by omega
 have htb3:(tb:Int)<(n:Int):=by omega
 have cf:∀W,FFt w0 fb bn on n CN A0 m C0 A1 C1 A2 C2 S g KN Q vr L w nb eb x Ae Ce W->Calls Try.prog 46 #[.pointer (some ⟨fb,0,none⟩),.int .i64 (ta:Int)] W fun r w'=>r=.returned (.bool (frB (X ta)))/\w'=W:=fun W h=>ffree_w fb (some ⟨bn,on,none⟩) n CN X ta hta2 hf W (VN.keep h.t.hb) (h.t.fd.cell 0 _ rfl)
 have cf2:∀W,FFt w0 fb bn on n CN A0 m C0 A1 C1 A2 C2 S g KN Q vr L w nb eb x Ae Ce W->Calls Try.prog 46 #[.pointer (some ⟨fb,0,none⟩),.int .i64 (tb:Int)] W fun r w'=>r=.returned (.bool (frB (X tb)))/\w'=W:=fun W h=>ffree_w fb (some ⟨bn,on,none⟩) n CN X tb htb2 hf2 W (VN.keep h.t.hb) (h.t.fd.cell 0 _ rfl)
 have y1:=(hS _ U).2.1
 have y2:=(hS _ U).2.2.1
 rw [hfr] at cf
 rw [hfr2] at cf2
 go_upto_region 18 with (go_at_call 46;(with_reducible refine (cf _ U).mono ?_);rintro _ W6 ⟨rfl,hW6⟩;rw [hW6];clear hW6)
 go_upto_region 22 with (go_at_call 46;(with_reducible refine (cf2 _ U).mono ?_);rintro _ W6 ⟨rfl,hW6⟩;rw [hW6];clear hW6)
 clear y0 y1 y2 fa fbb cf cf2
 refine held_tail 8 (fun W=>W.cell? ⟨fb,18,none⟩=some (.slice (some ⟨g,0,none⟩) n n)/\W.cell? ⟨nb,1,none⟩=some (.int .i64 (ta:Int))/\W.cell? ⟨nb,2,none⟩=some (.int .i64 (tb:Int))/\(∀j u,(fmL (.slice Aa m ca) (Q ta).1)[j]?=some u->W.cell? ⟨g,ta*15+j,none⟩=some u)/\(∀j u,(fmL (.slice Ab m cb) (Q tb).1)[j]?=some u->W.cell? ⟨g,tb*15+j,none⟩=some u)) (by kernel_rfl) (by kernel_rfl) (hS _ (U.keep (Below.refl _ _).drew)) (fun hHeld=>?_)
 simp only [List.take_succ_cons,List.take_zero,List.drop_succ_cons,List.drop_zero]
 replace U:=U.keep (Below.refl _ _).drew
 refine tk (v:=?_) 0 rfl ?_ hHeld ?_;rotate_left;(focus ((intro w hSw;(try dsimp only at hSw);go_simp);try with_reducible rfl));simp only[gA,gB,Act.put,gD,gE,gF];refine tk (v:=?_) 1 rfl ?_ hHeld ?_;rotate_left;(focus ((intro w hSw;(try dsimp only at hSw);go_simp);try with_reducible rfl));simp only[gA,gB,gC,Act.put,gD,gE,gF];refine tk (v:=?_) 2 rfl ?_ hHeld ?_;rotate_left;(focus ((intro w hSw;(try dsimp only at hSw);go_simp);try with_reducible rfl));simp only[gA,gB,gC,Act.put,gD,gE,gF];refine tk (v:=?_) 3 rfl ?_ hHeld ?_;rotate_left;(focus ((intro w hSw;(try dsimp only at hSw);go_simp);try with_reducible rfl));simp only[gA,gB,gC,Act.put,gD,gE,gF];refine tk (v:=?_) 4 rfl ?_ hHeld ?_;rotate_left;(focus ((intro w hSw;(try dsimp only at hSw);go_simp);try with_reducible rfl));simp only[gA,gB,gC,Act.put,gD,gE,gF];refine tk (v:=?_) 5 rfl ?_ hHeld ?_;rotate_left;(focus ((intro w hSw;(try dsimp only at hSw);go_simp);try with_reducible rfl));simp only[gA,gB,gC,Act.put,gD,gE,gF];refine tk (v:=?_) 6 rfl ?_ hHeld ?_;rotate_left;(focus ((intro w hSw;(try dsimp only at hSw);go_simp);try with_reducible rfl));simp only[gA,gB,gC,Act.put,gD,gE,gF]
 refine wpAnyH_take (i:=7) (v:=fmV (.slice Aa m ca) (Q ta).1) rfl (by kernel_rfl) (by kernel_rfl) (by kernel_rfl) (fun _ _ _ h=>h) (yields_loadBig (by rfl) _ 58 (by rfl) Try.underlying58 (fmL (.slice Aa m ca) (Q ta).1) (by kernel_rfl) (by rfl) (fun W hS2=>hS2.2.2.2.1) (fm_val _ _)) hHeld ?_;simp only[gA,gB,gC,Act.put,gD,gE,gF]
 refine wpAnyH_done (by kernel_rfl) ?_ _
 show wpList _ _ _ _ _ _
 have RB5:=U.rb
 go_wp2_with (first
  | (refine wpList_storeBig (by rfl) _ _ 58 (by rfl) (RB5) (fmL (.slice Aa m ca) (Q ta).1) (by kernel_rfl) (by rfl) (by rfl) (by rfl) (by rfl) ?_;rintro V6 XR hs2 hB2 hk2))
 have HB6:=hB2 _ _ U.hw (Nat.le_refl _)
 exact bodyPost_ret (v:=.tuple #[fmV (.slice Aa m ca) (Q ta).1,.bool true]) (results_cell_tmp Try.results25 _ V6 w.heap.size 58 (fmL (.slice Aa m ca) (Q ta).1).toArray (0,0) _ (by rfl) XR Try.underlying58 (by rfl) (by kernel_rfl) (by rfl)) rfl ⟨⟨Aa,ca,vr,[],rfl,(ra.keep U.hw).other RB5 (by decide) hk2,by rw [List.append_nil];exact T0.keep HB6,rfl⟩,HB6.mono (by omega)⟩
set_option maxRecDepth 4000 in
set_option maxHeartbeats 6000000 in
theorem fform_addj {G:Nat->Bool} (w0:World) (fb bn on n CN:Nat) (A0:Option Addr) (m C0:Nat) (A1:Option Addr) (C1:Nat) (A2:Option Addr) (C2:Nat) (S:Nat->Int×Int) (g:Nat) (KN:Nat->Prop) (Q:Nat->Pro) (vr:Value) (L:List FV) (X:Nat->Nd) (x:Nd) (i:Nat) (hm:m<=500) (hi:i<n) (hx:x=X i) (w:World) (VN:Nds w0 (some ⟨bn,on,none⟩) n X) (T:FSt w0 fb (some ⟨bn,on,none⟩) n CN A0 m C0 A1 C1 A2 C2 S g KN Q vr L w) (hk:x.k=3) (hKa:KN x.a.toNat) (hKb:KN x.b.toNat) (h0a:0<=x.a) (h0b:0<=x.b) (hf:(X x.a.toNat).k=1->rightR (X x.a.toNat).q (X x.a.toNat).p=true) (hf2:(X x.b.toNat).k=1->rightR (X x.b.toNat).q (X x.b.toNat).p=true) (pa:POk (m:Int) (Q x.a.toNat)) (pb:POk (m:Int) (Q x.b.toNat)) (gb:FG G (Q x.b.toNat).2) (hfr:frB (X x.a.toNat)=false) (hfr2:frB (X x.b.toNat)=false) (hL:L.length<=100000) :
  Calls Try.prog 25 #[.pointer (some ⟨fb,0,none⟩),.int .i64 (i:Int)] w fun r w'=>FmAns w0 fb (some ⟨bn,on,none⟩) n CN A0 m C0 A1 C1 A2 C2 S g KN Q L r w' ((timesP (Q x.a.toNat) (Q x.b.toNat) (-1,1)).map fun Y=>(Q x.a.toNat,[Y]))/\Below fb w w':=by
 have hfb:fb<w.heap.size:=T.fd.lt
 obtain⟨ta,hta⟩:∃ta:Nat,Hid (x.a=(ta:Int)):=⟨x.a.toNat,by show _=_;omega⟩
 obtain⟨tb,htb⟩:∃tb:Nat,Hid (x.b=(tb:Int)):=⟨x.b.toNat,by show _=_;omega⟩
 have ea:x.a.toNat=ta:=by have:=hta.out;omega
 have ebb:x.b.toNat=tb:=by have:=htb.out;omega
 rw [ea] at hKa hf
 rw [ebb] at hKb hf2
 rw [ea] at hfr pa ⊢
 rw [ebb] at hfr2 pb gb ⊢
 obtain⟨TT,hTT⟩:∃TT,Hid (timesP (Q ta) (Q tb) (-1,1)=TT):=⟨_,rfl⟩
 rw [hTT.out]
 have HPA:Hid (POk (m:Int) (Q ta)/\POk (m:Int) (Q tb)/\FG G (Q tb).2):=⟨pa,pb,gb⟩
 have cw:=fun W=>dwhole_w (-1) W
 have a0:∀b,w.heap.size<=b->ApartF vr b:=fun b hb=>T.ow.apart hb
 clear pa pb gb ea ebb h0a h0b
 obtain⟨b,o,hA,hb, -⟩:=(VN.keep T.hb) i hi
 have hb0:bn=b:=by injection hA with hA;injection hA with hA
 subst hb0
 have xc:Hid (∀j c,(ndL x)[j]?=some c->w.cell? ⟨bn,on+i*22+j,none⟩=some c):=by rw [hx];exact ((VN.keep T.hb).at (i:=i) hi).2
 clear hA
 replace hx:Hid (x=X i):=hx
 have hlt:(i:Int)<(n:Int):=by omega
 have ce:=fun W=>fempty_w m hm W
 have T0:=T
 obtain⟨RB,HB⟩:=blks1 w 58 [.slice none 0 0,.int .i64 0,.int .i64 0,.int .i64 0,.int .i64 0,.int .i64 0,.int .i64 0,.int .i64 0,.int .i64 0,.int .i64 0,.int .i64 0,.int .i64 0,.int .i64 0,.int .i64 0,.int .i64 0]
 go_enter Try.func25,Try.ntmps25
 go_upto_region 1 with fail
 generalize (w.alloc (.cells #[.slice none 0 0,.int .i64 0,.int .i64 0,.int .i64 0,.int .i64 0,.int .i64 0,.int .i64 0,.int .i64 0,.int .i64 0,.int .i64 0,.int .i64 0,.int .i64 0,.int .i64 0,.int .i64 0,.int .i64 0] 58))=V1 at *
 replace T:=T.keep HB
 have c0:=T.fd.cell 0 _ rfl
 have hrl:w.heap.size<V1.heap.size:=RB.lt
 have xl:bn<V1.heap.size:=Nat.lt_of_lt_of_le hb HB.size
 replace xc:Hid (∀j c,(ndL x)[j]?=some c->V1.cell? ⟨bn,on+i*22+j,none⟩=some c):=fun j c hj=>keepsC HB (xc.out j c hj) hb
 go_upto_region 2 with (first
  | (refine wpList_loadBig (by rfl) _ 54 (by rfl) Try.underlying54 (ndL x) (by kernel_rfl) (by rfl) (xc.out) (nd_val x) ?_)
  | (refine wpList_storeBig (by rfl) _ _ 54 (by rfl) (blk_new _ _ _) (ndL x) (by kernel_rfl) (by rfl) (by rfl) (by rfl) (by rfl) ?_;rintro V2 XR hs2 hB2 hk2))
 have grw:Below V1.heap.size V1 V2:=hB2 _ _ (Below.alloc (Below.refl _ _) (Nat.le_refl _) _) (Nat.le_refl _)
 have XN:=XR
 obtain⟨nb,hnb⟩:∃nb,nb=V1.heap.size:=⟨_,rfl⟩
 have hnb2:w.heap.size<nb:=by omega
 rw [<-hnb] at XN ⊢
 replace T:=T.keep grw
 replace RB:=RB.keeps grw
 replace HB:=later HB grw
 clear XR hB2 hk2 hs2 grw c0 xc xl hrl hnb
 have c1:=T.fd.cell 1 _ rfl
 try simp only [Act.put]
 go_upto_region 3 with (first
  | (go_at_call 24;(with_reducible refine (ce _).mono ?_);rintro _ W3 ⟨⟨ve,rfl,Ie⟩,hb2⟩;have hw2:w.heap.size<=V2.heap.size:=HB.size;replace HB:=later HB hb2;replace RB:=RB.keeps hb2;replace XN:=XN.keeps hb2;replace T:=T.keep hb2;replace Ie:=Ie.base hw2;clear hb2 c1 hw2;obtain⟨Ae,Ce,e7, -,re,hAe⟩:=Ie.form;rw [List.length_replicate] at e7 re hAe;subst e7;clear Ie)
  | (refine wpList_storeBig (by rfl) _ _ 58 (by rfl) (blk_new _ _ _) (fmL (.slice Ae m Ce) plE) (by kernel_rfl) (by rfl) (by rfl) (by rfl) (by rfl) ?_;rintro V4 XR hs2 hB2 hk2))
 replace re:RtAt W3 Ae m (fun _=>(0,1)):=re.congr fun u hu=>by rw [List.getD_eq_getElem?_getD,List.getElem?_replicate,if_pos hu];rfl
 have grw:Below W3.heap.size W3 V4:=hB2 _ _ (Below.alloc (Below.refl _ _) (Nat.le_refl _) _) (Nat.le_refl _)
 have XE:=XR
 obtain⟨eb,heb⟩:∃eb,eb=W3.heap.size:=⟨_,rfl⟩
 have hnl:nb<W3.heap.size:=XN.lt
 have heb2:nb<eb:=by omega
 rw [<-heb] at XE ⊢
 have U:FFt w0 fb bn on n CN A0 m C0 A1 C1 A2 C2 S g KN Q vr L w nb eb x Ae Ce V4:=⟨T.keep grw,XN.keeps grw,XE,RB.keeps grw,re.keep grw,later HB grw,hnb2,heb2⟩
 clear XR hB2 hk2 hs2 grw XN XE RB T re HB heb hnb2 heb2 hnl ce
 try simp only [Act.put]
 have y0:V4.cell? ⟨nb,0,none⟩=some (.int .i64 x.k):=U.nd.cell 0 _ rfl
 rw [hk] at y0
 replace hk:Hid (x.k=3):=hk
 go_upto_region 16 with fail
 obtain⟨hta2,hgl,Aa,ca,ra,fa⟩:=T0.fs.at hKa
 obtain⟨htb2, -,Ab,cb,rb,fbb⟩:=T0.fs.at hKb
 have hS:∀W,FFt w0 fb bn on n CN A0 m C0 A1 C1 A2 C2 S g KN Q vr L w nb eb x Ae Ce W->(fun W=>W.cell? ⟨fb,18,none⟩=some (.slice (some ⟨g,0,none⟩) n n)/\W.cell? ⟨nb,1,none⟩=some (.int .i64 (ta:Int))/\W.cell? ⟨nb,2,none⟩=some (.int .i64 (tb:Int))/\(∀j u,(fmL (.slice Aa m ca) (Q ta).1)[j]?=some u->W.cell? ⟨g,ta*15+j,none⟩=some u)/\(∀j u,(fmL (.slice Ab m cb) (Q tb).1)[j]?=some u->W.cell? ⟨g,tb*15+j,none⟩=some u)) W:=fun W h=>by
  refine⟨h.t.fd.cell 18 _ rfl, ?_, ?_,fun j u hj=>keepsC h.hw (fa j u hj) hgl,fun j u hj=>keepsC h.hw (fbb j u hj) hgl⟩
  ·have q:=h.nd.cell 1 _ rfl
   rw [hta.out] at q
   exact q
  ·have q:=h.nd.cell 2 _ rfl
   rw [htb.out] at q
   exact q
 have hta3:(ta:Int)<(n:Int):=by omega
 have htb3:(tb:Int)<(n:Int):=by omega
 have cf:∀W,FFt w0 fb bn on n CN A0 m C0 A1 C1 A2 C2 S g KN Q vr L w nb eb x Ae Ce W->Calls Try.prog 46 #[.pointer (some ⟨fb,0,none⟩),.int .i64 (ta:Int)] W fun r w'=>r=.returned (.bool (frB (X ta)))/\w'=W:=fun W h=>ffree_w fb (some ⟨bn,on,none⟩) n CN X ta hta2 hf W (VN.keep h.t.hb) (h.t.fd.cell 0 _ rfl)
 have cf2:∀W,FFt w0 fb bn on n CN A0 m C0 A1 C1 A2 C2 S g KN Q vr L w nb eb x Ae Ce W->Calls Try.prog 46 #[.pointer (some ⟨fb,0,none⟩),.int .i64 (tb:Int)] W fun r w'=>r=.returned (.bool (frB (X tb)))/\w'=W:=fun W h=>ffree_w fb (some ⟨bn,on,none⟩) n CN X tb htb2 hf2 W (VN.keep h.t.hb) (h.t.fd.cell 0 _ rfl)
 have y1:=(hS _ U).2.1
 have y2:=(hS _ U).2.2.1
 have cj:∀W,FFt w0 fb bn on n CN A0 m C0 A1 C1 A2 C2 S g KN Q vr L w nb eb x Ae Ce W->Calls Try.prog 45 #[fmV (.slice Aa m ca) (Q ta).1,fmV (.slice Ab m cb) (Q tb).1,.agg #[.int .i64 (-1),.int .i64 1]] W fun r w'=>PjAns r w' m TT/\Below W.heap.size W w':=fun W h=>by
  rw [<-hTT.out]
  exact fjoin_w m hm (Q ta) (Q tb) (-1,1) HPA.out.1 HPA.out.2.1 HPA.out.2.2 rok_mone Aa Ab ca cb W (ra.keep h.hw) (rb.keep h.hw)
 rw [hfr] at cf
 rw [hfr2] at cf2
 go_upto_region 18 with (go_at_call 46;(with_reducible refine (cf _ U).mono ?_);rintro _ W6 ⟨rfl,hW6⟩;rw [hW6];clear hW6)
 go_upto_region 19 with (go_at_call 46;(with_reducible refine (cf2 _ U).mono ?_);rintro _ W6 ⟨rfl,hW6⟩;rw [hW6];clear hW6)
 have fah:Hid (∀j u,(fmL (.slice Aa m ca) (Q ta).1)[j]?=some u->w.cell? ⟨g,ta*15+j,none⟩=some u):=fa
 clear y0 y1 y2 fa fbb cf cf2 rb
 generalize V4=V2 at *
 go_cut [8,9] from 98 to 118 (fun s8 s9 wx=>∃xb A9 C9 E9 ok,s8=.pointer (some ⟨xb,0,none⟩)/\s9=.bool ok/\w.heap.size<xb/\FFt w0 fb bn on n CN A0 m C0 A1 C1 A2 C2 S g KN Q vr L w nb eb x Ae Ce wx/\BlkAt wx xb 58 (fmL (.slice A9 m C9) E9)/\JoinR TT ok A9 E9 m wx)
 case first =>
  refine wp_region_held_drew (S:=fun W=>W.cell? ⟨fb,18,none⟩=some (.slice (some ⟨g,0,none⟩) n n)/\W.cell? ⟨nb,1,none⟩=some (.int .i64 (ta:Int))/\W.cell? ⟨nb,2,none⟩=some (.int .i64 (tb:Int))/\(∀j u,(fmL (.slice Aa m ca) (Q ta).1)[j]?=some u->W.cell? ⟨g,ta*15+j,none⟩=some u)/\(∀j u,(fmL (.slice Ab m cb) (Q tb).1)[j]?=some u->W.cell? ⟨g,tb*15+j,none⟩=some u)) (by kernel_rfl) (hS _ (U.keep (Below.refl _ _).drew)) (fun hHeld=>?_)
  replace U:=U.keep (Below.refl _ _).drew
  generalize V2.drew=V4 at *
  refine tk (v:=?_) 0 rfl ?_ hHeld ?_;rotate_left;(focus ((intro w hSw;(try dsimp only at hSw);go_simp);try with_reducible rfl));simp only[gA,gB,Act.put,gD,gE,gF];refine tk (v:=?_) 1 rfl ?_ hHeld ?_;rotate_left;(focus ((intro w hSw;(try dsimp only at hSw);go_simp);try with_reducible rfl));simp only[gA,gB,gC,Act.put,gD,gE,gF];refine tk (v:=?_) 2 rfl ?_ hHeld ?_;rotate_left;(focus ((intro w hSw;(try dsimp only at hSw);go_simp);try with_reducible rfl));simp only[gA,gB,gC,Act.put,gD,gE,gF];refine tk (v:=?_) 3 rfl ?_ hHeld ?_;rotate_left;(focus ((intro w hSw;(try dsimp only at hSw);go_simp);try with_reducible rfl));simp only[gA,gB,gC,Act.put,gD,gE,gF];refine tk (v:=?_) 4 rfl ?_ hHeld ?_;rotate_left;(focus ((intro w hSw;(try dsimp only at hSw);go_simp);try with_reducible rfl));simp only[gA,gB,gC,Act.put,gD,gE,gF];refine tk (v:=?_) 5 rfl ?_ hHeld ?_;rotate_left;(focus ((intro w hSw;(try dsimp only at hSw);go_simp);try with_reducible rfl));simp only[gA,gB,gC,Act.put,gD,gE,gF];refine tk (v:=?_) 6 rfl ?_ hHeld ?_;rotate_left;(focus ((intro w hSw;(try dsimp only at hSw);go_simp);try with_reducible rfl));simp only[gA,gB,gC,Act.put,gD,gE,gF]
  refine wpAnyH_take (i:=7) (v:=fmV (.slice Aa m ca) (Q ta).1) rfl (by kernel_rfl) (by kernel_rfl) (by kernel_rfl) (fun _ _ _ h=>h) (yields_loadBig (by rfl) _ 58 (by rfl) Try.underlying58 (fmL (.slice Aa m ca) (Q ta).1) (by kernel_rfl) (by rfl) (fun W hS2=>hS2.2.2.2.1) (fm_val _ _)) hHeld ?_;simp only[gA,gB,gC,Act.put,gD,gE,gF]
  refine tk (v:=?_) 8 rfl ?_ hHeld ?_;rotate_left;(focus ((intro w hSw;(try dsimp only at hSw);go_simp);try with_reducible rfl));simp only[gA,gB,gC,Act.put,gD,gE,gF];refine tk (v:=?_) 9 rfl ?_ hHeld ?_;rotate_left;(focus ((intro w hSw;(try dsimp only at hSw);go_simp);try with_reducible rfl));simp only[gA,gB,gC,Act.put,gD,gE,gF];refine tk (v:=?_) 10 rfl ?_ hHeld ?_;rotate_left;(focus ((intro w hSw;(try dsimp only at hSw);go_simp);try with_reducible rfl));simp only[gA,gB,gC,Act.put,gD,gE,gF];refine tk (v:=?_) 11 rfl ?_ hHeld ?_;rotate_left;(focus ((intro w hSw;(try dsimp only at hSw);go_simp);try with_reducible rfl));simp only[gA,gB,gC,Act.put,gD,gE,gF];refine tk (v:=?_) 12 rfl ?_ hHeld ?_;rotate_left;(focus ((intro w hSw;(try dsimp only at hSw);go_simp);try with_reducible rfl));simp only[gA,gB,gC,Act.put,gD,gE,gF];refine tk (v:=?_) 13 rfl ?_ hHeld ?_;rotate_left;(focus ((intro w hSw;(try dsimp only at hSw);go_simp);try with_reducible rfl));simp only[gA,gB,gC,Act.put,gD,gE,gF];refine tk (v:=?_) 14 rfl ?_ hHeld ?_;rotate_left;(focus ((intro w hSw;(try dsimp only at hSw);go_simp);try with_reducible rfl));simp only[gA,gB,gC,Act.put,gD,gE,gF]
  refine wpAnyH_take (i:=15) (v:=fmV (.slice Ab m cb) (Q tb).1) rfl (by kernel_rfl) (by kernel_rfl) (by kernel_rfl) (fun _ _ _ h=>h) (yields_loadBig (by rfl) _ 58 (by rfl) Try.underlying58 (fmL (.slice Ab m cb) (Q tb).1) (by kernel_rfl) (by rfl) (fun W hS2=>hS2.2.2.2.2) (fm_val _ _)) hHeld ?_;simp only[gA,gB,gC,Act.put,gD,gE,gF]
  refine wpAnyH_ready (rs:=[16,21]) (by kernel_rfl) (by simp) ?_
  refine AllReadyH.cons rfl (fun K hK=>?_) (AllReadyH.cons rfl (fun K hK=>?_) AllReadyH.nil)
  ·simp only[gA,gB,gC,Act.put,gD,gE,gF]
   go_simp
   go_at_call 44
   (with_reducible refine (cw _).mono ?_)
   rintro _ W8 ⟨rfl,hb1⟩
   replace U:=U.keep hb1
   skip
   clear hb1
   dsimp only
   refine hK.out _ _ (hS _ U) (fun hHeld=>?_)
   clear hK K
   refine wpAnyH_ready (rs:=[17,21]) (by kernel_rfl) (by simp) ?_
   refine AllReadyH.cons rfl (fun K hK=>?_) (AllReadyH.cons rfl (fun K hK=>?_) AllReadyH.nil)
   ·simp only[gA,gB,gC,Act.put,gD,gE,gF]
    go_simp
    go_at_call 45
    (with_reducible refine (cj _ U).mono ?_)
    rintro r W9 ⟨hM,hb1⟩
    replace U:=U.keep hb1
    obtain⟨A9,C9,E9,ok,hr,hJ⟩:=pj_join hM
    replace hr:r=.returned (.tuple #[.agg #[.slice A9 m C9,.int .i64 (E9 0).1,.int .i64 (E9 0).2,.int .i64 (E9 1).1,.int .i64 (E9 1).2,.int .i64 (E9 2).1,.int .i64 (E9 2).2,.int .i64 (E9 3).1,.int .i64 (E9 3).2,.int .i64 (E9 4).1,.int .i64 (E9 4).2,.int .i64 (E9 5).1,.int .i64 (E9 5).2,.int .i64 (E9 6).1,.int .i64 (E9 6).2],.bool ok]):=hr
    subst hr
    clear hM
    skip
    clear hb1
    dsimp only
    refine hK.out _ _ (hS _ U) (fun hHeld=>?_)
    clear hK K
    refine tk (v:=?_) 18 rfl ?_ hHeld ?_;rotate_left;(focus ((intro w hSw;(try dsimp only at hSw);go_simp);try with_reducible rfl));simp only[gA,gB,gC,Act.put,gD,gE,gF];refine tk (v:=?_) 19 rfl ?_ hHeld ?_;rotate_left;(focus ((intro w hSw;(try dsimp only at hSw);go_simp);try with_reducible rfl));simp only[gA,gB,gC,Act.put,gD,gE,gF];refine tk (v:=?_) 20 rfl ?_ hHeld ?_;rotate_left;(focus ((intro w hSw;(try dsimp only at hSw);go_simp);try with_reducible rfl));simp only[gA,gB,gC,Act.put,gD,gE,gF]
    refine rd 21 rfl (fun K hK=>?_);simp only[gA,gB,gC,Act.put,gD,gE,gF];go_simp
    have U0:=U
    have hh:Below W9.heap.size W9 (W9.alloc (.cells #[.slice none 0 0,.int .i64 0,.int .i64 0,.int .i64 0,.int .i64 0,.int .i64 0,.int .i64 0,.int .i64 0,.int .i64 0,.int .i64 0,.int .i64 0,.int .i64 0,.int .i64 0,.int .i64 0,.int .i64 0] 58)):=Below.alloc (Below.refl _ _) (Nat.le_refl _) _
    have nbk:BlkAt (W9.alloc (.cells #[.slice none 0 0,.int .i64 0,.int .i64 0,.int .i64 0,.int .i64 0,.int .i64 0,.int .i64 0,.int .i64 0,.int .i64 0,.int .i64 0,.int .i64 0,.int .i64 0,.int .i64 0,.int .i64 0,.int .i64 0] 58)) W9.heap.size 58 [.slice none 0 0,.int .i64 0,.int .i64 0,.int .i64 0,.int .i64 0,.int .i64 0,.int .i64 0,.int .i64 0,.int .i64 0,.int .i64 0,.int .i64 0,.int .i64 0,.int .i64 0,.int .i64 0,.int .i64 0]:=blk_new _ _ _
    have hlo:w.heap.size<W9.heap.size:=U.rb.lt
    replace U:=U.keep hh
    replace hJ:=hJ.keep hh
    refine hK.out _ _ (hS _ U) (fun hHeld=>?_)
    clear hK K
    refine rd 22 rfl (fun K hK=>?_)
    refine step_storeBig (by rfl) _ _ 58 (by rfl) nbk (fmL (.slice A9 m C9) E9) (by kernel_rfl) (by rfl) (by rfl) (by rfl) (by rfl) ?_
    rintro V5 XR hs2 hB2 hk2
    have hb2:=hB2 _ _ hh (Nat.le_refl _)
    replace hJ:=hJ.other nbk hk2
    clear U
    have U:=U0.keep hb2
    obtain⟨xb,hxb⟩:∃xb,xb=W9.heap.size:=⟨_,rfl⟩
    rw [<-hxb] at XR hlo ⊢
    clear hb2 hB2 hk2 hs2 nbk hh hxb U0
    refine hK.out _ _ (hS _ U) (fun hHeld=>?_)
    clear hK K
    refine tk (v:=?_) 23 rfl ?_ hHeld ?_;rotate_left;(focus ((intro w hSw;(try dsimp only at hSw);go_simp);try with_reducible rfl));simp only[gA,gB,gC,Act.put,gD,gE,gF]
    refine wpAnyH_done (by kernel_rfl) ?_ _
    go_wp2_with fail
    go_meet
    case rel=>exact⟨xb,A9,C9,E9,ok,rfl,rfl,hlo,U,XR,hJ⟩
   ·simp only[gA,gB,gC,Act.put,gD,gE,gF]
    go_simp
    have U0:=U
    have hh:Below W8.heap.size W8 (W8.alloc (.cells #[.slice none 0 0,.int .i64 0,.int .i64 0,.int .i64 0,.int .i64 0,.int .i64 0,.int .i64 0,.int .i64 0,.int .i64 0,.int .i64 0,.int .i64 0,.int .i64 0,.int .i64 0,.int .i64 0,.int .i64 0] 58)):=Below.alloc (Below.refl _ _) (Nat.le_refl _) _
    have nbk:BlkAt (W8.alloc (.cells #[.slice none 0 0,.int .i64 0,.int .i64 0,.int .i64 0,.int .i64 0,.int .i64 0,.int .i64 0,.int .i64 0,.int .i64 0,.int .i64 0,.int .i64 0,.int .i64 0,.int .i64 0,.int .i64 0,.int .i64 0] 58)) W8.heap.size 58 [.slice none 0 0,.int .i64 0,.int .i64 0,.int .i64 0,.int .i64 0,.int .i64 0,.int .i64 0,.int .i64 0,.int .i64 0,.int .i64 0,.int .i64 0,.int .i64 0,.int .i64 0,.int .i64 0,.int .i64 0]:=blk_new _ _ _
    have hlo:w.heap.size<W8.heap.size:=U.rb.lt
    replace U:=U.keep hh
    skip
    refine hK.out _ _ (hS _ U) (fun hHeld=>?_)
    clear hK K
    refine rd 17 rfl (fun K hK=>?_);simp only[gA,gB,gC,Act.put,gD,gE,gF];go_simp
    go_at_call 45
    (with_reducible refine (cj _ U).mono ?_)
    rintro r W9 ⟨hM,hb1⟩
    replace U:=U.keep hb1
    obtain⟨A9,C9,E9,ok,hr,hJ⟩:=pj_join hM
    replace hr:r=.returned (.tuple #[.agg #[.slice A9 m C9,.int .i64 (E9 0).1,.int .i64 (E9 0).2,.int .i64 (E9 1).1,.int .i64 (E9 1).2,.int .i64 (E9 2).1,.int .i64 (E9 2).2,.int .i64 (E9 3).1,.int .i64 (E9 3).2,.int .i64 (E9 4).1,.int .i64 (E9 4).2,.int .i64 (E9 5).1,.int .i64 (E9 5).2,.int .i64 (E9 6).1,.int .i64 (E9 6).2],.bool ok]):=hr
    subst hr
    clear hM
    replace hh:=later hh hb1;replace nbk:=nbk.keeps hb1
    clear hb1
    dsimp only
    refine hK.out _ _ (hS _ U) (fun hHeld=>?_)
    clear hK K
    refine tk (v:=?_) 18 rfl ?_ hHeld ?_;rotate_left;(focus ((intro w hSw;(try dsimp only at hSw);go_simp);try with_reducible rfl));simp only[gA,gB,gC,Act.put,gD,gE,gF];refine tk (v:=?_) 19 rfl ?_ hHeld ?_;rotate_left;(focus ((intro w hSw;(try dsimp only at hSw);go_simp);try with_reducible rfl));simp only[gA,gB,gC,Act.put,gD,gE,gF];refine tk (v:=?_) 20 rfl ?_ hHeld ?_;rotate_left;(focus ((intro w hSw;(try dsimp only at hSw);go_simp);try with_reducible rfl));simp only[gA,gB,gC,Act.put,gD,gE,gF]
    refine rd 22 rfl (fun K hK=>?_)
    refine step_storeBig (by rfl) _ _ 58 (by rfl) nbk (fmL (.slice A9 m C9) E9) (by kernel_rfl) (by rfl) (by rfl) (by rfl) (by rfl) ?_
    rintro V5 XR hs2 hB2 hk2
    have hb2:=hB2 _ _ hh (Nat.le_refl _)
    replace hJ:=hJ.other nbk hk2
    clear U
    have U:=U0.keep hb2
    obtain⟨xb,hxb⟩:∃xb,xb=W8.heap.size:=⟨_,rfl⟩
    rw [<-hxb] at XR hlo ⊢
    clear hb2 hB2 hk2 hs2 nbk hh hxb U0
    refine hK.out _ _ (hS _ U) (fun hHeld=>?_)
    clear hK K
    refine tk (v:=?_) 23 rfl ?_ hHeld ?_;rotate_left;(focus ((intro w hSw;(try dsimp only at hSw);go_simp);try with_reducible rfl));simp only[gA,gB,gC,Act.put,gD,gE,gF]
    refine wpAnyH_done (by kernel_rfl) ?_ _
    go_wp2_with fail
    go_meet
    case rel=>exact⟨xb,A9,C9,E9,ok,rfl,rfl,hlo,U,XR,hJ⟩
  ·simp only[gA,gB,gC,Act.put,gD,gE,gF]
   go_simp
   have U0:=U
   have hh:Below V4.heap.size V4 (V4.alloc (.cells #[.slice none 0 0,.int .i64 0,.int .i64 0,.int .i64 0,.int .i64 0,.int .i64 0,.int .i64 0,.int .i64 0,.int .i64 0,.int .i64 0,.int .i64 0,.int .i64 0,.int .i64 0,.int .i64 0,.int .i64 0] 58)):=Below.alloc (Below.refl _ _) (Nat.le_refl _) _
   have nbk:BlkAt (V4.alloc (.cells #[.slice none 0 0,.int .i64 0,.int .i64 0,.int .i64 0,.int .i64 0,.int .i64 0,.int .i64 0,.int .i64 0,.int .i64 0,.int .i64 0,.int .i64 0,.int .i64 0,.int .i64 0,.int .i64 0,.int .i64 0] 58)) V4.heap.size 58 [.slice none 0 0,.int .i64 0,.int .i64 0,.int .i64 0,.int .i64 0,.int .i64 0,.int .i64 0,.int .i64 0,.int .i64 0,.int .i64 0,.int .i64 0,.int .i64 0,.int .i64 0,.int .i64 0,.int .i64 0]:=blk_new _ _ _
   have hlo:w.heap.size<V4.heap.size:=U.rb.lt
   replace U:=U.keep hh
   skip
   refine hK.out _ _ (hS _ U) (fun hHeld=>?_)
   clear hK K
   refine rd 16 rfl (fun K hK=>?_);simp only[gA,gB,gC,Act.put,gD,gE,gF];go_simp
   go_at_call 44
   (with_reducible refine (cw _).mono ?_)
   rintro _ W8 ⟨rfl,hb1⟩
   replace U:=U.keep hb1
   replace hh:=later hh hb1;replace nbk:=nbk.keeps hb1
   clear hb1
   dsimp only
   refine hK.out _ _ (hS _ U) (fun hHeld=>?_)
   clear hK K
   refine rd 17 rfl (fun K hK=>?_);simp only[gA,gB,gC,Act.put,gD,gE,gF];go_simp
   go_at_call 45
   (with_reducible refine (cj _ U).mono ?_)
   rintro r W9 ⟨hM,hb1⟩
   replace U:=U.keep hb1
   obtain⟨A9,C9,E9,ok,hr,hJ⟩:=pj_join hM
   replace hr:r=.returned (.tuple #[.agg #[.slice A9 m C9,.int .i64 (E9 0).1,.int .i64 (E9 0).2,.int .i64 (E9 1).1,.int .i64 (E9 1).2,.int .i64 (E9 2).1,.int .i64 (E9 2).2,.int .i64 (E9 3).1,.int .i64 (E9 3).2,.int .i64 (E9 4).1,.int .i64 (E9 4).2,.int .i64 (E9 5).1,.int .i64 (E9 5).2,.int .i64 (E9 6).1,.int .i64 (E9 6).2],.bool ok]):=hr
   subst hr
   clear hM
   replace hh:=later hh hb1;replace nbk:=nbk.keeps hb1
   clear hb1
   dsimp only
   refine hK.out _ _ (hS _ U) (fun hHeld=>?_)
   clear hK K
   refine tk (v:=?_) 18 rfl ?_ hHeld ?_;rotate_left;(focus ((intro w hSw;(try dsimp only at hSw);go_simp);try with_reducible rfl));simp only[gA,gB,gC,Act.put,gD,gE,gF];refine tk (v:=?_) 19 rfl ?_ hHeld ?_;rotate_left;(focus ((intro w hSw;(try dsimp only at hSw);go_simp);try with_reducible rfl));simp only[gA,gB,gC,Act.put,gD,gE,gF];refine tk (v:=?_) 20 rfl ?_ hHeld ?_;rotate_left;(focus ((intro w hSw;(try dsimp only at hSw);go_simp);try with_reducible rfl));simp only[gA,gB,gC,Act.put,gD,gE,gF]
   refine rd 22 rfl (fun K hK=>?_)
   refine step_storeBig (by rfl) _ _ 58 (by rfl) nbk (fmL (.slice A9 m C9) E9) (by kernel_rfl) (by rfl) (by rfl) (by rfl) (by rfl) ?_
   rintro V5 XR hs2 hB2 hk2
   have hb2:=hB2 _ _ hh (Nat.le_refl _)
   replace hJ:=hJ.other nbk hk2
   clear U
   have U:=U0.keep hb2
   obtain⟨xb,hxb⟩:∃xb,xb=V4.heap.size:=⟨_,rfl⟩
   rw [<-hxb] at XR hlo ⊢
   clear hb2 hB2 hk2 hs2 nbk hh hxb U0
   refine hK.out _ _ (hS _ U) (fun hHeld=>?_)
   clear hK K
   refine tk (v:=?_) 23 rfl ?_ hHeld ?_;rotate_left;(focus ((intro w hSw;(try dsimp only at hSw);go_simp);try with_reducible rfl));simp only[gA,gB,gC,Act.put,gD,gE,gF]
   refine wpAnyH_done (by kernel_rfl) ?_ _
   go_wp2_with fail
   go_meet
   case rel=>exact⟨xb,A9,C9,E9,ok,rfl,rfl,hlo,U,XR,hJ⟩
 case rest =>
 clear U
 obtain⟨xb,A9,C9,E9,ok,rfl,rfl,hlo,U,XB,hJ⟩:=hcut
 have hSX:∀W,FFt w0 fb bn on n CN A0 m C0 A1 C1 A2 C2 S g KN Q vr L w nb eb x Ae Ce W->BlkAt W xb 58 (fmL (.slice A9 m C9) E9)->(fun W=>W.cell? ⟨fb,19,none⟩=some vr/\(∀j u,(fmL (.slice A9 m C9) E9)[j]?=some u->W.cell? ⟨xb,0+j,none⟩=some u)) W:=fun W h h2=>⟨h.t.fd.cell 19 _ rfl,fun j u hj=>h2.cell0 j u hj⟩
 go_upto_region 20 with fail
 refine held_tail 8 (fun W=>W.cell? ⟨fb,19,none⟩=some vr/\(∀j u,(fmL (.slice A9 m C9) E9)[j]?=some u->W.cell? ⟨xb,0+j,none⟩=some u)) (by kernel_rfl) (by kernel_rfl) (hSX _ (U.keep (Below.refl _ _).drew) (XB.keeps (Below.refl _ _).drew)) (fun hHeld=>?_)
 simp only [List.take_succ_cons,List.take_zero,List.drop_succ_cons,List.drop_zero]
 replace U:=U.keep (Below.refl _ _).drew
 replace XB:=XB.keeps (Below.refl _ _).drew
 replace hJ:=hJ.keep (Below.refl _ _).drew
 generalize wc.drew=V5 at *
 refine tk (v:=?_) 0 rfl ?_ hHeld ?_;rotate_left;(focus ((intro w hSw;(try dsimp only at hSw);go_simp);try with_reducible rfl));simp only[gA,gB,Act.put,gD,gE,gF];refine tk (v:=?_) 1 rfl ?_ hHeld ?_;rotate_left;(focus ((intro w hSw;(try dsimp only at hSw);go_simp);try with_reducible rfl));simp only[gA,gB,gC,Act.put,gD,gE,gF];refine tk (v:=?_) 2 rfl ?_ hHeld ?_;rotate_left;(focus ((intro w hSw;(try dsimp only at hSw);go_simp);try with_reducible rfl));simp only[gA,gB,gC,Act.put,gD,gE,gF];refine tk (v:=?_) 3 rfl ?_ hHeld ?_;rotate_left;(focus ((intro w hSw;(try dsimp only at hSw);go_simp);try with_reducible rfl));simp only[gA,gB,gC,Act.put,gD,gE,gF];refine tk (v:=?_) 4 rfl ?_ hHeld ?_;rotate_left;(focus ((intro w hSw;(try dsimp only at hSw);go_simp);try with_reducible rfl));simp only[gA,gB,gC,Act.put,gD,gE,gF]
 refine wpAnyH_take (i:=5) (v:=.agg #[.slice A9 m C9,.int .i64 (E9 0).1,.int .i64 (E9 0).2,.int .i64 (E9 1).1,.int .i64 (E9 1).2,.int .i64 (E9 2).1,.int .i64 (E9 2).2,.int .i64 (E9 3).1,.int .i64 (E9 3).2,.int .i64 (E9 4).1,.int .i64 (E9 4).2,.int .i64 (E9 5).1,.int .i64 (E9 5).2,.int .i64 (E9 6).1,.int .i64 (E9 6).2]) rfl (by kernel_rfl) (by kernel_rfl) (by kernel_rfl) (fun _ _ _ h=>h) (yields_loadBig (by rfl) _ 58 (by rfl) Try.underlying58 (fmL (.slice A9 m C9) E9) (by kernel_rfl) (by rfl) (fun W hS2=>hS2.2) (fm_val _ _)) hHeld ?_;simp only[gA,gB,gC,Act.put,gD,gE,gF]
 refine rd 6 rfl (fun K hK=>?_);simp only[gA,gB,gC,Act.put,gD,gE,gF];go_simp
 have nbk:BlkAt (V5.alloc (.cells (fmL (.slice A9 m C9) E9).toArray 58)) V5.heap.size 58 (fmL (.slice A9 m C9) E9):=blk_new _ _ _
 have hg1:Below V5.heap.size V5 (V5.alloc (.cells (fmL (.slice A9 m C9) E9).toArray 58)):=Below.alloc (Below.refl _ _) (Nat.le_refl _) _
 replace U:=U.keep hg1
 replace XB:=XB.keeps hg1
 replace hJ:=hJ.keep hg1
 clear hg1
 change K _ (V5.alloc (.cells (fmL (.slice A9 m C9) E9).toArray 58))
 refine hK.out _ _ (hSX _ U XB) (fun hHeld=>?_)
 clear hK K
 generalize V5.alloc (.cells (fmL (.slice A9 m C9) E9).toArray 58)=W7 at *
 generalize V5.heap.size=nbb at *
 refine rd 7 rfl (fun K hK=>?_)
 obtain⟨YY,hYY⟩:∃YY:Pro,YY.1=E9/\∀Y,TT=some Y->YY=Y:=by
  cases TT with
  | none=>exact⟨(E9,[]),rfl,fun Y h=>by cases h⟩
  | some Y=>exact⟨Y,hJ.2.1.symm,fun Z h=>by injection h⟩
 refine step_catFr2 (B:=fb+1) (n:=m) (by rfl) _ _ (by rfl) vr L (YY,.slice A9 m C9) nbb (by rfl) (by rfl) U.t.ow (by rw [show ((YY,Value.slice A9 m C9):FV).1.1=E9 from hYY.1];exact nbk) ⟨_,_,rfl⟩ hL U.t.fd.lt ?_
 rintro v' w8 I8 hb8 hk8 ha8 hs8
 obtain⟨A8,C8,e8, -⟩:=I8.form
 generalize (L++[(YY,Value.slice A9 m C9)]).length=q8 at e8
 subst e8
 have fd8:=U.t.fd.keep hb8 (Nat.lt_succ_self fb)
 have nd8:=U.t.ow.kinds hk8 _ _ _ (by decide) U.nd
 refine hK.out _ _ ⟨fd8.cell 19 _ rfl,fun j u hj=>(hk8 _ _ _ (a0 _ (Nat.le_of_lt hlo)) XB).cell0 j u hj⟩ (fun _=>wpAnyH_done (by kernel_rfl) ?_ _)
 clear hK K hHeld
 obtain⟨fdW, -,ndW,rbW, -,hBW,apW,krW⟩:=U.grown hfb a0 hb8 hk8 ha8
 have TG:∀Y,TT=some Y->FSt w0 fb (some ⟨bn,on,none⟩) n CN A0 m C0 A1 C1 A2 C2 S g KN Q (.slice A8 q8 C8) (L++[(YY,.slice A9 m C9)]) (w8.setCell ⟨fb,19,none⟩ (.slice A8 q8 C8)):=fun Y hY=>by
  have hJ2:=hJ
  rw [hY] at hJ2
  refine U.t.grown I8 hb8 (U.t.ow.kinds hk8) (FvOk.one ?_)
  rw [hYY.2 Y hY]
  exact hJ2.2.2
 have y19:=fd8.cell 19 _ rfl
 have fz:=fd8.froz 19
 show wpList _ _ _ _ _ _
 go_upto_region 21 with fail
 generalize w8.setCell ⟨fb,19,none⟩ (.slice A8 q8 C8)=V9 at *
 have hgl4:=T0.gl
 have hV9:=fdW.lt
 have hSY:∀W,BlkAt W fb 62 (fdL (some ⟨bn,on,none⟩) n CN A0 m C0 A1 C1 A2 C2 S g (.slice A8 q8 C8))->BlkAt W nb 54 (ndL x)->Below fb w W->(fun W=>W.cell? ⟨fb,18,none⟩=some (.slice (some ⟨g,0,none⟩) n n)/\W.cell? ⟨nb,1,none⟩=some (.int .i64 (ta:Int))/\(∀j u,(fmL (.slice Aa m ca) (Q ta).1)[j]?=some u->W.cell? ⟨g,ta*15+j,none⟩=some u)) W:=fun W k1 k2 k3=>by
  refine⟨k1.cell 18 _ rfl, ?_,fun j u hj=>(World.cell?_of_block (k3.block g (by omega))).trans (fah.out j u hj)⟩
  have q:=k2.cell 1 _ rfl
  rw [hta.out] at q
  exact q
 have hdr:Below V9.heap.size V9 V9.drew:=(Below.refl _ _).drew
 have raV:=((ra.keep U.hw).all krW).keep hdr
 have RB5:=rbW.keeps hdr
 have HBd:Below fb w V9.drew:=hBW.trans (hdr.mono (Nat.le_of_lt hV9))
 have TG2:=fun Y hY=>(TG Y hY).keep hdr
 have fdX:=fdW.keeps hdr
 have ndX:=ndW.keeps hdr
 have hnl:=U.h1
 refine wp_region_held_drew (S:=fun W=>W.cell? ⟨fb,18,none⟩=some (.slice (some ⟨g,0,none⟩) n n)/\W.cell? ⟨nb,1,none⟩=some (.int .i64 (ta:Int))/\(∀j u,(fmL (.slice Aa m ca) (Q ta).1)[j]?=some u->W.cell? ⟨g,ta*15+j,none⟩=some u)) (by kernel_rfl) (hSY _ fdX ndX HBd) (fun hHeld=>?_)
 clear TG I8 hb8 hk8 ha8 fd8 nd8 fdW ndW rbW krW hdr U XB
 generalize V9.drew=V5 at *
 refine tk (v:=?_) 0 rfl ?_ hHeld ?_;rotate_left;(focus ((intro w hSw;(try dsimp only at hSw);go_simp);try with_reducible rfl));simp only[gA,gB,Act.put,gD,gE,gF];refine tk (v:=?_) 1 rfl ?_ hHeld ?_;rotate_left;(focus ((intro w hSw;(try dsimp only at hSw);go_simp);try with_reducible rfl));simp only[gA,gB,gC,Act.put,gD,gE,gF];refine tk (v:=?_) 2 rfl ?_ hHeld ?_;rotate_left;(focus ((intro w hSw;(try dsimp only at hSw);go_simp);try with_reducible rfl));simp only[gA,gB,gC,Act.put,gD,gE,gF];refine tk (v:=?_) 3 rfl ?_ hHeld ?_;rotate_left;(focus ((intro w hSw;(try dsimp only at hSw);go_simp);try with_reducible rfl));simp only[gA,gB,gC,Act.put,gD,gE,gF];refine tk (v:=?_) 4 rfl ?_ hHeld ?_;rotate_left;(focus ((intro w hSw;(try dsimp only at hSw);go_simp);try with_reducible rfl));simp only[gA,gB,gC,Act.put,gD,gE,gF];refine tk (v:=?_) 5 rfl ?_ hHeld ?_;rotate_left;(focus ((intro w hSw;(try dsimp only at hSw);go_simp);try with_reducible rfl));simp only[gA,gB,gC,Act.put,gD,gE,gF];refine tk (v:=?_) 6 rfl ?_ hHeld ?_;rotate_left;(focus ((intro w hSw;(try dsimp only at hSw);go_simp);try with_reducible rfl));simp only[gA,gB,gC,Act.put,gD,gE,gF]
 refine wpAnyH_take (i:=7) (v:=fmV (.slice Aa m ca) (Q ta).1) rfl (by kernel_rfl) (by kernel_rfl) (by kernel_rfl) (fun _ _ _ h=>h) (yields_loadBig (by rfl) _ 58 (by rfl) Try.underlying58 (fmL (.slice Aa m ca) (Q ta).1) (by kernel_rfl) (by rfl) (fun W hS2=>hS2.2.2) (fm_val _ _)) hHeld ?_;simp only[gA,gB,gC,Act.put,gD,gE,gF]
 refine tk (v:=?_) 8 rfl ?_ hHeld ?_;rotate_left;(focus ((intro w hSw;(try dsimp only at hSw);go_simp);try with_reducible rfl));simp only[gA,gB,gC,Act.put,gD,gE,gF]
 refine rd 9 rfl (fun K hK=>?_)
 refine step_storeBig (by rfl) _ _ 58 (by rfl) RB5 (fmL (.slice Aa m ca) (Q ta).1) (by kernel_rfl) (by rfl) (by rfl) (by rfl) (by rfl) ?_
 rintro V6 XR hs2 hB2 hk2
 have HB6:=hB2 _ _ HBd (Nat.le_of_lt hfb)
 refine hK.out _ _ (hSY _ (hk2 _ _ _ (by omega) fdX) (hk2 _ _ _ (by omega) ndX) HB6) (fun hHeld=>?_)
 clear hK K
 refine tk (v:=?_) 10 rfl ?_ hHeld ?_;rotate_left;(focus ((intro w hSw;(try dsimp only at hSw);go_simp);try with_reducible rfl));simp only[gA,gB,gC,Act.put,gD,gE,gF]
 refine wpAnyH_done (by kernel_rfl) ?_ _
 go_wp2_with fail
 cases TT with
 | none =>
  have hJ2:ok=false:=hJ
  subst hJ2
  exact bodyPost_ret (v:=.tuple #[fmV (.slice Aa m ca) (Q ta).1,.bool false]) (results_cell_tmp Try.results25 _ V6 w.heap.size 58 (fmL (.slice Aa m ca) (Q ta).1).toArray (0,0) _ (by rfl) XR Try.underlying58 (by rfl) (by kernel_rfl) (by rfl)) rfl ⟨⟨Aa,ca,(Q ta).1,rfl⟩,HB6⟩
 | some Y =>
  obtain⟨hJ1, -, -⟩:=hJ
  subst hJ1
  exact bodyPost_ret (v:=.tuple #[fmV (.slice Aa m ca) (Q ta).1,.bool true]) (results_cell_tmp Try.results25 _ V6 w.heap.size 58 (fmL (.slice Aa m ca) (Q ta).1).toArray (0,0) _ (by rfl) XR Try.underlying58 (by rfl) (by kernel_rfl) (by rfl)) rfl ⟨⟨Aa,ca,_,[(YY,.slice A9 m C9)],rfl,raV.other RB5 (by decide) hk2,(TG2 Y rfl).off RB5 hfb apW hB2 hk2,by show [YY]=[Y];rw [hYY.2 Y rfl]⟩,HB6⟩
set_option maxRecDepth 4000 in
set_option maxHeartbeats 6000000 in
theorem fform_subj {G:Nat->Bool} (w0:World) (fb bn on n CN:Nat) (A0:Option Addr) (m C0:Nat) (A1:Option Addr) (C1:Nat) (A2:Option Addr) (C2:Nat) (S:Nat->Int×Int) (g:Nat) (KN:Nat->Prop) (Q:Nat->Pro) (vr:Value) (L:List FV) (X:Nat->Nd) (x:Nd) (i:Nat) (hm:m<=500) (hi:i<n) (hx:x=X i) (w:World) (VN:Nds w0 (some ⟨bn,on,none⟩) n X) (T:FSt w0 fb (some ⟨bn,on,none⟩) n CN A0 m C0 A1 C1 A2 C2 S g KN Q vr L w) (hk:x.k=4) (hKa:KN x.a.toNat) (hKb:KN x.b.toNat) (h0a:0<=x.a) (h0b:0<=x.b) (hf:(X x.a.toNat).k=1->rightR (X x.a.toNat).q (X x.a.toNat).p=true) (hf2:(X x.b.toNat).k=1->rightR (X x.b.toNat).q (X x.b.toNat).p=true) (pa:POk (m:Int) (Q x.a.toNat)) (pb:POk (m:Int) (Q x.b.toNat)) (gb:FG G (Q x.b.toNat).2) (hfr:frB (X x.a.toNat)=false) (hfr2:frB (X x.b.toNat)=false) (hL:L.length<=100000) :
  Calls Try.prog 25 #[.pointer (some ⟨fb,0,none⟩),.int .i64 (i:Int)] w fun r w'=>FmAns w0 fb (some ⟨bn,on,none⟩) n CN A0 m C0 A1 C1 A2 C2 S g KN Q L r w' ((timesP (Q x.a.toNat) (Q x.b.toNat) (-1,1)).map fun Y=>(Q x.a.toNat,[Y]))/\Below fb w w':=by
 have hfb:fb<w.heap.size:=T.fd.lt
 obtain⟨ta,hta⟩:∃ta:Nat,Hid (x.a=(ta:Int)):=⟨x.a.toNat,by show _=_;omega⟩
 obtain⟨tb,htb⟩:∃tb:Nat,Hid (x.b=(tb:Int)):=⟨x.b.toNat,by show _=_;omega⟩
 have ea:x.a.toNat=ta:=by have:=hta.out;omega
 have ebb:x.b.toNat=tb:=by have:=htb.out;omega
 rw [ea] at hKa hf
 rw [ebb] at hKb hf2
 rw [ea] at hfr pa ⊢
 rw [ebb] at hfr2 pb gb ⊢
 obtain⟨TT,hTT⟩:∃TT,Hid (timesP (Q ta) (Q tb) (-1,1)=TT):=⟨_,rfl⟩
 rw [hTT.out]
 have HPA:Hid (POk (m:Int) (Q ta)/\POk (m:Int) (Q tb)/\FG G (Q tb).2):=⟨pa,pb,gb⟩
 have cw:=fun W=>dwhole_w (-1) W
 have a0:∀b,w.heap.size<=b->ApartF vr b:=fun b hb=>T.ow.apart hb
 clear pa pb gb ea ebb h0a h0b
 obtain⟨b,o,hA,hb, -⟩:=(VN.keep T.hb) i hi
 have hb0:bn=b:=by injection hA with hA;injection hA with hA
 subst hb0
 have xc:Hid (∀j c,(ndL x)[j]?=some c->w.cell? ⟨bn,on+i*22+j,none⟩=some c):=by rw [hx];exact ((VN.keep T.hb).at (i:=i) hi).2
 clear hA
 replace hx:Hid (x=X i):=hx
 have hlt:(i:Int)<(n:Int):=by omega
 have ce:=fun W=>fempty_w m hm W
 have T0:=T
 obtain⟨RB,HB⟩:=blks1 w 58 [.slice none 0 0,.int .i64 0,.int .i64 0,.int .i64 0,.int .i64 0,.int .i64 0,.int .i64 0,.int .i64 0,.int .i64 0,.int .i64 0,.int .i64 0,.int .i64 0,.int .i64 0,.int .i64 0,.int .i64 0]
 go_enter Try.func25,Try.ntmps25
 go_upto_region 1 with fail
 generalize (w.alloc (.cells #[.slice none 0 0,.int .i64 0,.int .i64 0,.int .i64 0,.int .i64 0,.int .i64 0,.int .i64 0,.int .i64 0,.int .i64 0,.int .i64 0,.int .i64 0,.int .i64 0,.int .i64 0,.int .i64 0,.int .i64 0] 58))=V1 at *
 replace T:=T.keep HB
 have c0:=T.fd.cell 0 _ rfl
 have hrl:w.heap.size<V1.heap.size:=RB.lt
 have xl:bn<V1.heap.size:=Nat.lt_of_lt_of_le hb HB.size
 replace xc:Hid (∀j c,(ndL x)[j]?=some c->V1.cell? ⟨bn,on+i*22+j,none⟩=some c):=fun j c hj=>keepsC HB (xc.out j c hj) hb
 go_upto_region 2 with (first
  | (refine wpList_loadBig (by rfl) _ 54 (by rfl) Try.underlying54 (ndL x) (by kernel_rfl) (by rfl) (xc.out) (nd_val x) ?_)
  | (refine wpList_storeBig (by rfl) _ _ 54 (by rfl) (blk_new _ _ _) (ndL x) (by kernel_rfl) (by rfl) (by rfl) (by rfl) (by rfl) ?_;rintro V2 XR hs2 hB2 hk2))
 have grw:Below V1.heap.size V1 V2:=hB2 _ _ (Below.alloc (Below.refl _ _) (Nat.le_refl _) _) (Nat.le_refl _)
 have XN:=XR
 obtain⟨nb,hnb⟩:∃nb,nb=V1.heap.size:=⟨_,rfl⟩
 have hnb2:w.heap.size<nb:=by omega
 rw [<-hnb] at XN ⊢
 replace T:=T.keep grw
 replace RB:=RB.keeps grw
 replace HB:=later HB grw
 clear XR hB2 hk2 hs2 grw c0 xc xl hrl hnb
 have c1:=T.fd.cell 1 _ rfl
 try simp only [Act.put]
 go_upto_region 3 with (first
  | (go_at_call 24;(with_reducible refine (ce _).mono ?_);rintro _ W3 ⟨⟨ve,rfl,Ie⟩,hb2⟩;have hw2:w.heap.size<=V2.heap.size:=HB.size;replace HB:=later HB hb2;replace RB:=RB.keeps hb2;replace XN:=XN.keeps hb2;replace T:=T.keep hb2;replace Ie:=Ie.base hw2;clear hb2 c1 hw2;obtain⟨Ae,Ce,e7, -,re,hAe⟩:=Ie.form;rw [List.length_replicate] at e7 re hAe;subst e7;clear Ie)
  | (refine wpList_storeBig (by rfl) _ _ 58 (by rfl) (blk_new _ _ _) (fmL (.slice Ae m Ce) plE) (by kernel_rfl) (by rfl) (by rfl) (by rfl) (by rfl) ?_;rintro V4 XR hs2 hB2 hk2))
 replace re:RtAt W3 Ae m (fun _=>(0,1)):=re.congr fun u hu=>by rw [List.getD_eq_getElem?_getD,List.getElem?_replicate,if_pos hu];rfl
 have grw:Below W3.heap.size W3 V4:=hB2 _ _ (Below.alloc (Below.refl _ _) (Nat.le_refl _) _) (Nat.le_refl _)
 have XE:=XR
 obtain⟨eb,heb⟩:∃eb,eb=W3.heap.size:=⟨_,rfl⟩
 have hnl:nb<W3.heap.size:=XN.lt
 have heb2:nb<eb:=by omega
 rw [<-heb] at XE ⊢
 have U:FFt w0 fb bn on n CN A0 m C0 A1 C1 A2 C2 S g KN Q vr L w nb eb x Ae Ce V4:=⟨T.keep grw,XN.keeps grw,XE,RB.keeps grw,re.keep grw,later HB grw,hnb2,heb2⟩
 clear XR hB2 hk2 hs2 grw XN XE RB T re HB heb hnb2 heb2 hnl ce
 try simp only [Act.put]
 have y0:V4.cell? ⟨nb,0,none⟩=some (.int .i64 x.k):=U.nd.cell 0 _ rfl
 rw [hk] at y0
 replace hk:Hid (x.k=4):=hk
 go_upto_region 16 with fail
 obtain⟨hta2,hgl,Aa,ca,ra,fa⟩:=T0.fs.at hKa
 obtain⟨htb2, -,Ab,cb,rb,fbb⟩:=T0.fs.at hKb
 have hS:∀W,FFt w0 fb bn on n CN A0 m C0 A1 C1 A2 C2 S g KN Q vr L w nb eb x Ae Ce W->(fun W=>W.cell? ⟨fb,18,none⟩=some (.slice (some ⟨g,0,none⟩) n n)/\W.cell? ⟨nb,1,none⟩=some (.int .i64 (ta:Int))/\W.cell? ⟨nb,2,none⟩=some (.int .i64 (tb:Int))/\(∀j u,(fmL (.slice Aa m ca) (Q ta).1)[j]?=some u->W.cell? ⟨g,ta*15+j,none⟩=some u)/\(∀j u,(fmL (.slice Ab m cb) (Q tb).1)[j]?=some u->W.cell? ⟨g,tb*15+j,none⟩=some u)) W:=fun W h=>by
  refine⟨h.t.fd.cell 18 _ rfl, ?_, ?_,fun j u hj=>keepsC h.hw (fa j u hj) hgl,fun j u hj=>keepsC h.hw (fbb j u hj) hgl⟩
  ·have q:=h.nd.cell 1 _ rfl
   rw [hta.out] at q
   exact q
  ·have q:=h.nd.cell 2 _ rfl
   rw [htb.out] at q
   exact q
 have hta3:(ta:Int)<(n:Int):=by omega
 have htb3:(tb:Int)<(n:Int):=by omega
 have cf:∀W,FFt w0 fb bn on n CN A0 m C0 A1 C1 A2 C2 S g KN Q vr L w nb eb x Ae Ce W->Calls Try.prog 46 #[.pointer (some ⟨fb,0,none⟩),.int .i64 (ta:Int)] W fun r w'=>r=.returned (.bool (frB (X ta)))/\w'=W:=fun W h=>ffree_w fb (some ⟨bn,on,none⟩) n CN X ta hta2 hf W (VN.keep h.t.hb) (h.t.fd.cell 0 _ rfl)
 have cf2:∀W,FFt w0 fb bn on n CN A0 m C0 A1 C1 A2 C2 S g KN Q vr L w nb eb x Ae Ce W->Calls Try.prog 46 #[.pointer (some ⟨fb,0,none⟩),.int .i64 (tb:Int)] W fun r w'=>r=.returned (.bool (frB (X tb)))/\w'=W:=fun W h=>ffree_w fb (some ⟨bn,on,none⟩) n CN X tb htb2 hf2 W (VN.keep h.t.hb) (h.t.fd.cell 0 _ rfl)
 have y1:=(hS _ U).2.1
 have y2:=(hS _ U).2.2.1
 have cj:∀W,FFt w0 fb bn on n CN A0 m C0 A1 C1 A2 C2 S g KN Q vr L w nb eb x Ae Ce W->Calls Try.prog 45 #[fmV (.slice Aa m ca) (Q ta).1,fmV (.slice Ab m cb) (Q tb).1,.agg #[.int .i64 (-1),.int .i64 1]] W fun r w'=>PjAns r w' m TT/\Below W.heap.size W w':=fun W h=>by
  rw [<-hTT.out]
  exact fjoin_w m hm (Q ta) (Q tb) (-1,1) HPA.out.1 HPA.out.2.1 HPA.out.2.2 rok_mone Aa Ab ca cb W (ra.keep h.hw) (rb.keep h.hw)
 rw [hfr] at cf
 rw [hfr2] at cf2
 go_upto_region 18 with (go_at_call 46;(with_reducible refine (cf _ U).mono ?_);rintro _ W6 ⟨rfl,hW6⟩;rw [hW6];clear hW6)
 go_upto_region 19 with (go_at_call 46;(with_reducible refine (cf2 _ U).mono ?_);rintro _ W6 ⟨rfl,hW6⟩;rw [hW6];clear hW6)
 have fah:Hid (∀j u,(fmL (.slice Aa m ca) (Q ta).1)[j]?=some u->w.cell? ⟨g,ta*15+j,none⟩=some u):=fa
 clear y0 y1 y2 fa fbb cf cf2 rb
 generalize V4=V2 at *
 go_cut [8,9] from 98 to 118 (fun s8 s9 wx=>∃xb A9 C9 E9 ok,s8=.pointer (some ⟨xb,0,none⟩)/\s9=.bool ok/\w.heap.size<xb/\FFt w0 fb bn on n CN A0 m C0 A1 C1 A2 C2 S g KN Q vr L w nb eb x Ae Ce wx/\BlkAt wx xb 58 (fmL (.slice A9 m C9) E9)/\JoinR TT ok A9 E9 m wx)
 case first =>
  refine wp_region_held_drew (S:=fun W=>W.cell? ⟨fb,18,none⟩=some (.slice (some ⟨g,0,none⟩) n n)/\W.cell? ⟨nb,1,none⟩=some (.int .i64 (ta:Int))/\W.cell? ⟨nb,2,none⟩=some (.int .i64 (tb:Int))/\(∀j u,(fmL (.slice Aa m ca) (Q ta).1)[j]?=some u->W.cell? ⟨g,ta*15+j,none⟩=some u)/\(∀j u,(fmL (.slice Ab m cb) (Q tb).1)[j]?=some u->W.cell? ⟨g,tb*15+j,none⟩=some u)) (by kernel_rfl) (hS _ (U.keep (Below.refl _ _).drew)) (fun hHeld=>?_)
  replace U:=U.keep (Below.refl _ _).drew
  generalize V2.drew=V4 at *
  refine tk (v:=?_) 0 rfl ?_ hHeld ?_;rotate_left;(focus ((intro w hSw;(try dsimp only at hSw);go_simp);try with_reducible rfl));simp only[gA,gB,Act.put,gD,gE,gF];refine tk (v:=?_) 1 rfl ?_ hHeld ?_;rotate_left;(focus ((intro w hSw;(try dsimp only at hSw);go_simp);try with_reducible rfl));simp only[gA,gB,gC,Act.put,gD,gE,gF];refine tk (v:=?_) 2 rfl ?_ hHeld ?_;rotate_left;(focus ((intro w hSw;(try dsimp only at hSw);go_simp);try with_reducible rfl));simp only[gA,gB,gC,Act.put,gD,gE,gF];refine tk (v:=?_) 3 rfl ?_ hHeld ?_;rotate_left;(focus ((intro w hSw;(try dsimp only at hSw);go_simp);try with_reducible rfl));simp only[gA,gB,gC,Act.put,gD,gE,gF];refine tk (v:=?_) 4 rfl ?_ hHeld ?_;rotate_left;(focus ((intro w hSw;(try dsimp only at hSw);go_simp);try with_reducible rfl));simp only[gA,gB,gC,Act.put,gD,gE,gF];refine tk (v:=?_) 5 rfl ?_ hHeld ?_;rotate_left;(focus ((intro w hSw;(try dsimp only at hSw);go_simp);try with_reducible rfl));simp only[gA,gB,gC,Act.put,gD,gE,gF];refine tk (v:=?_) 6 rfl ?_ hHeld ?_;rotate_left;(focus ((intro w hSw;(try dsimp only at hSw);go_simp);try with_reducible rfl));simp only[gA,gB,gC,Act.put,gD,gE,gF]
  refine wpAnyH_take (i:=7) (v:=fmV (.slice Aa m ca) (Q ta).1) rfl (by kernel_rfl) (by kernel_rfl) (by kernel_rfl) (fun _ _ _ h=>h) (yields_loadBig (by rfl) _ 58 (by rfl) Try.underlying58 (fmL (.slice Aa m ca) (Q ta).1) (by kernel_rfl) (by rfl) (fun W hS2=>hS2.2.2.2.1) (fm_val _ _)) hHeld ?_;simp only[gA,gB,gC,Act.put,gD,gE,gF]
  refine tk (v:=?_) 8 rfl ?_ hHeld ?_;rotate_left;(focus ((intro w hSw;(try dsimp only at hSw);go_simp);try with_reducible rfl));simp only[gA,gB,gC,Act.put,gD,gE,gF];refine tk (v:=?_) 9 rfl ?_ hHeld ?_;rotate_left;(focus ((intro w hSw;(try dsimp only at hSw);go_simp);try with_reducible rfl));simp only[gA,gB,gC,Act.put,gD,gE,gF];refine tk (v:=?_) 10 rfl ?_ hHeld ?_;rotate_left;(focus ((intro w hSw;(try dsimp only at hSw);go_simp);try with_reducible rfl));simp only[gA,gB,gC,Act.put,gD,gE,gF];refine tk (v:=?_) 11 rfl ?_ hHeld ?_;rotate_left;(focus ((intro w hSw;(try dsimp only at hSw);go_simp);try with_reducible rfl));simp only[gA,gB,gC,Act.put,gD,gE,gF];refine tk (v:=?_) 12 rfl ?_ hHeld ?_;rotate_left;(focus ((intro w hSw;(try dsimp only at hSw);go_simp);try with_reducible rfl));simp only[gA,gB,gC,Act.put,gD,gE,gF];refine tk (v:=?_) 13 rfl ?_ hHeld ?_;rotate_left;(focus ((intro w hSw;(try dsimp only at hSw);go_simp);try with_reducible rfl));simp only[gA,gB,gC,Act.put,gD,gE,gF];refine tk (v:=?_) 14 rfl ?_ hHeld ?_;rotate_left;(focus ((intro w hSw;(try dsimp only at hSw);go_simp);try with_reducible rfl));simp only[gA,gB,gC,Act.put,gD,gE,gF]
  refine wpAnyH_take (i:=15) (v:=fmV (.slice Ab m cb) (Q tb).1) rfl (by kernel_rfl) (by kernel_rfl) (by kernel_rfl) (fun _ _ _ h=>h) (yields_loadBig (by rfl) _ 58 (by rfl) Try.underlying58 (fmL (.slice Ab m cb) (Q tb).1) (by kernel_rfl) (by rfl) (fun W hS2=>hS2.2.2.2.2) (fm_val _ _)) hHeld ?_;simp only[gA,gB,gC,Act.put,gD,gE,gF]
  refine wpAnyH_ready (rs:=[16,21]) (by kernel_rfl) (by simp) ?_
  refine AllReadyH.cons rfl (fun K hK=>?_) (AllReadyH.cons rfl (fun K hK=>?_) AllReadyH.nil)
  ·simp only[gA,gB,gC,Act.put,gD,gE,gF]
   go_simp
   go_at_call 44
   (with_reducible refine (cw _).mono ?_)
   rintro _ W8 ⟨rfl,hb1⟩
   replace U:=U.keep hb1
   skip
   clear hb1
   dsimp only
   refine hK.out _ _ (hS _ U) (fun hHeld=>?_)
   clear hK K
   refine wpAnyH_ready (rs:=[17,21]) (by kernel_rfl) (by simp) ?_
   refine AllReadyH.cons rfl (fun K hK=>?_) (AllReadyH.cons rfl (fun K hK=>?_) AllReadyH.nil)
   ·simp only[gA,gB,gC,Act.put,gD,gE,gF]
    go_simp
    go_at_call 45
    (with_reducible refine (cj _ U).mono ?_)
    rintro r W9 ⟨hM,hb1⟩
    replace U:=U.keep hb1
    obtain⟨A9,C9,E9,ok,hr,hJ⟩:=pj_join hM
    replace hr:r=.returned (.tuple #[.agg #[.slice A9 m C9,.int .i64 (E9 0).1,.int .i64 (E9 0).2,.int .i64 (E9 1).1,.int .i64 (E9 1).2,.int .i64 (E9 2).1,.int .i64 (E9 2).2,.int .i64 (E9 3).1,.int .i64 (E9 3).2,.int .i64 (E9 4).1,.int .i64 (E9 4).2,.int .i64 (E9 5).1,.int .i64 (E9 5).2,.int .i64 (E9 6).1,.int .i64 (E9 6).2],.bool ok]):=hr
    subst hr
    clear hM
    skip
    clear hb1
    dsimp only
    refine hK.out _ _ (hS _ U) (fun hHeld=>?_)
    clear hK K
    refine tk (v:=?_) 18 rfl ?_ hHeld ?_;rotate_left;(focus ((intro w hSw;(try dsimp only at hSw);go_simp);try with_reducible rfl));simp only[gA,gB,gC,Act.put,gD,gE,gF];refine tk (v:=?_) 19 rfl ?_ hHeld ?_;rotate_left;(focus ((intro w hSw;(try dsimp only at hSw);go_simp);try with_reducible rfl));simp only[gA,gB,gC,Act.put,gD,gE,gF];refine tk (v:=?_) 20 rfl ?_ hHeld ?_;rotate_left;(focus ((intro w hSw;(try dsimp only at hSw);go_simp);try with_reducible rfl));simp only[gA,gB,gC,Act.put,gD,gE,gF]
    refine rd 21 rfl (fun K hK=>?_);simp only[gA,gB,gC,Act.put,gD,gE,gF];go_simp
    have U0:=U
    have hh:Below W9.heap.size W9 (W9.alloc (.cells #[.slice none 0 0,.int .i64 0,.int .i64 0,.int .i64 0,.int .i64 0,.int .i64 0,.int .i64 0,.int .i64 0,.int .i64 0,.int .i64 0,.int .i64 0,.int .i64 0,.int .i64 0,.int .i64 0,.int .i64 0] 58)):=Below.alloc (Below.refl _ _) (Nat.le_refl _) _
    have nbk:BlkAt (W9.alloc (.cells #[.slice none 0 0,.int .i64 0,.int .i64 0,.int .i64 0,.int .i64 0,.int .i64 0,.int .i64 0,.int .i64 0,.int .i64 0,.int .i64 0,.int .i64 0,.int .i64 0,.int .i64 0,.int .i64 0,.int .i64 0] 58)) W9.heap.size 58 [.slice none 0 0,.int .i64 0,.int .i64 0,.int .i64 0,.int .i64 0,.int .i64 0,.int .i64 0,.int .i64 0,.int .i64 0,.int .i64 0,.int .i64 0,.int .i64 0,.int .i64 0,.int .i64 0,.int .i64 0]:=blk_new _ _ _
    have hlo:w.heap.size<W9.heap.size:=U.rb.lt
    replace U:=U.keep hh
    replace hJ:=hJ.keep hh
    refine hK.out _ _ (hS _ U) (fun hHeld=>?_)
    clear hK K
    refine rd 22 rfl (fun K hK=>?_)
    refine step_storeBig (by rfl) _ _ 58 (by rfl) nbk (fmL (.slice A9 m C9) E9) (by kernel_rfl) (by rfl) (by rfl) (by rfl) (by rfl) ?_
    rintro V5 XR hs2 hB2 hk2
    have hb2:=hB2 _ _ hh (Nat.le_refl _)
    replace hJ:=hJ.other nbk hk2
    clear U
    have U:=U0.keep hb2
    obtain⟨xb,hxb⟩:∃xb,xb=W9.heap.size:=⟨_,rfl⟩
    rw [<-hxb] at XR hlo ⊢
    clear hb2 hB2 hk2 hs2 nbk hh hxb U0
    refine hK.out _ _ (hS _ U) (fun hHeld=>?_)
    clear hK K
    refine tk (v:=?_) 23 rfl ?_ hHeld ?_;rotate_left;(focus ((intro w hSw;(try dsimp only at hSw);go_simp);try with_reducible rfl));simp only[gA,gB,gC,Act.put,gD,gE,gF]
    refine wpAnyH_done (by kernel_rfl) ?_ _
    go_wp2_with fail
    go_meet
    case rel=>exact⟨xb,A9,C9,E9,ok,rfl,rfl,hlo,U,XR,hJ⟩
   ·simp only[gA,gB,gC,Act.put,gD,gE,gF]
    go_simp
    have U0:=U
    have hh:Below W8.heap.size W8 (W8.alloc (.cells #[.slice none 0 0,.int .i64 0,.int .i64 0,.int .i64 0,.int .i64 0,.int .i64 0,.int .i64 0,.int .i64 0,.int .i64 0,.int .i64 0,.int .i64 0,.int .i64 0,.int .i64 0,.int .i64 0,.int .i64 0] 58)):=Below.alloc (Below.refl _ _) (Nat.le_refl _) _
    have nbk:BlkAt (W8.alloc (.cells #[.slice none 0 0,.int .i64 0,.int .i64 0,.int .i64 0,.int .i64 0,.int .i64 0,.int .i64 0,.int .i64 0,.int .i64 0,.int .i64 0,.int .i64 0,.int .i64 0,.int .i64 0,.int .i64 0,.int .i64 0] 58)) W8.heap.size 58 [.slice none 0 0,.int .i64 0,.int .i64 0,.int .i64 0,.int .i64 0,.int .i64 0,.int .i64 0,.int .i64 0,.int .i64 0,.int .i64 0,.int .i64 0,.int .i64 0,.int .i64 0,.int .i64 0,.int .i64 0]:=blk_new _ _ _
    have hlo:w.heap.size<W8.heap.size:=U.rb.lt
    replace U:=U.keep hh
    skip
    refine hK.out _ _ (hS _ U) (fun hHeld=>?_)
    clear hK K
    refine rd 17 rfl (fun K hK=>?_);simp only[gA,gB,gC,Act.put,gD,gE,gF];go_simp
    go_at_call 45
    (with_reducible refine (cj _ U).mono ?_)
    rintro r W9 ⟨hM,hb1⟩
    replace U:=U.keep hb1
    obtain⟨A9,C9,E9,ok,hr,hJ⟩:=pj_join hM
    replace hr:r=.returned (.tuple #[.agg #[.slice A9 m C9,.int .i64 (E9 0).1,.int .i64 (E9 0).2,.int .i64 (E9 1).1,.int .i64 (E9 1).2,.int .i64 (E9 2).1,.int .i64 (E9 2).2,.int .i64 (E9 3).1,.int .i64 (E9 3).2,.int .i64 (E9 4).1,.int .i64 (E9 4).2,.int .i64 (E9 5).1,.int .i64 (E9 5).2,.int .i64 (E9 6).1,.int .i64 (E9 6).2],.bool ok]):=hr
    subst hr
    clear hM
    replace hh:=later hh hb1;replace nbk:=nbk.keeps hb1
    clear hb1
    dsimp only
    refine hK.out _ _ (hS _ U) (fun hHeld=>?_)
    clear hK K
    refine tk (v:=?_) 18 rfl ?_ hHeld ?_;rotate_left;(focus ((intro w hSw;(try dsimp only at hSw);go_simp);try with_reducible rfl));simp only[gA,gB,gC,Act.put,gD,gE,gF];refine tk (v:=?_) 19 rfl ?_ hHeld ?_;rotate_left;(focus ((intro w hSw;(try dsimp only at hSw);go_simp);try with_reducible rfl));simp only[gA,gB,gC,Act.put,gD,gE,gF];refine tk (v:=?_) 20 rfl ?_ hHeld ?_;rotate_left;(focus ((intro w hSw;(try dsimp only at hSw);go_simp);try with_reducible rfl));simp only[gA,gB,gC,Act.put,gD,gE,gF]
    refine rd 22 rfl (fun K hK=>?_)
    refine step_storeBig (by rfl) _ _ 58 (by rfl) nbk (fmL (.slice A9 m C9) E9) (by kernel_rfl) (by rfl) (by rfl) (by rfl) (by rfl) ?_
    rintro V5 XR hs2 hB2 hk2
    have hb2:=hB2 _ _ hh (Nat.le_refl _)
    replace hJ:=hJ.other nbk hk2
    clear U
    have U:=U0.keep hb2
    obtain⟨xb,hxb⟩:∃xb,xb=W8.heap.size:=⟨_,rfl⟩
    rw [<-hxb] at XR hlo ⊢
    clear hb2 hB2 hk2 hs2 nbk hh hxb U0
    refine hK.out _ _ (hS _ U) (fun hHeld=>?_)
    clear hK K
    refine tk (v:=?_) 23 rfl ?_ hHeld ?_;rotate_left;(focus ((intro w hSw;(try dsimp only at hSw);go_simp);try with_reducible rfl));simp only[gA,gB,gC,Act.put,gD,gE,gF]
    refine wpAnyH_done (by kernel_rfl) ?_ _
    go_wp2_with fail
    go_meet
    case rel=>exact⟨xb,A9,C9,E9,ok,rfl,rfl,hlo,U,XR,hJ⟩
  ·simp only[gA,gB,gC,Act.put,gD,gE,gF]
   go_simp
   have U0:=U
   have hh:Below V4.heap.size V4 (V4.alloc (.cells #[.slice none 0 0,.int .i64 0,.int .i64 0,.int .i64 0,.int .i64 0,.int .i64 0,.int .i64 0,.int .i64 0,.int .i64 0,.int .i64 0,.int .i64 0,.int .i64 0,.int .i64 0,.int .i64 0,.int .i64 0] 58)):=Below.alloc (Below.refl _ _) (Nat.le_refl _) _
   have nbk:BlkAt (V4.alloc (.cells #[.slice none 0 0,.int .i64 0,.int .i64 0,.int .i64 0,.int .i64 0,.int .i64 0,.int .i64 0,.int .i64 0,.int .i64 0,.int .i64 0,.int .i64 0,.int .i64 0,.int .i64 0,.int .i64 0,.int .i64 0] 58)) V4.heap.size 58 [.slice none 0 0,.int .i64 0,.int .i64 0,.int .i64 0,.int .i64 0,.int .i64 0,.int .i64 0,.int .i64 0,.int .i64 0,.int .i64 0,.int .i64 0,.int .i64 0,.int .i64 0,.int .i64 0,.int .i64 0]:=blk_new _ _ _
   have hlo:w.heap.size<V4.heap.size:=U.rb.lt
   replace U:=U.keep hh
   skip
   refine hK.out _ _ (hS _ U) (fun hHeld=>?_)
   clear hK K
   refine rd 16 rfl (fun K hK=>?_);simp only[gA,gB,gC,Act.put,gD,gE,gF];go_simp
   go_at_call 44
   (with_reducible refine (cw _).mono ?_)
   rintro _ W8 ⟨rfl,hb1⟩
   replace U:=U.keep hb1
   replace hh:=later hh hb1;replace nbk:=nbk.keeps hb1
   clear hb1
   dsimp only
   refine hK.out _ _ (hS _ U) (fun hHeld=>?_)
   clear hK K
   refine rd 17 rfl (fun K hK=>?_);simp only[gA,gB,gC,Act.put,gD,gE,gF];go_simp
   go_at_call 45
   (with_reducible refine (cj _ U).mono ?_)
   rintro r W9 ⟨hM,hb1⟩
   replace U:=U.keep hb1
   obtain⟨A9,C9,E9,ok,hr,hJ⟩:=pj_join hM
   replace hr:r=.returned (.tuple #[.agg #[.slice A9 m C9,.int .i64 (E9 0).1,.int .i64 (E9 0).2,.int .i64 (E9 1).1,.int .i64 (E9 1).2,.int .i64 (E9 2).1,.int .i64 (E9 2).2,.int .i64 (E9 3).1,.int .i64 (E9 3).2,.int .i64 (E9 4).1,.int .i64 (E9 4).2,.int .i64 (E9 5).1,.int .i64 (E9 5).2,.int .i64 (E9 6).1,.int .i64 (E9 6).2],.bool ok]):=hr
   subst hr
   clear hM
   replace hh:=later hh hb1;replace nbk:=nbk.keeps hb1
   clear hb1
   dsimp only
   refine hK.out _ _ (hS _ U) (fun hHeld=>?_)
   clear hK K
   refine tk (v:=?_) 18 rfl ?_ hHeld ?_;rotate_left;(focus ((intro w hSw;(try dsimp only at hSw);go_simp);try with_reducible rfl));simp only[gA,gB,gC,Act.put,gD,gE,gF];refine tk (v:=?_) 19 rfl ?_ hHeld ?_;rotate_left;(focus ((intro w hSw;(try dsimp only at hSw);go_simp);try with_reducible rfl));simp only[gA,gB,gC,Act.put,gD,gE,gF];refine tk (v:=?_) 20 rfl ?_ hHeld ?_;rotate_left;(focus ((intro w hSw;(try dsimp only at hSw);go_simp);try with_reducible rfl));simp only[gA,gB,gC,Act.put,gD,gE,gF]
   refine rd 22 rfl (fun K hK=>?_)
   refine step_storeBig (by rfl) _ _ 58 (by rfl) nbk (fmL (.slice A9 m C9) E9) (by kernel_rfl) (by rfl) (by rfl) (by rfl) (by rfl) ?_
   rintro V5 XR hs2 hB2 hk2
   have hb2:=hB2 _ _ hh (Nat.le_refl _)
   replace hJ:=hJ.other nbk hk2
   clear U
   have U:=U0.keep hb2
   obtain⟨xb,hxb⟩:∃xb,xb=V4.heap.size:=⟨_,rfl⟩
   rw [<-hxb] at XR hlo ⊢
   clear hb2 hB2 hk2 hs2 nbk hh hxb U0
   refine hK.out _ _ (hS _ U) (fun hHeld=>?_)
   clear hK K
   refine tk (v:=?_) 23 rfl ?_ hHeld ?_;rotate_left;(focus ((intro w hSw;(try dsimp only at hSw);go_simp);try with_reducible rfl));simp only[gA,gB,gC,Act.put,gD,gE,gF]
   refine wpAnyH_done (by kernel_rfl) ?_ _
   go_wp2_with fail
   go_meet
   case rel=>exact⟨xb,A9,C9,E9,ok,rfl,rfl,hlo,U,XR,hJ⟩
 case rest =>
 clear U
 obtain⟨xb,A9,C9,E9,ok,rfl,rfl,hlo,U,XB,hJ⟩:=hcut
 have hSX:∀W,FFt w0 fb bn on n CN A0 m C0 A1 C1 A2 C2 S g KN Q vr L w nb eb x Ae Ce W->BlkAt W xb 58 (fmL (.slice A9 m C9) E9)->(fun W=>W.cell? ⟨fb,19,none⟩=some vr/\(∀j u,(fmL (.slice A9 m C9) E9)[j]?=some u->W.cell? ⟨xb,0+j,none⟩=some u)) W:=fun W h h2=>⟨h.t.fd.cell 19 _ rfl,fun j u hj=>h2.cell0 j u hj⟩
 go_upto_region 20 with fail
 refine held_tail 8 (fun W=>W.cell? ⟨fb,19,none⟩=some vr/\(∀j u,(fmL (.slice A9 m C9) E9)[j]?=some u->W.cell? ⟨xb,0+j,none⟩=some u)) (by kernel_rfl) (by kernel_rfl) (hSX _ (U.keep (Below.refl _ _).drew) (XB.keeps (Below.refl _ _).drew)) (fun hHeld=>?_)
 simp only [List.take_succ_cons,List.take_zero,List.drop_succ_cons,List.drop_zero]
 replace U:=U.keep (Below.refl _ _).drew
 replace XB:=XB.keeps (Below.refl _ _).drew
 replace hJ:=hJ.keep (Below.refl _ _).drew
 generalize wc.drew=V5 at *
 refine tk (v:=?_) 0 rfl ?_ hHeld ?_;rotate_left;(focus ((intro w hSw;(try dsimp only at hSw);go_simp);try with_reducible rfl));simp only[gA,gB,Act.put,gD,gE,gF];refine tk (v:=?_) 1 rfl ?_ hHeld ?_;rotate_left;(focus ((intro w hSw;(try dsimp only at hSw);go_simp);try with_reducible rfl));simp only[gA,gB,gC,Act.put,gD,gE,gF];refine tk (v:=?_) 2 rfl ?_ hHeld ?_;rotate_left;(focus ((intro w hSw;(try dsimp only at hSw);go_simp);try with_reducible rfl));simp only[gA,gB,gC,Act.put,gD,gE,gF];refine tk (v:=?_) 3 rfl ?_ hHeld ?_;rotate_left;(focus ((intro w hSw;(try dsimp only at hSw);go_simp);try with_reducible rfl));simp only[gA,gB,gC,Act.put,gD,gE,gF];refine tk (v:=?_) 4 rfl ?_ hHeld ?_;rotate_left;(focus ((intro w hSw;(try dsimp only at hSw);go_simp);try with_reducible rfl));simp only[gA,gB,gC,Act.put,gD,gE,gF]
 refine wpAnyH_take (i:=5) (v:=.agg #[.slice A9 m C9,.int .i64 (E9 0).1,.int .i64 (E9 0).2,.int .i64 (E9 1).1,.int .i64 (E9 1).2,.int .i64 (E9 2).1,.int .i64 (E9 2).2,.int .i64 (E9 3).1,.int .i64 (E9 3).2,.int .i64 (E9 4).1,.int .i64 (E9 4).2,.int .i64 (E9 5).1,.int .i64 (E9 5).2,.int .i64 (E9 6).1,.int .i64 (E9 6).2]) rfl (by kernel_rfl) (by kernel_rfl) (by kernel_rfl) (fun _ _ _ h=>h) (yields_loadBig (by rfl) _ 58 (by rfl) Try.underlying58 (fmL (.slice A9 m C9) E9) (by kernel_rfl) (by rfl) (fun W hS2=>hS2.2) (fm_val _ _)) hHeld ?_;simp only[gA,gB,gC,Act.put,gD,gE,gF]
 refine rd 6 rfl (fun K hK=>?_);simp only[gA,gB,gC,Act.put,gD,gE,gF];go_simp
 have nbk:BlkAt (V5.alloc (.cells (fmL (.slice A9 m C9) E9).toArray 58)) V5.heap.size 58 (fmL (.slice A9 m C9) E9):=blk_new _ _ _
 have hg1:Below V5.heap.size V5 (V5.alloc (.cells (fmL (.slice A9 m C9) E9).toArray 58)):=Below.alloc (Below.refl _ _) (Nat.le_refl _) _
 replace U:=U.keep hg1
 replace XB:=XB.keeps hg1
 replace hJ:=hJ.keep hg1
 clear hg1
 change K _ (V5.alloc (.cells (fmL (.slice A9 m C9) E9).toArray 58))
 refine hK.out _ _ (hSX _ U XB) (fun hHeld=>?_)
 clear hK K
 generalize V5.alloc (.cells (fmL (.slice A9 m C9) E9).toArray 58)=W7 at *
 generalize V5.heap.size=nbb at *
 refine rd 7 rfl (fun K hK=>?_)
 obtain⟨YY,hYY⟩:∃YY:Pro,YY.1=E9/\∀Y,TT=some Y->YY=Y:=by
  cases TT with
  | none=>exact⟨(E9,[]),rfl,fun Y h=>by cases h⟩
  | some Y=>exact⟨Y,hJ.2.1.symm,fun Z h=>by injection h⟩
 refine step_catFr2 (B:=fb+1) (n:=m) (by rfl) _ _ (by rfl) vr L (YY,.slice A9 m C9) nbb (by rfl) (by rfl) U.t.ow (by rw [show ((YY,Value.slice A9 m C9):FV).1.1=E9 from hYY.1];exact nbk) ⟨_,_,rfl⟩ hL U.t.fd.lt ?_
 rintro v' w8 I8 hb8 hk8 ha8 hs8
 obtain⟨A8,C8,e8, -⟩:=I8.form
 generalize (L++[(YY,Value.slice A9 m C9)]).length=q8 at e8
 subst e8
 have fd8:=U.t.fd.keep hb8 (Nat.lt_succ_self fb)
 have nd8:=U.t.ow.kinds hk8 _ _ _ (by decide) U.nd
 refine hK.out _ _ ⟨fd8.cell 19 _ rfl,fun j u hj=>(hk8 _ _ _ (a0 _ (Nat.le_of_lt hlo)) XB).cell0 j u hj⟩ (fun _=>wpAnyH_done (by kernel_rfl) ?_ _)
 clear hK K hHeld
 obtain⟨fdW, -,ndW,rbW, -,hBW,apW,krW⟩:=U.grown hfb a0 hb8 hk8 ha8
 have TG:∀Y,TT=some Y->FSt w0 fb (some ⟨bn,on,none⟩) n CN A0 m C0 A1 C1 A2 C2 S g KN Q (.slice A8 q8 C8) (L++[(YY,.slice A9 m C9)]) (w8.setCell ⟨fb,19,none⟩ (.slice A8 q8 C8)):=fun Y hY=>by
  have hJ2:=hJ
  rw [hY] at hJ2
  refine U.t.grown I8 hb8 (U.t.ow.kinds hk8) (FvOk.one ?_)
  rw [hYY.2 Y hY]
  exact hJ2.2.2
 have y19:=fd8.cell 19 _ rfl
 have fz:=fd8.froz 19
 show wpList _ _ _ _ _ _
 go_upto_region 21 with fail
 generalize w8.setCell ⟨fb,19,none⟩ (.slice A8 q8 C8)=V9 at *
 have hgl4:=T0.gl
 have hV9:=fdW.lt
 have hSY:∀W,BlkAt W fb 62 (fdL (some ⟨bn,on,none⟩) n CN A0 m C0 A1 C1 A2 C2 S g (.slice A8 q8 C8))->BlkAt W nb 54 (ndL x)->Below fb w W->(fun W=>W.cell? ⟨fb,18,none⟩=some (.slice (some ⟨g,0,none⟩) n n)/\W.cell? ⟨nb,1,none⟩=some (.int .i64 (ta:Int))/\(∀j u,(fmL (.slice Aa m ca) (Q ta).1)[j]?=some u->W.cell? ⟨g,ta*15+j,none⟩=some u)) W:=fun W k1 k2 k3=>by
  refine⟨k1.cell 18 _ rfl, ?_,fun j u hj=>(World.cell?_of_block (k3.block g (by omega))).trans (fah.out j u hj)⟩
  have q:=k2.cell 1 _ rfl
  rw [hta.out] at q
  exact q
 have hdr:Below V9.heap.size V9 V9.drew:=(Below.refl _ _).drew
 have raV:=((ra.keep U.hw).all krW).keep hdr
 have RB5:=rbW.keeps hdr
 have HBd:Below fb w V9.drew:=hBW.trans (hdr.mono (Nat.le_of_lt hV9))
 have TG2:=fun Y hY=>(TG Y hY).keep hdr
 have fdX:=fdW.keeps hdr
 have ndX:=ndW.keeps hdr
 have hnl:=U.h1
 refine wp_region_held_drew (S:=fun W=>W.cell? ⟨fb,18,none⟩=some (.slice (some ⟨g,0,none⟩) n n)/\W.cell? ⟨nb,1,none⟩=some (.int .i64 (ta:Int))/\(∀j u,(fmL (.slice Aa m ca) (Q ta).1)[j]?=some u->W.cell? ⟨g,ta*15+j,none⟩=some u)) (by kernel_rfl) (hSY _ fdX ndX HBd) (fun hHeld=>?_)
 clear TG I8 hb8 hk8 ha8 fd8 nd8 fdW ndW rbW krW hdr U XB
 generalize V9.drew=V5 at *
 refine tk (v:=?_) 0 rfl ?_ hHeld ?_;rotate_left;(focus ((intro w hSw;(try dsimp only at hSw);go_simp);try with_reducible rfl));simp only[gA,gB,Act.put,gD,gE,gF];refine tk (v:=?_) 1 rfl ?_ hHeld ?_;rotate_left;(focus ((intro w hSw;(try dsimp only at hSw);go_simp);try with_reducible rfl));simp only[gA,gB,gC,Act.put,gD,gE,gF];refine tk (v:=?_) 2 rfl ?_ hHeld ?_;rotate_left;(focus ((intro w hSw;(try dsimp only at hSw);go_simp);try with_reducible rfl));simp only[gA,gB,gC,Act.put,gD,gE,gF];refine tk (v:=?_) 3 rfl ?_ hHeld ?_;rotate_left;(focus ((intro w hSw;(try dsimp only at hSw);go_simp);try with_reducible rfl));simp only[gA,gB,gC,Act.put,gD,gE,gF];refine tk (v:=?_) 4 rfl ?_ hHeld ?_;rotate_left;(focus ((intro w hSw;(try dsimp only at hSw);go_simp);try with_reducible rfl));simp only[gA,gB,gC,Act.put,gD,gE,gF];refine tk (v:=?_) 5 rfl ?_ hHeld ?_;rotate_left;(focus ((intro w hSw;(try dsimp only at hSw);go_simp);try with_reducible rfl));simp only[gA,gB,gC,Act.put,gD,gE,gF];refine tk (v:=?_) 6 rfl ?_ hHeld ?_;rotate_left;(focus ((intro w hSw;(try dsimp only at hSw);go_simp);try with_reducible rfl));simp only[gA,gB,gC,Act.put,gD,gE,gF]
 refine wpAnyH_take (i:=7) (v:=fmV (.slice Aa m ca) (Q ta).1) rfl (by kernel_rfl) (by kernel_rfl) (by kernel_rfl) (fun _ _ _ h=>h) (yields_loadBig (by rfl) _ 58 (by rfl) Try.underlying58 (fmL (.slice Aa m ca) (Q ta).1) (by kernel_rfl) (by rfl) (fun W hS2=>hS2.2.2) (fm_val _ _)) hHeld ?_;simp only[gA,gB,gC,Act.put,gD,gE,gF]
 refine tk (v:=?_) 8 rfl ?_ hHeld ?_;rotate_left;(focus ((intro w hSw;(try dsimp only at hSw);go_simp);try with_reducible rfl));simp only[gA,gB,gC,Act.put,gD,gE,gF]
 refine rd 9 rfl (fun K hK=>?_)
 refine step_storeBig (by rfl) _ _ 58 (by rfl) RB5 (fmL (.slice Aa m ca) (Q ta).1) (by kernel_rfl) (by rfl) (by rfl) (by rfl) (by rfl) ?_
 rintro V6 XR hs2 hB2 hk2
 have HB6:=hB2 _ _ HBd (Nat.le_of_lt hfb)
 refine hK.out _ _ (hSY _ (hk2 _ _ _ (by omega) fdX) (hk2 _ _ _ (by omega) ndX) HB6) (fun hHeld=>?_)
 clear hK K
 refine tk (v:=?_) 10 rfl ?_ hHeld ?_;rotate_left;(focus ((intro w hSw;(try dsimp only at hSw);go_simp);try with_reducible rfl));simp only[gA,gB,gC,Act.put,gD,gE,gF]
 refine wpAnyH_done (by kernel_rfl) ?_ _
 go_wp2_with fail
 cases TT with
 | none =>
  have hJ2:ok=false:=hJ
  subst hJ2
  exact bodyPost_ret (v:=.tuple #[fmV (.slice Aa m ca) (Q ta).1,.bool false]) (results_cell_tmp Try.results25 _ V6 w.heap.size 58 (fmL (.slice Aa m ca) (Q ta).1).toArray (0,0) _ (by rfl) XR Try.underlying58 (by rfl) (by kernel_rfl) (by rfl)) rfl ⟨⟨Aa,ca,(Q ta).1,rfl⟩,HB6⟩
 | some Y =>
  obtain⟨hJ1, -, -⟩:=hJ
  subst hJ1
  exact bodyPost_ret (v:=.tuple #[fmV (.slice Aa m ca) (Q ta).1,.bool true]) (results_cell_tmp Try.results25 _ V6 w.heap.size 58 (fmL (.slice Aa m ca) (Q ta).1).toArray (0,0) _ (by rfl) XR Try.underlying58 (by rfl) (by kernel_rfl) (by rfl)) rfl ⟨⟨Aa,ca,_,[(YY,.slice A9 m C9)],rfl,raV.other RB5 (by decide) hk2,(TG2 Y rfl).off RB5 hfb apW hB2 hk2,by show [YY]=[Y];rw [hYY.2 Y rfl]⟩,HB6⟩
end Go.Proofs.Ytbejmklkicoibaa
