/- orreryref14's Finder.form: variables. -/
import Derived.Test.YtbejmklkicoibaaSh
import Derived.Test.YtbejmklkicoibaaKe45
namespace Go.Proofs.Ytbejmklkicoibaa
open Go.ChangeShapes Go.WideShapes Go.ChangeAt Go.RowKit
theorem coF_unk (t:Nat) (u:Nat):coF (u:Int) [((t:Int),(1,1))]=if u=t then (1,1) else (0,1):=by
 unfold coF
 simp only [restF]
 by_cases c:(t:Int)<(u:Int)
 ·rw [if_pos c,if_neg (by omega)]
 ·rw [if_neg c]
  by_cases e:u=t
  ·subst e;simp
  ·rw [if_neg e];simp;omega
theorem BlkAt.apart {w:World} {a b:Nat} {T T':TypeId} {cs cs':List Value} (h:BlkAt w a T cs) (k:BlkAt w b T' cs') (ne:T≠T'):a≠b:=fun e=>by
 subst e
 have q:some (Obj.cells cs.toArray T (0,0))=some (Obj.cells cs'.toArray T' (0,0)):=h.symm.trans k
 injection q with q
 injection q with _ q2 _
 exact ne q2
theorem RtAt.one {W:World} {b m t:Nat} {cs:List Value} {X:Nat->Int×Int} {e:Int×Int} (hc:∀i,i<m->cs[i*2]?=some (.int .i64 (X i).1)/\cs[i*2+1]?=some (.int .i64 (X i).2)) (ht:t<m)
  (hB:BlkAt W b 27 (cs.take (t*2)++[.int .i64 e.1,.int .i64 e.2]++cs.drop (t*2+2))):RtAt W (some ⟨b,0,none⟩) m (fun u=>if u=t then e else X u):=fun _=>by
 refine⟨b,_,rfl,hB,fun i hi=>?_⟩
 have hlt:=(List.getElem?_eq_some_iff.1 (hc t ht).2).1
 have h0:(cs.take (t*2)).length=t*2:=by rw [List.length_take];omega
 by_cases c:i=t
 ·subst c
  simp only [if_true]
  constructor
  ·rw [List.append_assoc,List.getElem?_append_right (by omega),h0,Nat.sub_self];rfl
  ·rw [List.append_assoc,List.getElem?_append_right (by omega),h0,show i*2+1-i*2=1 by omega];rfl
 ·simp only [if_neg c]
  have one:∀j v,cs[j]?=some v->j<t*2\/t*2+2<=j->(cs.take (t*2)++[Value.int .i64 e.1,.int .i64 e.2]++cs.drop (t*2+2))[j]?=some v:=fun j v hj h=>by
   rcases h with h | h
   ·rw [List.append_assoc,List.getElem?_append_left (by omega),List.getElem?_take_of_lt h]
    exact hj
   ·rw [List.getElem?_append_right (by simp only [List.length_append,h0,List.length_cons,List.length_nil];omega)]
    simp only [List.length_append,h0,List.length_cons,List.length_nil]
    rw [List.getElem?_drop,show t*2+2+(j-(t*2+(0+1+1)))=j by omega]
    exact hj
  exact⟨one _ _ (hc i hi).1 (by omega),one _ _ (hc i hi).2 (by omega)⟩
structure FFv (fb:Nat) (fc:List Value) (w:World) (nb eb:Nat) (x:Nd) (Ae:Option Addr) (Ce m:Nat) (P0:Pro) (W:World):Prop where
 fd:BlkAt W fb 62 fc
 nd:BlkAt W nb 54 (ndL x)
 em:BlkAt W eb 58 (fmL (.slice Ae m Ce) P0.1)
 rb:BlkAt W w.heap.size 58 [.slice none 0 0,.int .i64 0,.int .i64 0,.int .i64 0,.int .i64 0,.int .i64 0,.int .i64 0,.int .i64 0,.int .i64 0,.int .i64 0,.int .i64 0,.int .i64 0,.int .i64 0,.int .i64 0,.int .i64 0]
 re:RtAt W Ae m (fun u=>coF (u:Int) P0.2)
 hw:Below w.heap.size w W
theorem FFv.keep {fb:Nat} {fc:List Value} {w:World} {nb eb:Nat} {x:Nd} {Ae:Option Addr} {Ce m:Nat} {P0:Pro} {W W':World} (h:FFv fb fc w nb eb x Ae Ce m P0 W) (k:Below W.heap.size W W'):FFv fb fc w nb eb x Ae Ce m P0 W' :=
 ⟨h.fd.keeps k,h.nd.keeps k,h.em.keeps k,h.rb.keeps k,h.re.keep k,later h.hw k⟩
set_option maxRecDepth 4000 in
set_option maxHeartbeats 4000000 in
theorem fform_var {G:Nat->Bool} {D:Nat->Nat->Int×Int} (w0:World) (fb bn on n CN:Nat) (A0:Option Addr) (m C0:Nat) (A1:Option Addr) (C1:Nat) (A2:Option Addr) (C2:Nat) (S:Nat->Int×Int) (g:Nat) (KN:Nat->Prop) (Q:Nat->Pro) (vr:Value) (L:List FV) (X:Nat->Nd) (x:Nd) (i:Nat) (hm:m<=500) (hi:i<n) (hx:x=X i) (w:World) (VN:Nds w0 (some ⟨bn,on,none⟩) n X) (T:FSt w0 fb (some ⟨bn,on,none⟩) n CN A0 m C0 A1 C1 A2 C2 S g KN Q vr L w) (hk:x.k=2) (hv:0<=x.v/\x.v<(m:Int)) (hd:0<=x.d/\x.d<=6) (hS:Dim64 S) (rS:drK S 7=true) (hD:G x.v.toNat=true->Dim64 (D x.v.toNat)/\drK (D x.v.toNat) 7=true) (VD:Dms w0 A0 m D) (VG:Bls w0 A1 m G) :
  Calls Try.prog 25 #[.pointer (some ⟨fb,0,none⟩),.int .i64 (i:Int)] w fun r w'=>FmAns w0 fb (some ⟨bn,on,none⟩) n CN A0 m C0 A1 C1 A2 C2 S g KN Q L r w' ((varP G D S x.v x.d).map fun Y=>(Y,[]))/\Below fb w w':=by
 have hfb:fb<w.heap.size:=T.fd.lt
 obtain⟨t,hvt⟩:∃t:Nat,Hid (x.v=(t:Int)):=⟨x.v.toNat,by show _=_;omega⟩
 have ev:x.v.toNat=t:=by have:=hvt.out;omega
 have htm:t<m:=by have:=hvt.out;omega
 rw [ev] at hD
 have HPd:Hid (ROk (-x.d,1)):=rok_one (by constructor <;> omega) (by omega)
 have HPS:Hid (POk (m:Int) (S,[])):=pOk_dim hS rS
 have HD:Hid (G t=true->Dim64 (D t)/\drK (D t) 7=true):=hD
 have hvp:varP G D S x.v x.d=timesP (if G t then (D t,[]) else (plE,[((t:Int),(1,1))])) (S,[]) (-x.d,1):=by unfold varP;rw [ev,hvt.out]
 rw [hvp]
 obtain⟨P0,hP0⟩:∃P0:Pro,Hid ((if G t then (D t,[]) else (plE,[((t:Int),(1,1))]):Pro)=P0):=⟨_,rfl⟩
 rw [hP0.out]
 obtain⟨TT,hTT⟩:∃TT,Hid (timesP P0 (S,[]) (-x.d,1)=TT):=⟨_,rfl⟩
 rw [hTT.out]
 obtain⟨b1,o1,hA1,l1,g1⟩:=(VG.keep T.hb) t htm
 obtain⟨b0,o0,hA0,l0,g0⟩:=(VD.keep T.hb) t htm
 replace g0:Hid (∀j c,(dimL (D t))[j]?=some c->w.cell? ⟨b0,o0+t*14+j,none⟩=some c):=g0
 have hwr:Hid (-x.d=IntKind.i64.wrap (-x.d)):=by show _=_;rw [IntKind.wrap_i64];omega
 have cw:=fun W=>dwhole_w (-x.d) W
 have cw1:=fun W=>dwhole_w 1 W
 obtain⟨hd1,hd2⟩:=hd
 clear VD VG hS rS hD hvp ev hv hd1 hd2
 obtain⟨b,o,hA,hb, -⟩:=(VN.keep T.hb) i hi
 have hb0:bn=b:=by injection hA with hA;injection hA with hA
 subst hb0
 have xc:Hid (∀j c,(ndL x)[j]?=some c->w.cell? ⟨bn,on+i*22+j,none⟩=some c):=by rw [hx];exact ((VN.keep T.hb).at (i:=i) hi).2
 clear hA
 replace hx:Hid (x=X i):=hx
 have hlt:(i:Int)<(n:Int):=by omega
 have ce:=fun W=>fempty_w m hm W
 have T0:=T
 obtain⟨RB,HB⟩:=blks1 w 58 [.slice none 0 0,.int .i64 0,.int .i64 0,.int .i64 0,.int .i64 0,.int .i64 0,.int .i64 0,.int .i64 0,.int .i64 0,.int .i64 0,.int .i64 0,.int .i64 0,.int .i64 0,.int .i64 0,.int .i64 0]
 go_enter Try.func25,Try.ntmps25
 go_upto_region 1 with fail
 generalize (w.alloc (.cells #[.slice none 0 0,.int .i64 0,.int .i64 0,.int .i64 0,.int .i64 0,.int .i64 0,.int .i64 0,.int .i64 0,.int .i64 0,.int .i64 0,.int .i64 0,.int .i64 0,.int .i64 0,.int .i64 0,.int .i64 0] 58))=V1 at *
 replace T:=T.keep HB
 have c0:=T.fd.cell 0 _ rfl
 have hrl:w.heap.size<V1.heap.size:=RB.lt
 have xl:bn<V1.heap.size:=Nat.lt_of_lt_of_le hb HB.size
 replace xc:Hid (∀j c,(ndL x)[j]?=some c->V1.cell? ⟨bn,on+i*22+j,none⟩=some c):=fun j c hj=>keepsC HB (xc.out j c hj) hb
 go_upto_region 2 with (first
  | (refine wpList_loadBig (by rfl) _ 54 (by rfl) Try.underlying54 (ndL x) (by kernel_rfl) (by rfl) (xc.out) (nd_val x) ?_)
  | (refine wpList_storeBig (by rfl) _ _ 54 (by rfl) (blk_new _ _ _) (ndL x) (by kernel_rfl) (by rfl) (by rfl) (by rfl) (by rfl) ?_;rintro V2 XR hs2 hB2 hk2))
 have grw:Below V1.heap.size V1 V2:=hB2 _ _ (Below.alloc (Below.refl _ _) (Nat.le_refl _) _) (Nat.le_refl _)
 have XN:=XR
 obtain⟨nb,hnb⟩:∃nb,nb=V1.heap.size:=⟨_,rfl⟩
 have hnb2:w.heap.size<nb:=by omega
 rw [<-hnb] at XN ⊢
 replace T:=T.keep grw
 replace RB:=RB.keeps grw
 replace HB:=later HB grw
 clear XR hB2 hk2 hs2 grw c0 xc xl hrl hnb
 have c1:=T.fd.cell 1 _ rfl
 try simp only [Act.put]
 go_upto_region 3 with (first
  | (go_at_call 24;(with_reducible refine (ce _).mono ?_);rintro _ W3 ⟨⟨ve,rfl,Ie⟩,hb2⟩;have hw2:w.heap.size<=V2.heap.size:=HB.size;replace HB:=later HB hb2;replace RB:=RB.keeps hb2;replace XN:=XN.keeps hb2;replace T:=T.keep hb2;replace Ie:=Ie.base hw2;clear hb2 c1 hw2;obtain⟨Ae,Ce,e7, -,re,hAe⟩:=Ie.form;rw [List.length_replicate] at e7 re hAe;subst e7;clear Ie)
  | (refine wpList_storeBig (by rfl) _ _ 58 (by rfl) (blk_new _ _ _) (fmL (.slice Ae m Ce) plE) (by kernel_rfl) (by rfl) (by rfl) (by rfl) (by rfl) ?_;rintro V4 XR hs2 hB2 hk2))
 replace re:RtAt W3 Ae m (fun _=>(0,1)):=re.congr fun u hu=>by rw [List.getD_eq_getElem?_getD,List.getElem?_replicate,if_pos hu];rfl
 have grw:Below W3.heap.size W3 V4:=hB2 _ _ (Below.alloc (Below.refl _ _) (Nat.le_refl _) _) (Nat.le_refl _)
 have XE:=XR
 obtain⟨eb,heb⟩:∃eb,eb=W3.heap.size:=⟨_,rfl⟩
 have hnl:nb<W3.heap.size:=XN.lt
 have heb2:nb<eb:=by omega
 rw [<-heb] at XE ⊢
 have U:FFt w0 fb bn on n CN A0 m C0 A1 C1 A2 C2 S g KN Q vr L w nb eb x Ae Ce V4:=⟨T.keep grw,XN.keeps grw,XE,RB.keeps grw,re.keep grw,later HB grw,hnb2,heb2⟩
 clear XR hB2 hk2 hs2 grw XN XE RB T re HB heb hnb2 heb2 hnl ce
 try simp only [Act.put]
 have y0:V4.cell? ⟨nb,0,none⟩=some (.int .i64 x.k):=U.nd.cell 0 _ rfl
 rw [hk] at y0
 replace hk:Hid (x.k=2):=hk
 have htm2:(t:Int)<(m:Int):=by omega
 have hn6:∀W,BlkAt W nb 54 (ndL x)->W.cell? ⟨nb,6,none⟩=some (.int .i64 (t:Int)):=fun W h=>by
  have q:=h.cell 6 _ rfl
  rw [hvt.out] at q
  exact q
 subst hA1 hA0
 go_upto_region 8 with fail
 clear y0
 refine held_tail 8 (fun W=>W.cell? ⟨fb,2,none⟩=some (.slice (some ⟨b1,o1,none⟩) m C1)/\W.cell? ⟨nb,6,none⟩=some (.int .i64 (t:Int))) (by kernel_rfl) (by kernel_rfl) (by have U2:=U.keep (Below.refl _ _).drew;exact⟨U2.t.fd.cell 2 _ rfl,hn6 _ U2.nd⟩) (fun hHeld=>?_)
 simp only [List.take_succ_cons,List.take_zero,List.drop_succ_cons,List.drop_zero]
 replace U:=U.keep (Below.refl _ _).drew
 refine tk (v:=?_) 0 rfl ?_ hHeld ?_;rotate_left;(focus ((intro w hSw;(try dsimp only at hSw);go_simp);try with_reducible rfl));simp only[gA,gB,Act.put,gD,gE,gF];refine tk (v:=?_) 1 rfl ?_ hHeld ?_;rotate_left;(focus ((intro w hSw;(try dsimp only at hSw);go_simp);try with_reducible rfl));simp only[gA,gB,gC,Act.put,gD,gE,gF];refine tk (v:=?_) 2 rfl ?_ hHeld ?_;rotate_left;(focus ((intro w hSw;(try dsimp only at hSw);go_simp);try with_reducible rfl));simp only[gA,gB,gC,Act.put,gD,gE,gF];refine tk (v:=?_) 3 rfl ?_ hHeld ?_;rotate_left;(focus ((intro w hSw;(try dsimp only at hSw);go_simp);try with_reducible rfl));simp only[gA,gB,gC,Act.put,gD,gE,gF];refine tk (v:=?_) 4 rfl ?_ hHeld ?_;rotate_left;(focus ((intro w hSw;(try dsimp only at hSw);go_simp);try with_reducible rfl));simp only[gA,gB,gC,Act.put,gD,gE,gF];refine tk (v:=?_) 5 rfl ?_ hHeld ?_;rotate_left;(focus ((intro w hSw;(try dsimp only at hSw);go_simp);try with_reducible rfl));simp only[gA,gB,gC,Act.put,gD,gE,gF];refine tk (v:=?_) 6 rfl ?_ hHeld ?_;rotate_left;(focus ((intro w hSw;(try dsimp only at hSw);go_simp);try with_reducible rfl));simp only[gA,gB,gC,Act.put,gD,gE,gF];refine tk (v:=?_) 7 rfl ?_ hHeld ?_;rotate_left;(focus ((intro w hSw;(try dsimp only at hSw);go_simp);try with_reducible rfl));simp only[gA,gB,gC,Act.put,gD,gE,gF]
 refine wpAnyH_done (by kernel_rfl) ?_ _
 show wpList _ _ _ _ _ _
 have gg:=keepsC U.hw g1 l1
 generalize V4.drew=V5 at *
 cases hG:G t with
 | true =>
  rw [hG] at gg
  have hP:P0=(D t,[]):=by have q:=hP0.out;rw [hG] at q;exact q.symm
  obtain⟨d1,d2⟩:=HD.out hG
  have HP0:Hid (POk (m:Int) P0):=by rw [hP];exact pOk_dim d1 d2
  have eP:Hid (D t=P0.1):=by show _=_;rw [hP]
  replace hP:Hid (P0=(D t,[])):=hP
  go_upto_region 9 with fail
  clear gg g1
  refine held_tail 9 (fun W=>W.cell? ⟨fb,1,none⟩=some (.slice (some ⟨b0,o0,none⟩) m C0)/\W.cell? ⟨nb,6,none⟩=some (.int .i64 (t:Int))/\(∀j u,(dimL (D t))[j]?=some u->W.cell? ⟨b0,o0+t*14+j,none⟩=some u)) (by kernel_rfl) (by kernel_rfl) (by have U2:=U.keep (Below.refl _ _).drew;exact⟨U2.t.fd.cell 1 _ rfl,hn6 _ U2.nd,fun j u hj=>keepsC U2.hw (g0.out j u hj) l0⟩) (fun hHeld=>?_)
  simp only [List.take_succ_cons,List.take_zero,List.drop_succ_cons,List.drop_zero]
  replace U:=U.keep (Below.refl _ _).drew
  refine tk (v:=?_) 0 rfl ?_ hHeld ?_;rotate_left;(focus ((intro w hSw;(try dsimp only at hSw);go_simp);try with_reducible rfl));simp only[gA,gB,Act.put,gD,gE,gF];refine tk (v:=?_) 1 rfl ?_ hHeld ?_;rotate_left;(focus ((intro w hSw;(try dsimp only at hSw);go_simp);try with_reducible rfl));simp only[gA,gB,gC,Act.put,gD,gE,gF];refine tk (v:=?_) 2 rfl ?_ hHeld ?_;rotate_left;(focus ((intro w hSw;(try dsimp only at hSw);go_simp);try with_reducible rfl));simp only[gA,gB,gC,Act.put,gD,gE,gF];refine tk (v:=?_) 3 rfl ?_ hHeld ?_;rotate_left;(focus ((intro w hSw;(try dsimp only at hSw);go_simp);try with_reducible rfl));simp only[gA,gB,gC,Act.put,gD,gE,gF];refine tk (v:=?_) 4 rfl ?_ hHeld ?_;rotate_left;(focus ((intro w hSw;(try dsimp only at hSw);go_simp);try with_reducible rfl));simp only[gA,gB,gC,Act.put,gD,gE,gF];refine tk (v:=?_) 5 rfl ?_ hHeld ?_;rotate_left;(focus ((intro w hSw;(try dsimp only at hSw);go_simp);try with_reducible rfl));simp only[gA,gB,gC,Act.put,gD,gE,gF];refine tk (v:=?_) 6 rfl ?_ hHeld ?_;rotate_left;(focus ((intro w hSw;(try dsimp only at hSw);go_simp);try with_reducible rfl));simp only[gA,gB,gC,Act.put,gD,gE,gF];refine tk (v:=?_) 7 rfl ?_ hHeld ?_;rotate_left;(focus ((intro w hSw;(try dsimp only at hSw);go_simp);try with_reducible rfl));simp only[gA,gB,gC,Act.put,gD,gE,gF]
  refine wpAnyH_take (i:=8) (v:=.agg (dimL (D t)).toArray) rfl (by kernel_rfl) (by kernel_rfl) (by kernel_rfl) (fun _ _ _ h=>h) (yields_loadBig (by rfl) _ 30 (by rfl) Try.underlying30 (dimL (D t)) (by kernel_rfl) (by rfl) (fun W hS2=>hS2.2.2) (rfl)) hHeld ?_;simp only[gA,gB,gC,Act.put,gD,gE,gF]
  refine wpAnyH_done (by kernel_rfl) ?_ _
  show wpList _ _ _ _ _ _
  have h1:=U.h1
  have h2:=U.h2
  go_upto_region 11 with (refine wpList_storeMid (off:=1) (by rfl) _ _ 30 (by rfl) U.em (dimL (D t)) (by kernel_rfl) (by rw [fmL_len,dimL_len];decide) (by rfl) (by rfl) (by rfl) ?_;rintro V7 XE5 hs3 hB3 hk3)
  have XE6:BlkAt V7 eb 58 (fmL (.slice Ae m Ce) (D t)):=XE5
  have U3:FFv fb (fdL (some ⟨bn,on,none⟩) n CN (some ⟨b0,o0,none⟩) m C0 (some ⟨b1,o1,none⟩) C1 A2 C2 S g vr) w nb eb x Ae Ce m P0 V7:=⟨hk3 _ _ _ (by omega) U.t.fd,hk3 _ _ _ (by omega) U.nd,by rw [<-eP.out];exact XE6,hk3 _ _ _ (by omega) U.rb,by rw [hP.out];exact (U.re.other U.em (by decide) hk3).congr (fun u _=>(co_nil u).symm),hB3 _ _ U.hw (by omega)⟩
  clear U XE5 XE6 hs3 hB3 hk3
  have U:=U3
  clear U3
  have hS:∀W,(FFv fb (fdL (some ⟨bn,on,none⟩) n CN (some ⟨b0,o0,none⟩) m C0 (some ⟨b1,o1,none⟩) C1 A2 C2 S g vr) w nb eb x Ae Ce m P0 W)->(fun W=>(∀j u,(fmL (.slice Ae m Ce) P0.1)[j]?=some u->W.cell? ⟨eb,0+j,none⟩=some u)/\(∀j u,(fmL (.slice A2 m C2) S)[j]?=some u->W.cell? ⟨fb,3+j,none⟩=some u)/\W.cell? ⟨nb,7,none⟩=some (.int .i64 x.d)) W:=fun W h=>⟨fun j u hj=>h.em.cell0 j u hj,fun j u hj=>by have q:=h.fd.cell (3+j) u (by rw [Nat.add_comm];exact List.getElem?_append_left (l₂:=[.slice (some ⟨g,0,none⟩) n n,vr]) (List.getElem?_eq_some_iff.1 hj).1 ▸ hj);exact q,h.nd.cell 7 _ rfl⟩
  have cj:∀W,(FFv fb (fdL (some ⟨bn,on,none⟩) n CN (some ⟨b0,o0,none⟩) m C0 (some ⟨b1,o1,none⟩) C1 A2 C2 S g vr) w nb eb x Ae Ce m P0 W)->Calls Try.prog 45 #[fmV (.slice Ae m Ce) P0.1,fmV (.slice A2 m C2) S,.agg #[.int .i64 (-x.d),.int .i64 1]] W fun r w'=>PjAns r w' m TT/\Below W.heap.size W w':=fun W h=>by
   rw [<-hTT.out]
   exact fjoin_w m hm P0 (S,[]) (-x.d,1) HP0.out HPS.out (FG.nil (G:=G)) HPd.out Ae A2 Ce C2 W h.re ((T0.r2.keep h.hw).congr fun u _=>(co_nil u).symm)
  refine held_tail 13 (fun W=>(∀j u,(fmL (.slice Ae m Ce) P0.1)[j]?=some u->W.cell? ⟨eb,0+j,none⟩=some u)/\(∀j u,(fmL (.slice A2 m C2) S)[j]?=some u->W.cell? ⟨fb,3+j,none⟩=some u)/\W.cell? ⟨nb,7,none⟩=some (.int .i64 x.d)) (by kernel_rfl) (by kernel_rfl) (hS _ (U.keep (Below.refl _ _).drew)) (fun hHeld=>?_)
  simp only [List.take_succ_cons,List.take_zero,List.drop_succ_cons,List.drop_zero]
  replace U:=U.keep (Below.refl _ _).drew
  refine wpAnyH_take (i:=0) (v:=fmV (.slice Ae m Ce) P0.1) rfl (by kernel_rfl) (by kernel_rfl) (by kernel_rfl) (fun _ _ _ h=>h) (yields_loadBig (by rfl) _ 58 (by rfl) Try.underlying58 (fmL (.slice Ae m Ce) P0.1) (by kernel_rfl) (by rfl) (fun W hS2=>hS2.1) (fm_val _ _)) hHeld ?_;simp only[gA,gB,Act.put,gD,gE,gF]
  refine tk (v:=?_) 1 rfl ?_ hHeld ?_;rotate_left;(focus ((intro w hSw;(try dsimp only at hSw);go_simp);try with_reducible rfl));simp only[gA,gB,gC,Act.put,gD,gE,gF];refine tk (v:=?_) 2 rfl ?_ hHeld ?_;rotate_left;(focus ((intro w hSw;(try dsimp only at hSw);go_simp);try with_reducible rfl));simp only[gA,gB,gC,Act.put,gD,gE,gF];refine tk (v:=?_) 3 rfl ?_ hHeld ?_;rotate_left;(focus ((intro w hSw;(try dsimp only at hSw);go_simp);try with_reducible rfl));simp only[gA,gB,gC,Act.put,gD,gE,gF]
  refine wpAnyH_take (i:=4) (v:=fmV (.slice A2 m C2) S) rfl (by kernel_rfl) (by kernel_rfl) (by kernel_rfl) (fun _ _ _ h=>h) (yields_loadBig (by rfl) _ 58 (by rfl) Try.underlying58 (fmL (.slice A2 m C2) S) (by kernel_rfl) (by rfl) (fun W hS2=>hS2.2.1) (fm_val _ _)) hHeld ?_;simp only[gA,gB,gC,Act.put,gD,gE,gF]
  refine tk (v:=?_) 5 rfl ?_ hHeld ?_;rotate_left;(focus ((intro w hSw;(try dsimp only at hSw);go_simp);try with_reducible rfl));simp only[gA,gB,gC,Act.put,gD,gE,gF];refine tk (v:=?_) 6 rfl ?_ hHeld ?_;rotate_left;(focus ((intro w hSw;(try dsimp only at hSw);go_simp);try with_reducible rfl));simp only[gA,gB,gC,Act.put,gD,gE,gF];refine tk (v:=?_) 7 rfl ?_ hHeld ?_;rotate_left;(focus ((intro w hSw;(try dsimp only at hSw);go_simp);try with_reducible rfl));simp only[gA,gB,gC,Act.put,gD,gE,gF];refine tk (v:=?_) 8 rfl ?_ hHeld ?_;rotate_left;(focus ((intro w hSw;(try dsimp only at hSw);go_simp);try with_reducible rfl));simp only[gA,gB,gC,Act.put,gD,gE,gF]
  rw [hwr.out] at cw cj
  refine rd 9 rfl (fun K hK=>?_);simp only[gA,gB,gC,Act.put,gD,gE,gF];go_simp
  go_at_call 44
  (with_reducible refine (cw _).mono ?_)
  rintro _ W8 ⟨rfl,hb1⟩
  replace U:=U.keep hb1
  clear hb1
  dsimp only
  refine hK.out _ _ (hS _ U) (fun hHeld=>?_)
  clear hK K
  refine rd 10 rfl (fun K hK=>?_);simp only[gA,gB,gC,Act.put,gD,gE,gF];go_simp
  go_at_call 45
  (with_reducible refine (cj _ U).mono ?_)
  rintro r W9 ⟨hM,hb1⟩
  replace U:=U.keep hb1
  clear hb1
  cases TT with
  | none =>
   obtain⟨A9,C9,E9,hr⟩:=hM
   replace hr:r=.returned (.tuple #[.agg #[.slice A9 m C9,.int .i64 (E9 0).1,.int .i64 (E9 0).2,.int .i64 (E9 1).1,.int .i64 (E9 1).2,.int .i64 (E9 2).1,.int .i64 (E9 2).2,.int .i64 (E9 3).1,.int .i64 (E9 3).2,.int .i64 (E9 4).1,.int .i64 (E9 4).2,.int .i64 (E9 5).1,.int .i64 (E9 5).2,.int .i64 (E9 6).1,.int .i64 (E9 6).2],.bool false]):=hr
   subst hr
   dsimp only
   refine hK.out _ _ (hS _ U) (fun hHeld=>?_)
   clear hK K
   refine tk (v:=?_) 11 rfl ?_ hHeld ?_;rotate_left;(focus ((intro w hSw;(try dsimp only at hSw);go_simp);try with_reducible rfl));simp only[gA,gB,gC,Act.put,gD,gE,gF];refine tk (v:=?_) 12 rfl ?_ hHeld ?_;rotate_left;(focus ((intro w hSw;(try dsimp only at hSw);go_simp);try with_reducible rfl));simp only[gA,gB,gC,Act.put,gD,gE,gF]
   refine wpAnyH_done (by kernel_rfl) ?_ _
   show wpList _ _ _ _ _ _
   have RB5:=U.rb
   go_wp2_with (first
    | (refine wpList_storeBig (by rfl) _ _ 58 (by rfl) (RB5) (fmL (.slice A9 m C9) E9) (by kernel_rfl) (by rfl) (by rfl) (by rfl) (by rfl) ?_;rintro V6 XR hs2 hB2 hk2))
   have HB6:=hB2 _ _ U.hw (Nat.le_refl _)
   exact bodyPost_ret (v:=.tuple #[fmV (.slice A9 m C9) E9,.bool false]) (results_cell_tmp Try.results25 _ V6 w.heap.size 58 (fmL (.slice A9 m C9) E9).toArray (0,0) _ (by rfl) XR Try.underlying58 (by rfl) (by kernel_rfl) (by rfl)) rfl ⟨⟨A9,C9,E9,rfl⟩,HB6.mono (by omega)⟩
  | some Y =>
   obtain⟨A9,C9,hr,rY⟩:=hM
   replace hr:r=.returned (.tuple #[.agg #[.slice A9 m C9,.int .i64 (Y.1 0).1,.int .i64 (Y.1 0).2,.int .i64 (Y.1 1).1,.int .i64 (Y.1 1).2,.int .i64 (Y.1 2).1,.int .i64 (Y.1 2).2,.int .i64 (Y.1 3).1,.int .i64 (Y.1 3).2,.int .i64 (Y.1 4).1,.int .i64 (Y.1 4).2,.int .i64 (Y.1 5).1,.int .i64 (Y.1 5).2,.int .i64 (Y.1 6).1,.int .i64 (Y.1 6).2],.bool true]):=hr
   subst hr
   dsimp only
   refine hK.out _ _ (hS _ U) (fun hHeld=>?_)
   clear hK K
   refine tk (v:=?_) 11 rfl ?_ hHeld ?_;rotate_left;(focus ((intro w hSw;(try dsimp only at hSw);go_simp);try with_reducible rfl));simp only[gA,gB,gC,Act.put,gD,gE,gF];refine tk (v:=?_) 12 rfl ?_ hHeld ?_;rotate_left;(focus ((intro w hSw;(try dsimp only at hSw);go_simp);try with_reducible rfl));simp only[gA,gB,gC,Act.put,gD,gE,gF]
   refine wpAnyH_done (by kernel_rfl) ?_ _
   show wpList _ _ _ _ _ _
   have RB5:=U.rb
   go_wp2_with (first
    | (refine wpList_storeBig (by rfl) _ _ 58 (by rfl) (RB5) (fmL (.slice A9 m C9) Y.1) (by kernel_rfl) (by rfl) (by rfl) (by rfl) (by rfl) ?_;rintro V6 XR hs2 hB2 hk2))
   have HB6:=hB2 _ _ U.hw (Nat.le_refl _)
   exact bodyPost_ret (v:=.tuple #[fmV (.slice A9 m C9) Y.1,.bool true]) (results_cell_tmp Try.results25 _ V6 w.heap.size 58 (fmL (.slice A9 m C9) Y.1).toArray (0,0) _ (by rfl) XR Try.underlying58 (by rfl) (by kernel_rfl) (by rfl)) rfl ⟨⟨A9,C9,vr,[],rfl,rY.other RB5 (by decide) hk2,by rw [List.append_nil];exact T0.keep HB6,rfl⟩,HB6.mono (by omega)⟩
 | false =>
  rw [hG] at gg
  have hP:P0=(plE,[((t:Int),(1,1))]):=by have q:=hP0.out;rw [hG] at q;exact q.symm
  have HP0:Hid (POk (m:Int) P0):=by rw [hP];exact pOk_unk ⟨by omega,by omega⟩
  replace hP:Hid (P0=(plE,[((t:Int),(1,1))])):=hP
  obtain⟨be,cs,hbe,lbe,hcs⟩:=U.re (by omega)
  replace hbe:Hid (Ae=some ⟨be,0,none⟩):=hbe
  have HCS:Hid (∀i,i<m->cs[i*2]?=some (.int .i64 ((fun _=>(0,1):Nat->Int×Int) i).1)/\cs[i*2+1]?=some (.int .i64 ((fun _=>(0,1):Nat->Int×Int) i).2)):=hcs
  have hcl:t*2+1<cs.length:=(List.getElem?_eq_some_iff.1 (hcs t htm).2).1
  clear hcs
  go_upto_region 10 with fail
  clear gg g1
  refine held_tail 7 (fun W=>W.cell? ⟨eb,0,none⟩=some (.slice (some ⟨be,0,none⟩) m Ce)/\W.cell? ⟨nb,6,none⟩=some (.int .i64 (t:Int))) (by kernel_rfl) (by kernel_rfl) (by have U2:=U.keep (Below.refl _ _).drew;exact⟨by have q:=U2.em.cell 0 _ rfl;rw [hbe.out] at q;exact q,hn6 _ U2.nd⟩) (fun hHeld=>?_)
  simp only [List.take_succ_cons,List.take_zero,List.drop_succ_cons,List.drop_zero]
  replace U:=U.keep (Below.refl _ _).drew
  replace lbe:=lbe.keeps (Below.refl _ _).drew
  refine tk (v:=?_) 0 rfl ?_ hHeld ?_;rotate_left;(focus ((intro w hSw;(try dsimp only at hSw);go_simp);try with_reducible rfl));simp only[gA,gB,Act.put,gD,gE,gF];refine tk (v:=?_) 1 rfl ?_ hHeld ?_;rotate_left;(focus ((intro w hSw;(try dsimp only at hSw);go_simp);try with_reducible rfl));simp only[gA,gB,gC,Act.put,gD,gE,gF];refine tk (v:=?_) 2 rfl ?_ hHeld ?_;rotate_left;(focus ((intro w hSw;(try dsimp only at hSw);go_simp);try with_reducible rfl));simp only[gA,gB,gC,Act.put,gD,gE,gF];refine tk (v:=?_) 3 rfl ?_ hHeld ?_;rotate_left;(focus ((intro w hSw;(try dsimp only at hSw);go_simp);try with_reducible rfl));simp only[gA,gB,gC,Act.put,gD,gE,gF];refine tk (v:=?_) 4 rfl ?_ hHeld ?_;rotate_left;(focus ((intro w hSw;(try dsimp only at hSw);go_simp);try with_reducible rfl));simp only[gA,gB,gC,Act.put,gD,gE,gF]
  refine rd 5 rfl (fun K hK=>?_);simp only[gA,gB,gC,Act.put,gD,gE,gF];go_simp
  go_at_call 44
  (with_reducible refine (cw1 _).mono ?_)
  rintro _ W8 ⟨rfl,hb1⟩
  replace U:=U.keep hb1
  replace lbe:=lbe.keeps hb1
  clear hb1
  dsimp only
  refine hK.out _ _ ⟨by have q:=U.em.cell 0 _ rfl;rw [hbe.out] at q;exact q,hn6 _ U.nd⟩ (fun hHeld=>?_)
  clear hK K
  refine tk (v:=?_) 6 rfl ?_ hHeld ?_;rotate_left;(focus ((intro w hSw;(try dsimp only at hSw);go_simp);try with_reducible rfl));simp only[gA,gB,gC,Act.put,gD,gE,gF]
  refine wpAnyH_done (by kernel_rfl) ?_ _
  show wpList _ _ _ _ _ _
  have h1:=U.h1
  have h2:=U.h2
  obtain⟨be2,hbe2,hbl⟩:=hAe (by omega)
  have ebe:be=be2:=by rw [hbe.out] at hbe2;injection hbe2 with hbe2;injection hbe2
  subst ebe
  clear hbe2
  go_upto_region 11 with (refine wpList_storeMid (off:=t*2) (by rfl) _ _ 27 (by rfl) lbe [.int .i64 1,.int .i64 1] (by kernel_rfl) (show t*2+2<=cs.length by omega) (by rfl) (by rfl) (by rfl) ?_;rintro V7 XE5 hs3 hB3 hk3)
  have ne1:=lbe.apart U.t.fd (by decide)
  have ne2:=lbe.apart U.nd (by decide)
  have ne3:=lbe.apart U.em (by decide)
  have ne4:=lbe.apart U.rb (by decide)
  have U3:FFv fb (fdL (some ⟨bn,on,none⟩) n CN (some ⟨b0,o0,none⟩) m C0 (some ⟨b1,o1,none⟩) C1 A2 C2 S g vr) w nb eb x Ae Ce m P0 V7:=⟨hk3 _ _ _ ne1 U.t.fd,hk3 _ _ _ ne2 U.nd,by rw [hP.out];exact hk3 _ _ _ ne3 U.em,hk3 _ _ _ ne4 U.rb,by rw [hP.out,hbe.out];exact (RtAt.one (e:=(1,1)) HCS.out htm XE5).congr (fun u _=>(coF_unk t u).symm),hB3 _ _ U.hw hbl⟩
  clear U XE5 hs3 hB3 hk3
  have U:=U3
  clear U3
  have hS:∀W,(FFv fb (fdL (some ⟨bn,on,none⟩) n CN (some ⟨b0,o0,none⟩) m C0 (some ⟨b1,o1,none⟩) C1 A2 C2 S g vr) w nb eb x Ae Ce m P0 W)->(fun W=>(∀j u,(fmL (.slice Ae m Ce) P0.1)[j]?=some u->W.cell? ⟨eb,0+j,none⟩=some u)/\(∀j u,(fmL (.slice A2 m C2) S)[j]?=some u->W.cell? ⟨fb,3+j,none⟩=some u)/\W.cell? ⟨nb,7,none⟩=some (.int .i64 x.d)) W:=fun W h=>⟨fun j u hj=>h.em.cell0 j u hj,fun j u hj=>by have q:=h.fd.cell (3+j) u (by rw [Nat.add_comm];exact List.getElem?_append_left (l₂:=[.slice (some ⟨g,0,none⟩) n n,vr]) (List.getElem?_eq_some_iff.1 hj).1 ▸ hj);exact q,h.nd.cell 7 _ rfl⟩
  have cj:∀W,(FFv fb (fdL (some ⟨bn,on,none⟩) n CN (some ⟨b0,o0,none⟩) m C0 (some ⟨b1,o1,none⟩) C1 A2 C2 S g vr) w nb eb x Ae Ce m P0 W)->Calls Try.prog 45 #[fmV (.slice Ae m Ce) P0.1,fmV (.slice A2 m C2) S,.agg #[.int .i64 (-x.d),.int .i64 1]] W fun r w'=>PjAns r w' m TT/\Below W.heap.size W w':=fun W h=>by
   rw [<-hTT.out]
   exact fjoin_w m hm P0 (S,[]) (-x.d,1) HP0.out HPS.out (FG.nil (G:=G)) HPd.out Ae A2 Ce C2 W h.re ((T0.r2.keep h.hw).congr fun u _=>(co_nil u).symm)
  refine held_tail 13 (fun W=>(∀j u,(fmL (.slice Ae m Ce) P0.1)[j]?=some u->W.cell? ⟨eb,0+j,none⟩=some u)/\(∀j u,(fmL (.slice A2 m C2) S)[j]?=some u->W.cell? ⟨fb,3+j,none⟩=some u)/\W.cell? ⟨nb,7,none⟩=some (.int .i64 x.d)) (by kernel_rfl) (by kernel_rfl) (hS _ (U.keep (Below.refl _ _).drew)) (fun hHeld=>?_)
  simp only [List.take_succ_cons,List.take_zero,List.drop_succ_cons,List.drop_zero]
  replace U:=U.keep (Below.refl _ _).drew
  refine wpAnyH_take (i:=0) (v:=fmV (.slice Ae m Ce) P0.1) rfl (by kernel_rfl) (by kernel_rfl) (by kernel_rfl) (fun _ _ _ h=>h) (yields_loadBig (by rfl) _ 58 (by rfl) Try.underlying58 (fmL (.slice Ae m Ce) P0.1) (by kernel_rfl) (by rfl) (fun W hS2=>hS2.1) (fm_val _ _)) hHeld ?_;simp only[gA,gB,Act.put,gD,gE,gF]
  refine tk (v:=?_) 1 rfl ?_ hHeld ?_;rotate_left;(focus ((intro w hSw;(try dsimp only at hSw);go_simp);try with_reducible rfl));simp only[gA,gB,gC,Act.put,gD,gE,gF];refine tk (v:=?_) 2 rfl ?_ hHeld ?_;rotate_left;(focus ((intro w hSw;(try dsimp only at hSw);go_simp);try with_reducible rfl));simp only[gA,gB,gC,Act.put,gD,gE,gF];refine tk (v:=?_) 3 rfl ?_ hHeld ?_;rotate_left;(focus ((intro w hSw;(try dsimp only at hSw);go_simp);try with_reducible rfl));simp only[gA,gB,gC,Act.put,gD,gE,gF]
  refine wpAnyH_take (i:=4) (v:=fmV (.slice A2 m C2) S) rfl (by kernel_rfl) (by kernel_rfl) (by kernel_rfl) (fun _ _ _ h=>h) (yields_loadBig (by rfl) _ 58 (by rfl) Try.underlying58 (fmL (.slice A2 m C2) S) (by kernel_rfl) (by rfl) (fun W hS2=>hS2.2.1) (fm_val _ _)) hHeld ?_;simp only[gA,gB,gC,Act.put,gD,gE,gF]
  refine tk (v:=?_) 5 rfl ?_ hHeld ?_;rotate_left;(focus ((intro w hSw;(try dsimp only at hSw);go_simp);try with_reducible rfl));simp only[gA,gB,gC,Act.put,gD,gE,gF];refine tk (v:=?_) 6 rfl ?_ hHeld ?_;rotate_left;(focus ((intro w hSw;(try dsimp only at hSw);go_simp);try with_reducible rfl));simp only[gA,gB,gC,Act.put,gD,gE,gF];refine tk (v:=?_) 7 rfl ?_ hHeld ?_;rotate_left;(focus ((intro w hSw;(try dsimp only at hSw);go_simp);try with_reducible rfl));simp only[gA,gB,gC,Act.put,gD,gE,gF];refine tk (v:=?_) 8 rfl ?_ hHeld ?_;rotate_left;(focus ((intro w hSw;(try dsimp only at hSw);go_simp);try with_reducible rfl));simp only[gA,gB,gC,Act.put,gD,gE,gF]
  rw [hwr.out] at cw cj
  refine rd 9 rfl (fun K hK=>?_);simp only[gA,gB,gC,Act.put,gD,gE,gF];go_simp
  go_at_call 44
  (with_reducible refine (cw _).mono ?_)
  rintro _ W8 ⟨rfl,hb1⟩
  replace U:=U.keep hb1
  clear hb1
  dsimp only
  refine hK.out _ _ (hS _ U) (fun hHeld=>?_)
  clear hK K
  refine rd 10 rfl (fun K hK=>?_);simp only[gA,gB,gC,Act.put,gD,gE,gF];go_simp
  go_at_call 45
  (with_reducible refine (cj _ U).mono ?_)
  rintro r W9 ⟨hM,hb1⟩
  replace U:=U.keep hb1
  clear hb1
  cases TT with
  | none =>
   obtain⟨A9,C9,E9,hr⟩:=hM
   replace hr:r=.returned (.tuple #[.agg #[.slice A9 m C9,.int .i64 (E9 0).1,.int .i64 (E9 0).2,.int .i64 (E9 1).1,.int .i64 (E9 1).2,.int .i64 (E9 2).1,.int .i64 (E9 2).2,.int .i64 (E9 3).1,.int .i64 (E9 3).2,.int .i64 (E9 4).1,.int .i64 (E9 4).2,.int .i64 (E9 5).1,.int .i64 (E9 5).2,.int .i64 (E9 6).1,.int .i64 (E9 6).2],.bool false]):=hr
   subst hr
   dsimp only
   refine hK.out _ _ (hS _ U) (fun hHeld=>?_)
   clear hK K
   refine tk (v:=?_) 11 rfl ?_ hHeld ?_;rotate_left;(focus ((intro w hSw;(try dsimp only at hSw);go_simp);try with_reducible rfl));simp only[gA,gB,gC,Act.put,gD,gE,gF];refine tk (v:=?_) 12 rfl ?_ hHeld ?_;rotate_left;(focus ((intro w hSw;(try dsimp only at hSw);go_simp);try with_reducible rfl));simp only[gA,gB,gC,Act.put,gD,gE,gF]
   refine wpAnyH_done (by kernel_rfl) ?_ _
   show wpList _ _ _ _ _ _
   have RB5:=U.rb
   go_wp2_with (first
    | (refine wpList_storeBig (by rfl) _ _ 58 (by rfl) (RB5) (fmL (.slice A9 m C9) E9) (by kernel_rfl) (by rfl) (by rfl) (by rfl) (by rfl) ?_;rintro V6 XR hs2 hB2 hk2))
   have HB6:=hB2 _ _ U.hw (Nat.le_refl _)
   exact bodyPost_ret (v:=.tuple #[fmV (.slice A9 m C9) E9,.bool false]) (results_cell_tmp Try.results25 _ V6 w.heap.size 58 (fmL (.slice A9 m C9) E9).toArray (0,0) _ (by rfl) XR Try.underlying58 (by rfl) (by kernel_rfl) (by rfl)) rfl ⟨⟨A9,C9,E9,rfl⟩,HB6.mono (by omega)⟩
  | some Y =>
   obtain⟨A9,C9,hr,rY⟩:=hM
   replace hr:r=.returned (.tuple #[.agg #[.slice A9 m C9,.int .i64 (Y.1 0).1,.int .i64 (Y.1 0).2,.int .i64 (Y.1 1).1,.int .i64 (Y.1 1).2,.int .i64 (Y.1 2).1,.int .i64 (Y.1 2).2,.int .i64 (Y.1 3).1,.int .i64 (Y.1 3).2,.int .i64 (Y.1 4).1,.int .i64 (Y.1 4).2,.int .i64 (Y.1 5).1,.int .i64 (Y.1 5).2,.int .i64 (Y.1 6).1,.int .i64 (Y.1 6).2],.bool true]):=hr
   subst hr
   dsimp only
   refine hK.out _ _ (hS _ U) (fun hHeld=>?_)
   clear hK K
   refine tk (v:=?_) 11 rfl ?_ hHeld ?_;rotate_left;(focus ((intro w hSw;(try dsimp only at hSw);go_simp);try with_reducible rfl));simp only[gA,gB,gC,Act.put,gD,gE,gF];refine tk (v:=?_) 12 rfl ?_ hHeld ?_;rotate_left;(focus ((intro w hSw;(try dsimp only at hSw);go_simp);try with_reducible rfl));simp only[gA,gB,gC,Act.put,gD,gE,gF]
   refine wpAnyH_done (by kernel_rfl) ?_ _
   show wpList _ _ _ _ _ _
   have RB5:=U.rb
   go_wp2_with (first
    | (refine wpList_storeBig (by rfl) _ _ 58 (by rfl) (RB5) (fmL (.slice A9 m C9) Y.1) (by kernel_rfl) (by rfl) (by rfl) (by rfl) (by rfl) ?_;rintro V6 XR hs2 hB2 hk2))
   have HB6:=hB2 _ _ U.hw (Nat.le_refl _)
   exact bodyPost_ret (v:=.tuple #[fmV (.slice A9 m C9) Y.1,.bool true]) (results_cell_tmp Try.results25 _ V6 w.heap.size 58 (fmL (.slice A9 m C9) Y.1).toArray (0,0) _ (by rfl) XR Try.underlying58 (by rfl) (by kernel_rfl) (by rfl)) rfl ⟨⟨A9,C9,vr,[],rfl,rY.other RB5 (by decide) hk2,by rw [List.append_nil];exact T0.keep HB6,rfl⟩,HB6.mono (by omega)⟩
end Go.Proofs.Ytbejmklkicoibaa
