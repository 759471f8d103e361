/- unit.rulesOf: what must be plain, of all nodes that are needed. An unknown's exponent in a product: found by halving. -/
import Derived.Test.YtbejmklkicoibaaKe25
namespace Go.Proofs.Ytbejmklkicoibaa
open Go.ChangeShapes Go.WideShapes Go.ChangeAt Go.RowKit
theorem stateF_none {X:Nat->Nd} {N G:Nat->Bool} {D:Nat->Nat->Int×Int} {S0:Nat->Int×Int} {i:Nat} (h:stateF X N G D S0 i=none):∀n,i<=n->stateF X N G D S0 n=none
 | 0,hn=>by rw [show i=0 by omega] at h;exact h
 | n+1,hn=>by
  by_cases c:i=n+1
  ·rw [<-c];exact h
  ·rw [stateF,stateF_none h n (by omega)];rfl
theorem DimsIn.congr {w:World} {g n:Nat} {K J:Nat->Prop} {Q:Nat->Pro} (h:DimsIn w g n K Q) (e:∀i,J i->K i):DimsIn w g n J Q:=by
 obtain⟨cs,b,l,f⟩:=h
 exact⟨cs,b,l,fun i hi=>f i (e i hi)⟩
theorem OwnRw.base {B B':Nat} {w:World} {v:Value} {L:List PV} (h:OwnRw B w v L) (hb:B'<=B):OwnRw B' w v L:=by
 refine⟨h.1, ?_⟩
 rcases h.2 with hn | ⟨g,cap,cur,hv,hb2,rest⟩
 ·exact .inl hn
 ·exact .inr ⟨g,cap,cur,hv,Nat.le_trans hb hb2,rest⟩
theorem DimsIn.grow {w W:World} {g n:Nat} {K:Nat->Prop} {Q:Nat->Pro} (h:DimsIn w g n K Q) (b:Below (g+1) w W) (k:∀N,PvOk w N->PvOk W N):DimsIn W g n K Q:=by
 obtain⟨cs,bk,l,f⟩:=h
 refine⟨cs,bk.keep b (by omega),l,fun i hi=>?_⟩
 obtain⟨h1,A',c,h2,h3,h4⟩:=f i hi
 have q:=k [(Q i,.slice A' (Q i).2.length c)] (fun x hx=>by rw [List.mem_singleton.1 hx];exact⟨A',c,rfl,h2,h3⟩) _ (List.mem_singleton.2 rfl)
 obtain⟨A2,c2,e,l2,f2⟩:=q
 injection e with e1 _ e2
 subst e1 e2
 exact⟨h1,_,_,h2,f2,h4⟩
def RsAns (B:Nat) (r:Ending) (w:World) (R:Option (List Pro)):Prop:=(∃(L:List PV) (v:Value),R=some (L.map (·.1))/\r=.returned v/\OwnRw B w v L/\PvOk w L)\/(R=none/\r=.panicked (stopP 3))
theorem RlAns.yes {r:Ending} {w:World} {Z:List Pro} (h:RlAns r w (some Z)):∃(L:List PV) (A:Option Addr) (C:Nat),Z=L.map (·.1)/\r=.returned (.slice A L.length C)/\PvOk w L/\(L≠[]->∃b,A=some ⟨b,0,none⟩/\BlkAt w b 79 (proLs L)):=by
 rcases h with ⟨L,A,C,e,r⟩ | ⟨e,_⟩
 ·exact⟨L,A,C,Option.some.inj e,r⟩
 ·cases e
theorem RlAns.no {r:Ending} {w:World} (h:RlAns r w none):r=.panicked (stopP 3):=by
 rcases h with ⟨L,A,C,e,_⟩ | ⟨_,hr⟩
 ·cases e
 ·exact hr
set_option maxRecDepth 4000 in
set_option maxHeartbeats 8000000 in
theorem urules_w (AN:Option Addr) (n CN:Nat) (X:Nat->Nd) (g0:Nat) (N:Nat->Bool) (A0 A1:Option Addr) (n0 C0 C1:Nat) (D:Nat->Nat->Int×Int) (G:Nat->Bool) (S:Nat->Int×Int)
   (hn:n<=4000) (hn0:n0<=500) (hX:∀i,i<n->(X i).Ok) (hF:∀i,i<n->N i=true->Fit (X i) i n0) (hN:∀i,i<n->N i=true->∀j,j<(X i).ar->N ((X i).at j).toNat=true)
   (hS:Dim64 S) (rS:drK S 7=true) (hD:∀v,v<n0->G v=true->Dim64 (D v)/\drK (D v) 7=true) (w:World) (VN:Nds w AN n X) (VC:Cel w g0 n (fun i=>.bool (N i))) (VD:Dms w A0 n0 D) (VG:Bls w A1 n0 G) :
   Calls Try.prog 19 #[.slice AN n CN,.slice (some ⟨g0,0,none⟩) n n,vrV (.slice A0 n0 C0) (.slice A1 n0 C1) S] w fun r w'=>RsAns w.heap.size r w' ((stateF X N G D S n).map (·.2))/\Below w.heap.size w w':=by
 obtain⟨R,hR⟩:∃R,Hid (stateF X N G D S n=R):=⟨_,rfl⟩
 rw [hR.out]
 have HX:Hid (∀i,i<n->(X i).Ok):=hX
 have HF:Hid (∀i,i<n->N i=true->Fit (X i) i n0):=hF
 have HN:Hid (∀i,i<n->N i=true->∀j,j<(X i).ar->N ((X i).at j).toNat=true):=hN
 have HS:Hid (Dim64 S/\drK S 7=true):=⟨hS,rS⟩
 have HD:Hid (∀v,v<n0->G v=true->Dim64 (D v)/\drK (D v) 7=true):=hD
 clear hX hF hN hS rS hD
 obtain⟨XV,HB⟩:=blks1 w 43 (vrL (.slice A0 n0 C0) (.slice A1 n0 C1) S)
 show Calls Try.prog _ #[_,_,.agg #[.slice A0 n0 C0,.slice A1 n0 C1,.int .i64 (S 0).1,.int .i64 (S 0).2,.int .i64 (S 1).1,.int .i64 (S 1).2,.int .i64 (S 2).1,.int .i64 (S 2).2,.int .i64 (S 3).1,.int .i64 (S 3).2,.int .i64 (S 4).1,.int .i64 (S 4).2,.int .i64 (S 5).1,.int .i64 (S 5).2,.int .i64 (S 6).1,.int .i64 (S 6).2]] w _
 unfold vrL at XV HB
 go_enter Try.func19,Try.ntmps19
 go_upto_region 1 with fail
 generalize (w.alloc (.cells #[.slice A0 n0 C0,.slice A1 n0 C1,.int .i64 (S 0).1,.int .i64 (S 0).2,.int .i64 (S 1).1,.int .i64 (S 1).2,.int .i64 (S 2).1,.int .i64 (S 2).2,.int .i64 (S 3).1,.int .i64 (S 3).2,.int .i64 (S 4).1,.int .i64 (S 4).2,.int .i64 (S 5).1,.int .i64 (S 5).2,.int .i64 (S 6).1,.int .i64 (S 6).2] 43))=V1 at *
 go_wp2_with (at_make;refine wpList_makeP (by rfl) _ _ (by rfl) n (by rfl) (by rfl) (by omega) ?_;intro w3 ID hb3)
 obtain⟨cs0,ID1,ID2⟩:=ID
 have DI:DimsIn w3 V1.heap.size n (fun j=>j<0/\N j=true) (fun _=>(plE,[])):=⟨cs0,ID1,ID2,fun i hi=>absurd hi.1 (by omega)⟩
 have hg3:V1.heap.size+1<=w3.heap.size:=ID1.lt
 clear ID1 ID2
 have hgv:w.heap.size<V1.heap.size:=XV.lt
 replace XV:=XV.keeps hb3
 replace HB:=later HB hb3
 clear hb3
 obtain⟨g,hg⟩:∃g,g=V1.heap.size:=⟨_,rfl⟩
 rw [<-hg] at DI hg3 hgv ⊢
 clear hg
 go_loopg [7,16] n (fun T s7 s16 wx=>∃(i:Nat) (st:(Nat->Pro)×List Pro) (L:List PV),i+T=n/\s16=.int .i64 (i:Int)/\Hid (stateF X N G D S i=some st)/\Hid (st.2=L.map (·.1))/\OwnRw (g+1) wx s7 L/\PvOk wx L/\DimsIn wx g n (fun j=>j<i/\N j=true) st.1/\BlkAt wx w.heap.size 43 (vrL (.slice A0 n0 C0) (.slice A1 n0 C1) S)/\Below w.heap.size w wx/\Hid (L.length<=i)/\Hid (∀j,j<i->N j=true->POk n0 (st.1 j))/\g+1<=wx.heap.size)
 case atStart=>exact⟨0,(fun _=>(plE,[]),[]),[],by omega,rfl,rfl,rfl,ownRw_nil _ _,pvOk_nil _,DI,XV,HB,Nat.le_refl 0,(fun j hj=>absurd hj (by omega)),hg3⟩
 case round =>
   clear DI XV HB hg3
   obtain⟨i,st,L,hi,rfl,hst,hL,I,PV0,DI,XV,HB,hlen,hok,hg3⟩:=hrel
   by_cases ci:i=n
   · have e1:Hid (R=some st):=by have q:=hR.out;subst ci;rw [hst.out] at q;exact q.symm
     clear hR hst
     subst ci
     obtain⟨A7,C7,e7,hc7⟩:=I.form
     subst e7
     go_wp2_with fail
     go_ret
     exact⟨Or.inl ⟨L,_,by rw [e1.out];exact congrArg some hL.out,rfl,I.base (by omega),PV0⟩,HB⟩
   · have hin:i<n:=by omega
     have hlt:(i:Int)<(n:Int):=by omega
     obtain⟨b,o,hA,hb, -⟩:=(VN.keep HB) i hin
     subst hA
     obtain⟨x,hx⟩:∃x,x=X i:=⟨_,rfl⟩
     have xc:Hid (∀j c,(ndL x)[j]?=some c->wr.cell? ⟨b,o+i*22+j,none⟩=some c):=by rw [hx];exact ((VN.keep HB).at (i:=i) hin).2
     replace hx:Hid (x=X i):=hx
     go_upto_region 6 with (first
       | (refine wpList_loadBig (by rfl) _ 54 (by rfl) Try.underlying54 (ndL x) (by kernel_rfl) (by rfl) (xc.out) (nd_val x) ?_)
       | (refine wpList_storeBig (by rfl) _ _ 54 (by rfl) (blk_new _ _ _) (ndL x) (by kernel_rfl) (by rfl) (by rfl) (by rfl) (by rfl) ?_;rintro V2 XB hs2 hB2 hk2))
     have hg0:g<wr.heap.size:=by omega
     have grw:Below wr.heap.size wr V2:=hB2 _ _ (Below.alloc (Below.refl _ _) (Nat.le_refl _) _) (Nat.le_refl _)
     replace HB:=later HB grw
     replace XV:=XV.keeps grw
     replace DI:=DI.keep grw
     replace I:=I.keep grw
     replace PV0:=PV0.keep grw
     replace hg3:g+1<=V2.heap.size:=Nat.le_trans hg3 grw.size
     have cn:=((VC.keep HB).2 i hin).1
     obtain⟨xb,hxb⟩:∃xb,xb=wr.heap.size:=⟨_,rfl⟩
     have hxg:g<wr.heap.size:=hg0
     rw [<-hxb] at XB hxg ⊢
     clear hxb hB2 hk2 hs2 grw xc
     dsimp only at cn
     cases hNi:N i with
     | false =>
       have hst2:Hid (stateF X N G D S (i+1)=some st):=by
         show stateF X N G D S (i+1)=some st
         rw [stateF,hst.out]
         simp [hNi]
       rw [hNi] at cn
       have hNi2:Hid (N i=false):=hNi
       have DI2:DimsIn V2 g n (fun j=>j<i+1/\N j=true) st.1:=DI.congr fun j hj=>⟨(by rcases Nat.lt_or_ge j i with c | c;exact c;have:=hj.2;rw [show j=i by omega,hNi2.out] at this;exact absurd this (by simp)),hj.2⟩
       have hok2:Hid (∀j,j<i+1->N j=true->POk n0 (st.1 j)):=fun j hj hj2=>hok.out j (by rcases Nat.lt_or_ge j i with c | c;exact c;rw [show j=i by omega,hNi2.out] at hj2;cases hj2) hj2
       clear hNi DI hok hst
       go_wp2_with fail
       (go_roundg (n-i-1)
        case measure=>omega
        case rel=>exact⟨i+1,st,L,by omega,by go_num,hst2,hL,I,PV0,DI2,XV,HB,Nat.le_succ_of_le hlen.out,hok2,hg3⟩)
     | true =>
       rw [hNi] at cn
       have hfit:Fit x i n0:=by rw [hx.out];exact HF.out i hin hNi
       have hxE:Dim64 x.E:=by rw [hx.out];exact (HX.out i hin).E
       have hKo:∀j,j<x.ar->(x.at j).toNat<i/\N (x.at j).toNat=true:=fun j hj=>⟨by have:=hfit.o j hj;omega,by rw [hx.out] at hj ⊢;exact HN.out i hin hNi j hj⟩
       obtain⟨T,hT⟩:∃T,Hid (dimF X G D S st.1 x=T):=⟨_,rfl⟩
       have cd:=fun W vn vp vd vg=>udim_w x i (some ⟨b,o,none⟩) n CN X (some ⟨g,0,none⟩) n n (fun j=>j<i/\N j=true) st.1 A0 A1 n0 C0 C1 D G S hfit (by omega) (by omega) hn0 HS.out.1 HS.out.2 HD.out hKo (fun j hj=>hok.out j hj.1 hj.2) W vn vp vd vg
       rw [hT.out] at cd
       have hN2:Hid (N i=true):=hNi
       have HFit:Hid (Fit x i n0/\Dim64 x.E/\∀j,j<x.ar->(x.at j).toNat<i/\N (x.at j).toNat=true):=⟨hfit,hxE,hKo⟩
       clear hNi hfit hxE hKo
       cases T with
       | none =>
         have eR:Hid (R=none):=by
           have q:=hR.out
           have q2:stateF X N G D S (i+1)=none:=by
             have q3:=hT.out
             rw [hx.out] at q3
             rw [stateF,hst.out]
             simp [hN2.out,q3]
           rw [stateF_none q2 n (by omega)] at q
           exact q.symm
         clear hR hst hT
         go_wp2_with (first
           | (refine wpList_loadBig (by rfl) _ 54 (by rfl) Try.underlying54 (ndL x) (by kernel_rfl) (by rfl) (XB.cell0) (nd_val x) ?_)
           | (refine wpList_loadBig (by rfl) _ 43 (by rfl) Try.underlying43 (vrL (.slice A0 n0 C0) (.slice A1 n0 C1) S) (by kernel_rfl) (by rfl) (XV.cell0) (vr_val _ _ _) ?_)
           | (go_at_call 38;(with_reducible refine (cd _ (VN.keep HB) DI.prs (VD.keep HB) (VG.keep HB)).mono ?_);rintro r W2 ⟨hM,hb2⟩;have hr:=hM.no;subst hr;exact⟨rfl,Or.inr ⟨by rw [eR.out];rfl,rfl⟩,later HB hb2⟩))
       | some Y =>
         obtain⟨hYok, -⟩:=dimF_some HFit.out.1 HFit.out.2.1 HS.out.1 HS.out.2 HD.out (fun j hj=>hok.out _ (HFit.out.2.2 j hj).1 (HFit.out.2.2 j hj).2) hT.out
         have hYo:Hid (POk n0 Y):=hYok
         clear hYok
         go_upto_region 8 with (first
           | (refine wpList_loadBig (by rfl) _ 54 (by rfl) Try.underlying54 (ndL x) (by kernel_rfl) (by rfl) (XB.cell0) (nd_val x) ?_)
           | (refine wpList_loadBig (by rfl) _ 43 (by rfl) Try.underlying43 (vrL (.slice A0 n0 C0) (.slice A1 n0 C1) S) (by kernel_rfl) (by rfl) (XV.cell0) (vr_val _ _ _) ?_)
           | (go_at_call 38;(with_reducible refine (cd _ (VN.keep HB) DI.prs (VD.keep HB) (VG.keep HB)).mono ?_);rintro r W2 ⟨hM,hb2⟩;obtain⟨s,hr,A9,c9,rfl,hc9,fa9⟩:=hM.yes;subst hr;replace HB:=later HB hb2;replace XV:=XV.keeps hb2;replace XB:=XB.keeps hb2;replace DI:=DI.keep hb2;replace I:=I.keep hb2;replace PV0:=PV0.keep hb2;replace hg3:=Nat.le_trans hg3 hb2.size;clear hb2 hM;obtain⟨cs,DB,Dl,Df⟩:=DI;replace Dl:Hid (cs.length=n*15):=Dl)
           | (refine wpList_storeMid (off:=i*15) (by rfl) _ _ 79 (by rfl) DB (proL Y.1 (.slice A9 Y.2.length c9)) (by kernel_rfl) (by rw [Dl.out,proL_len];omega) (by rfl) (by rfl) (by rfl) ?_;rintro V3 XR hs3 hB3 hk3))
         have DI3:=DimsIn.set DB Dl.out Df hin hc9 fa9 XR hk3
         replace XV:=hk3 _ _ _ (by omega) XV
         replace XB:=hk3 _ _ _ (by omega) XB
         replace I:=I.off (by omega) hk3
         replace PV0:PvOk V3 L:=fun z hz=>(PV0 z hz).other DB (by decide) hk3
         replace HB:=hB3 _ _ HB (by omega)
         replace hg3:g+1<=V3.heap.size:=by omega
         obtain⟨Q2,hQ2⟩:∃Q2,Hid (Q2=fun j=>if j=i then Y else st.1 j):=⟨_,rfl⟩
         have DI4:DimsIn V3 g n (fun j=>j<i+1/\N j=true) Q2:=by
           rw [hQ2.out]
           exact DI3.congr fun j hj=>by
             by_cases e:j=i
             · exact Or.inr e
             · exact Or.inl ⟨by omega,hj.2⟩
         have hok2:Hid (∀j,j<i+1->N j=true->POk n0 (Q2 j)):=by
           intro j hj hj2
           rw [hQ2.out]
           by_cases e:j=i
           · simp only [if_pos e];exact hYo.out
           · simp only [if_neg e];exact hok.out j (by omega) hj2
         have hRu:Hid (∀T2,ruleF X Q2 x=T2->stateF X N G D S (i+1)=T2.map fun Z=>(Q2,st.2++Z)):=by
           intro T2 h2
           have q3:=hT.out
           rw [hx.out] at q3
           rw [hx.out,hQ2.out] at h2
           rw [stateF,hst.out,hQ2.out]
           simp only [Option.bind_some,hN2.out,if_true,q3,h2]
         clear DB Dl Df XR fa9 hB3 hk3 hs3 DI3 hok hYo hT hst cd
         obtain⟨T2,hT2⟩:∃T2,Hid (ruleF X Q2 x=T2):=⟨_,rfl⟩
         have cr:=fun W vn vp=>urule_w x i n0 (some ⟨b,o,none⟩) n CN X (some ⟨g,0,none⟩) n n (fun j=>j<i+1/\N j=true) Q2 HFit.out.1 (by omega) (by omega) hn0 (fun j hj=>⟨by have:=(HFit.out.2.2 j hj).1;omega,(HFit.out.2.2 j hj).2⟩) (fun j hj=>hok2.out j hj.1 hj.2) W vn vp
         rw [hT2.out] at cr
         have hRu2:Hid (stateF X N G D S (i+1)=T2.map fun Z=>(Q2,st.2++Z)):=hRu.out T2 hT2.out
         have hZl:Hid (∀Z,T2=some Z->Z.length<=1):=fun Z e=>(ruleF_some (fun j hj=>hok2.out _ (by have:=(HFit.out.2.2 j hj).1;omega) (HFit.out.2.2 j hj).2) (hT2.out.trans e)).2
         clear hRu hT2 HFit
         cases T2 with
         | none =>
           have eR:Hid (R=none):=by
             have q:=hR.out
             rw [stateF_none hRu2.out n (by omega)] at q
             exact q.symm
           clear hR hRu2 hZl
           go_wp2_with (first
             | (refine wpList_loadBig (by rfl) _ 54 (by rfl) Try.underlying54 (ndL x) (by kernel_rfl) (by rfl) (XB.cell0) (nd_val x) ?_)
             | (go_at_call 39;(with_reducible refine (cr _ (VN.keep HB) DI4.prs).mono ?_);rintro r W2 ⟨hM,hb2⟩;have hr:=hM.no;subst hr;exact⟨rfl,Or.inr ⟨by rw [eR.out];rfl,rfl⟩,later HB hb2⟩))
         | some Z =>
           have hZ1:=hZl.out Z rfl
           go_wp2_with (first
             | (refine wpList_loadBig (by rfl) _ 54 (by rfl) Try.underlying54 (ndL x) (by kernel_rfl) (by rfl) (XB.cell0) (nd_val x) ?_)
             | (go_at_call 39;(with_reducible refine (cr _ (VN.keep HB) DI4.prs).mono ?_);rintro r W2 ⟨hM,hb2⟩;obtain⟨M,A8,C8,hZ,hr,hp,hbk⟩:=hM.yes;subst hr;replace HB:=later HB hb2;replace XV:=XV.keeps hb2;replace DI4:=DI4.keep hb2;replace I:=I.keep hb2;replace PV0:=PV0.keep hb2;replace hg3:=Nat.le_trans hg3 hb2.size;clear hb2 hM XB;have hM1:M.length<=1:=(by rw [hZ,List.length_map] at hZ1;exact hZ1);have hMl:Hid (L.length+M.length<=100000):=(by show _<=_;have:=hlen.out;omega);replace hM1:Hid (M.length<=1):=hM1;replace hZ:Hid (Z=M.map (·.1)):=hZ;clear hZ1)
             | (at_builtin;refine wpList_catP (by rfl) _ _ (by rfl) _ L M A8 M.length C8 (by rfl) (by rfl) rfl I hbk hp hMl.out hg3 ?_;intro v' w8 I8 hb8 hs8 hpv))
           (go_roundg (n-i-1)
            case measure=>omega
            case rel=>exact⟨i+1,(Q2,st.2++Z),L++M,by omega,by go_num,hRu2,(by show st.2++Z=_;rw [hL.out,hZ.out,List.map_append]),I8,(fun z hz=>(List.mem_append.1 hz).elim (hpv L PV0 z) (hpv M hp z)),DI4.grow hb8 hpv,XV.keep hb8 (by omega),HB.trans (hb8.mono (by omega)),(by show (L++M).length<=i+1;rw [List.length_append];have:=hlen.out;have:=hM1.out;omega),hok2,Nat.le_trans hg3 hs8⟩)
theorem rise_from {v:Int}:∀{L:List Fac} {l:Int},Rise v l L->∀(b:Nat) (g:Fac),L[b]?=some g->l<=g.1/\g.1<v
 | [],_,_,b,g,h=>by simp at h
 | f :: L,l,r,0,g,h=>by
  simp at h
  subst h
  exact⟨r.1,r.2.1⟩
 | f :: L,l,r,b+1,g,h=>by
  have:=rise_from r.2.2 b g (by simpa using h)
  have:=r.1
  omega
theorem rise_lt {v:Int}:∀{L:List Fac} {l:Int},Rise v l L->∀(a b:Nat) (f g:Fac),L[a]?=some f->L[b]?=some g->a<b->f.1<g.1
 | [],_,_,a,_,f,_,h,_,_=>by simp at h
 | k :: L,l,r,0,b+1,f,g,hf,hg,_=>by
  simp at hf
  subst hf
  have:=rise_from r.2.2 b g (by simpa using hg)
  omega
 | k :: L,l,r,a+1,b+1,f,g,hf,hg,h=>rise_lt r.2.2 a b f g (by simpa using hf) (by simpa using hg) (by omega)
 | _ :: _,_,_,_,0,_,_,_,_,h=>by omega
theorem low_at (t:Int):∀(L:List Fac) (i:Nat),i<=L.length->(∀k f,L[k]?=some f->k<i->f.1<t)->(∀k f,L[k]?=some f->i<=k->t<=f.1)->restF t L=L.drop i
 | [],i,_,_,_=>by simp [restF]
 | f :: L,0,_,_,h2=>by
  have:=h2 0 f rfl (Nat.le_refl _)
  rw [restF,if_neg (by omega)]
  rfl
 | f :: L,i+1,hi,h1,h2=>by
  have:=h1 0 f rfl (by omega)
  rw [restF,if_pos this,List.drop_succ_cons]
  exact low_at t L i (by simpa using hi) (fun k g hk hl=>h1 (k+1) g (by simpa using hk) (by omega)) (fun k g hk hl=>h2 (k+1) g (by simpa using hk) (by omega))
def coF (t:Int) (L:List Fac):Int×Int:=match restF t L with
 | []=>(0,1)
 | g :: _=>if g.1=t then g.2 else (0,1)
theorem ucmp_w (u e1 e2 t:Int) (hu:0<=u/\u<=1000) (ht:0<=t/\t<=1000) (w:World) :
  Calls Try.prog 75 #[.agg #[.int .i64 u,.int .i64 e1,.int .i64 e2],.int .i64 t] w fun r w'=>r=.returned (.int .i64 (u-t))/\Below w.heap.size w w':=by
 obtain⟨h1,h2⟩:=hu
 obtain⟨h3,h4⟩:=ht
 go_enter Try.func75,Try.ntmps75
 go_wp2_with fail
 go_ret
 exact⟨rfl,by go_grown⟩
end Go.Proofs.Ytbejmklkicoibaa
