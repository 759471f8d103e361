/- unit.Infer's work: rules, and what they tell. unit.Infer, whole. UnitFits' smaller callees: alive, small, Like; truth values in a slice that grows. UnitFits: the law's walk. -/
import Derived.Test.YtbejmklkicoibaaKd09
namespace Go.Proofs.Ytbejmklkicoibaa
open Go.ChangeShapes Go.WideShapes Go.ChangeAt Go.RowKit
theorem RsAns.yes {B:Nat} {r:Ending} {w:World} {Z:List Pro} (h:RsAns B r w (some Z)):∃(L:List PV) (v:Value),Z=L.map (·.1)∧r=.returned v∧OwnRw B w v L∧PvOk w L:=by
 rcases h with ⟨L,v,e,h⟩ | ⟨e,_⟩
 · exact⟨L,v,Option.some.inj e,h⟩
 · cases e
theorem RsAns.no {B:Nat} {r:Ending} {w:World} (h:RsAns B r w none):r=.panicked (stopP 3):=by
 rcases h with ⟨L,v,e,_⟩ | ⟨_,hr⟩
 · cases e
 · exact hr
set_option maxRecDepth 4000 in
set_option maxHeartbeats 8000000 in
theorem uwork_w (b0 b1 b2:Nat) (AN:Option Addr) (n CN:Nat) (X:Nat→Nd) (g0:Nat) (N:Nat→Bool) (A0 A1:Option Addr) (n0 C0 C1:Nat) (D:Nat→Nat→Int×Int) (G:Nat→Bool) (S:Nat→Int×Int)
   (hn:n≤4000) (hn0:n0≤500) (hX:∀i,i<n→(X i).Ok) (hF:∀i,i<n→N i=true→Fit (X i) i n0) (hN:∀i,i<n→N i=true→∀j,j<(X i).ar→N ((X i).at j).toNat=true)
   (hS:Dim64 S) (rS:drK S 7=true) (hD:∀v,v<n0→G v=true→Dim64 (D v)∧drK (D v) 7=true) (w:World) (VN:Nds w AN n X) (VC:Cel w g0 n (fun i=>.bool (N i))) (VD:Dms w A0 n0 D) (VG:Bls w A1 n0 G)
   (c0:w.cell? ⟨b0,0,none⟩=some (.slice AN n CN)) (l0:b0<w.heap.size) (c1:w.cell? ⟨b1,0,none⟩=some (.slice (some ⟨g0,0,none⟩) n n)) (l1:b1<w.heap.size) (XV:BlkAt w b2 43 (vrL (.slice A0 n0 C0) (.slice A1 n0 C1) S)) :
   Calls Try.prog 17 #[.pointer (some ⟨b0,0,none⟩),.pointer (some ⟨b1,0,none⟩),.pointer (some ⟨b2,0,none⟩)] w fun r w'=>WkAns w.heap.size r w' n0 (workR X N G D S n)∧Below w.heap.size w w':=by
 obtain⟨R,hRR⟩:∃R,Hid (workR X N G D S n=R):=⟨_,rfl⟩
 rw [hRR.out]
 obtain⟨T,hT⟩:∃T,Hid (stateF X N G D S n=T):=⟨_,rfl⟩
 have cr:=fun W vn vc vd vg=>urules_w AN n CN X g0 N A0 A1 n0 C0 C1 D G S hn hn0 hX hF hN hS rS hD W vn vc vd vg
 rw [hT.out] at cr
 have cs:=fun W vd vg=>ustart_w A0 A1 n0 C0 C1 D G S hn0 W vd vg
 have hst:Hid (∀st,T=some st→(∀R,R∈st.2→POk (n0:Int) R∧FG G R.2)∧st.2.length≤n):=fun st h=>by
   obtain⟨-,p2, -,p4, -⟩:=state_two (G':=G) (D':=D) (S:=fun _ _=>0) (fun i hi=>(hX i hi).E) hF hN hS rS hD hD (fun v hv e he=>rfl) n (Nat.le_refl n) st st (hT.out.trans h) (hT.out.trans h)
   exact⟨p2,p4⟩
 have hsD:Hid (∀v:Nat,v<n0→Dim64 (startD G D v)∧drK (startD G D v) 7=true):=fun v hv=>by
   unfold startD
   cases hG:G v with
   | true=>rw [if_pos rfl];exact hD v hv hG
   | false=>rw [if_neg (by simp)];exact plE_ok
 have hR2:Hid ((match (generalizing:=false) T with | none=>Except.error 3 | some st=>allFrom [] st.2 (startD G D))=R):=by
   have q:=hRR.out
   unfold workR at q
   rw [hT.out] at q
   exact q
 clear hRR hT hX hF hN hS rS hD
 have HB:Below w.heap.size w w:=Below.refl _ _
 go_enter Try.func17,Try.ntmps17
 go_upto_region 1 with fail
 refine wp_region_held_drew (S:=fun W=>BlkAt W b2 43 (vrL (.slice A0 n0 C0) (.slice A1 n0 C1) S)∧W.cell? ⟨b0,0,none⟩=some (.slice AN n CN)∧W.cell? ⟨b1,0,none⟩=some (.slice (some ⟨g0,0,none⟩) n n)) (by kernel_rfl) ⟨XV,c0,c1⟩ (fun hHeld=>?_)
 refine wpAnyH_take (i:=0) (v:=?_) rfl (by kernel_rfl) (by kernel_rfl) (by kernel_rfl) (fun _ _ _ h=>h) (Or.inl ⟨by rfl, ?_⟩) hHeld ?_;rotate_left;(focus ((intro w hSw;(try dsimp only at hSw);go_simp);try with_reducible rfl));simp only [List.getElem_toArray,List.getElem_cons_zero,Act.put,List.setIfInBounds_toArray,List.set_cons_zero,List.set_cons_succ];refine wpAnyH_take (i:=1) (v:=?_) rfl (by kernel_rfl) (by kernel_rfl) (by kernel_rfl) (fun _ _ _ h=>h) (Or.inl ⟨by rfl, ?_⟩) hHeld ?_;rotate_left;(focus ((intro w hSw;(try dsimp only at hSw);go_simp);try with_reducible rfl));simp only [List.getElem_toArray,List.getElem_cons_zero,List.getElem_cons_succ,Act.put,List.setIfInBounds_toArray,List.set_cons_zero,List.set_cons_succ]
 refine wpAnyH_take (i:=2) (v:=vrV (.slice A0 n0 C0) (.slice A1 n0 C1) S) rfl (by kernel_rfl) (by kernel_rfl) (by kernel_rfl) (fun _ _ _ h=>h) (yields_loadBig (by rfl) _ 43 (by rfl) Try.underlying43 (vrL (.slice A0 n0 C0) (.slice A1 n0 C1) S) (by kernel_rfl) (by rfl) (fun W hS=>hS.1.cell0) (vr_val _ _ _)) hHeld ?_;simp only [List.getElem_toArray,List.getElem_cons_zero,List.getElem_cons_succ,Act.put,List.setIfInBounds_toArray,List.set_cons_zero,List.set_cons_succ]
 refine wpAnyH_take (i:=4) (v:=vrV (.slice A0 n0 C0) (.slice A1 n0 C1) S) rfl (by kernel_rfl) (by kernel_rfl) (by kernel_rfl) (fun _ _ _ h=>h) (yields_loadBig (by rfl) _ 43 (by rfl) Try.underlying43 (vrL (.slice A0 n0 C0) (.slice A1 n0 C1) S) (by kernel_rfl) (by rfl) (fun W hS=>hS.1.cell0) (vr_val _ _ _)) hHeld ?_;simp only [List.getElem_toArray,List.getElem_cons_zero,List.getElem_cons_succ,Act.put,List.setIfInBounds_toArray,List.set_cons_zero,List.set_cons_succ]
 have HD0:Below w.heap.size w w.drew:=(Below.refl _ _).drew
 replace HB:=later HB HD0
 clear HD0
 refine wpAnyH_ready (rs:=[3]) (by kernel_rfl) (by simp) ?_;refine AllReadyH.cons rfl (fun K hK=>?_) AllReadyH.nil;simp only [List.getElem_toArray,List.getElem_cons_zero,List.getElem_cons_succ,Act.put,List.setIfInBounds_toArray,List.set_cons_zero,List.set_cons_succ];go_simp
 cases T with
 | none =>
   have eR:Hid (R=.error 3):=hR2.out.symm
   go_at_call 19
   (with_reducible refine (cr _ (VN.keep HB) (VC.keep HB) (VD.keep HB) (VG.keep HB)).mono ?_)
   rintro r W2 ⟨hM,hb2⟩
   have hr:=hM.no
   subst hr
   have e2:=eR.out
   subst e2
   exact⟨rfl,rfl,later HB hb2⟩
 | some st =>
   go_at_call 19
   (with_reducible refine (cr _ (VN.keep HB) (VC.keep HB) (VD.keep HB) (VG.keep HB)).mono ?_)
   rintro r W2 ⟨hM,hb2⟩
   obtain⟨L,v7,hL,rfl,I7,PO⟩:=hM.yes
   obtain⟨A7,C7,e7,RW⟩:=I7.read
   subst e7
   replace hL:st.2=L.map (·.1):=hL
   obtain⟨hRs,hLl⟩:=hst.out st rfl
   rw [hL] at hRs hLl
   rw [List.length_map] at hLl
   have hRL:∀x,x∈L→POk (n0:Int) x.1∧FG G x.1.2:=fun x hx=>hRs x.1 (List.mem_map.2 ⟨x,hx,rfl⟩)
   replace HB:=later HB hb2
   have hW2:w.heap.size≤W2.heap.size:=HB.size
   have XV2:=XV.keeps HB
   have c02:=keepsC HB c0 l0
   have c12:=keepsC HB c1 l1
   clear hb2 hM hRs I7
   dsimp only
   refine hK.out _ _ ⟨XV2,c02,c12⟩ (fun hHeld=>?_)
   clear hK K XV2 c02 c12
   refine wpAnyH_ready (rs:=[5]) (by kernel_rfl) (by simp) ?_;refine AllReadyH.cons rfl (fun K hK=>?_) AllReadyH.nil;simp only [List.getElem_toArray,List.getElem_cons_zero,List.getElem_cons_succ,Act.put,List.setIfInBounds_toArray,List.set_cons_zero,List.set_cons_succ];go_simp
   go_at_call 20
   (with_reducible refine (cs _ (VD.keep HB) (VG.keep HB)).mono ?_)
   rintro r W3 ⟨⟨g,hg,rfl,DA⟩,hb3⟩
   replace HB:=later HB hb3
   replace RW:=RW.keep hb3
   replace PO:=PO.keep hb3
   have XV2:=XV.keeps HB
   have c02:=keepsC HB c0 l0
   have c12:=keepsC HB c1 l1
   clear hb3
   dsimp only
   refine hK.out _ _ ⟨XV2,c02,c12⟩ (fun hHeld=>?_)
   clear hK K XV2 c02 c12
   have cv:=usolved_w A7 C7 L g n0 n0 (startD G D) G hn0 (by omega) hRL hsD.out W3 RW PO DA
   have e3:allFrom [] (L.map (·.1)) (startD G D)=R:=by
     have q:=hR2.out
     rw [←q,←hL]
   rw [e3] at cv
   refine wpAnyH_ready (rs:=[6]) (by kernel_rfl) (by simp) ?_;refine AllReadyH.cons rfl (fun K hK=>?_) AllReadyH.nil;simp only [List.getElem_toArray,List.getElem_cons_zero,List.getElem_cons_succ,Act.put,List.setIfInBounds_toArray,List.set_cons_zero,List.set_cons_succ];go_simp
   go_at_call 18
   (with_reducible refine cv.mono ?_)
   rintro r W4 ⟨hM,hb4⟩
   have HB4:Below w.heap.size w W4:=HB.trans (hb4.mono (by omega))
   cases R with
   | error e =>
     replace hM:r=.panicked (stopP e):=hM
     subst hM
     exact⟨rfl,rfl,HB4⟩
   | ok Y =>
     obtain⟨rfl,DY⟩:=hM
     have XV2:=XV.keeps HB4
     have c02:=keepsC HB4 c0 l0
     have c12:=keepsC HB4 c1 l1
     dsimp only
     refine hK.out _ _ ⟨XV2,c02,c12⟩ (fun hHeld=>?_)
     clear hK K XV2 c02 c12
     refine wpAnyH_take (i:=7) (v:=?_) rfl (by kernel_rfl) (by kernel_rfl) (by kernel_rfl) (fun _ _ _ h=>h) (Or.inl ⟨by rfl, ?_⟩) hHeld ?_;rotate_left;(focus ((intro w hSw;(try dsimp only at hSw);go_simp);try with_reducible rfl));simp only [List.getElem_toArray,List.getElem_cons_zero,List.getElem_cons_succ,Act.put,List.setIfInBounds_toArray,List.set_cons_zero,List.set_cons_succ]
     refine wpAnyH_done (by kernel_rfl) ?_ _
     go_wp2_with fail
     go_ret
     exact⟨⟨_,rfl,g,n0,rfl,by omega,DY⟩,HB4⟩
def inferR (X:Nat→Nd) (n:Nat) (Y:Nat→Int) (m n0 n1:Nat) (G:Nat→Bool) (D:Nat→Nat→Int×Int) (S:Nat→Int×Int):Except Int (Nat→Nat→Int×Int) :=
 if (graphB X n&&(List.range m).all fun i=>oneOf (Y i) (n:Int))=true then
   (if (vrightB n0 n1 G D S&&haveB X (needH X n Y m) n n0)=true then workR X (needH X n Y m) G D S n else .error 1)
 else .error 170
set_option maxRecDepth 4000 in
set_option maxHeartbeats 8000000 in
theorem uInfer_w (AN:Option Addr) (n CN:Nat) (X:Nat→Nd) (AQ:Option Addr) (m CQ:Nat) (Y:Nat→Int) (A0 A1:Option Addr) (n0 C0 n1 C1:Nat) (D:Nat→Nat→Int×Int) (G:Nat→Bool) (S:Nat→Int×Int)
   (hn:n≤4000) (hm:(m:Int)≤9223372036854775807) (hn0:n0≤500) (hn1:(n1:Int)≤9223372036854775807) (hX:∀i,i<n→(X i).Ok) (hS:Dim64 S) (hD:∀v,v<n0→Dim64 (D v)) (w:World) (VN:Nds w AN n X) (VQ:Ins w AQ m Y) (VD:Dms w A0 n0 D) (VG:Bls w A1 n1 G) :
   Calls Try.prog 6 #[.slice AN n CN,.slice AQ m CQ,.slice A0 n0 C0,.slice A1 n1 C1,dimV S] w fun r w'=>TrAns w.heap.size r w' n0 (inferR X n Y m n0 n1 G D S)∧Below w.heap.size w w':=by
 obtain⟨R,hRR⟩:∃R,Hid (inferR X n Y m n0 n1 G D S=R):=⟨_,rfl⟩
 rw [hRR.out]
 have cg:=fun W vn=>ugraph_w AN n CN X hX W vn (by omega)
 have cb:=fun W vq=>uallBelow_w AQ m CQ (n:Int) Y W vq hm
 show Calls Try.prog _ #[_,_,_,_,.agg #[.int .i64 (S 0).1,.int .i64 (S 0).2,.int .i64 (S 1).1,.int .i64 (S 1).2,.int .i64 (S 2).1,.int .i64 (S 2).2,.int .i64 (S 3).1,.int .i64 (S 3).2,.int .i64 (S 4).1,.int .i64 (S 4).2,.int .i64 (S 5).1,.int .i64 (S 5).2,.int .i64 (S 6).1,.int .i64 (S 6).2]] w _
 obtain⟨XN,XS,HB⟩:=blks2 w 22 30 [.slice AN n CN] [.int .i64 (S 0).1,.int .i64 (S 0).2,.int .i64 (S 1).1,.int .i64 (S 1).2,.int .i64 (S 2).1,.int .i64 (S 2).2,.int .i64 (S 3).1,.int .i64 (S 3).2,.int .i64 (S 4).1,.int .i64 (S 4).2,.int .i64 (S 5).1,.int .i64 (S 5).2,.int .i64 (S 6).1,.int .i64 (S 6).2]
 go_enter Try.func6,Try.ntmps6
 go_upto_region 1 with fail
 generalize ((w.alloc (.cells #[.slice AN n CN] 22)).alloc (.cells #[.int .i64 (S 0).1,.int .i64 (S 0).2,.int .i64 (S 1).1,.int .i64 (S 1).2,.int .i64 (S 2).1,.int .i64 (S 2).2,.int .i64 (S 3).1,.int .i64 (S 3).2,.int .i64 (S 4).1,.int .i64 (S 4).2,.int .i64 (S 5).1,.int .i64 (S 5).2,.int .i64 (S 6).1,.int .i64 (S 6).2] 30))=V1 at *
 have x0:=XN.cell 0 _ rfl
 cases hg:graphB X n with
 | false =>
   rw [hg] at cg
   have eR:Hid (R=.error 170):=by
     have q:=hRR.out
     unfold inferR at q
     rw [hg,Bool.false_and,if_neg (by simp)] at q
     exact q.symm
   clear hRR hg
   go_wp2_with (go_at_call 11;(with_reducible refine (cg _ (VN.keep HB)).mono ?_);rintro _ W2 ⟨rfl,hb2⟩;replace HB:=later HB hb2;clear hb2 x0)
   have e2:=eR.out
   subst e2
   exact bodyPost_ret (v:=.tuple #[.slice none 0 0,.int .i64 170]) (by simp [results,Try.results6,go_sem, *]) rfl ⟨rfl,HB⟩
 | true =>
   rw [hg] at cg
   cases ha:(List.range m).all fun i=>oneOf (Y i) (n:Int) with
   | false =>
     rw [ha] at cb
     have eR:Hid (R=.error 170):=by
       have q:=hRR.out
       unfold inferR at q
       rw [hg,ha,Bool.and_false,if_neg (by simp)] at q
       exact q.symm
     clear hRR hg ha
     go_wp2_with (first
       | (go_at_call 11;(with_reducible refine (cg _ (VN.keep HB)).mono ?_);rintro _ W2 ⟨rfl,hb2⟩;replace HB:=later HB hb2;replace XN:=XN.keeps hb2;clear hb2 x0;have x0:=XN.cell 0 _ rfl)
       | (go_at_call 12;(with_reducible refine (cb _ (VQ.keep HB)).mono ?_);rintro _ _ ⟨rfl,rfl⟩))
     have e2:=eR.out
     subst e2
     exact bodyPost_ret (v:=.tuple #[.slice none 0 0,.int .i64 170]) (by simp [results,Try.results6,go_sem, *]) rfl ⟨rfl,HB⟩
   | true =>
     rw [ha] at cb
     obtain⟨N,hNN⟩:∃N,Hid (needH X n Y m=N):=⟨_,rfl⟩
     have hR1:Hid ((if (vrightB n0 n1 G D S&&haveB X N n n0)=true then workR X N G D S n else .error 1)=R):=by
       have q:=hRR.out
       unfold inferR at q
       rw [hg,ha,Bool.and_true,if_pos rfl,hNN.out] at q
       exact q
     have hnode:∀i,i<n→nodeB (X i) (i:Int)=true:=by
       unfold graphB at hg
       simp only [Bool.and_eq_true,decide_eq_true_eq] at hg
       exact all_upto2.1 hg.2
     have hop:∀i,i<n→∀j,j<(X i).ar→0≤(X i).at j∧(X i).at j<(i:Int):=fun i hi j hj=>by
       have q:=hnode i hi
       unfold nodeB opsG at q
       simp only [Bool.and_eq_true] at q
       have q2:=all_upto2.1 q.2.2 j hj
       unfold oneOf at q2
       simpa using q2
     have hY:∀k,k<m→0≤Y k∧Y k<(n:Int):=fun k hk=>by
       have q2:=all_upto2.1 ha k hk
       unfold oneOf at q2
       simpa using q2
     have hN:Hid (∀i,i<n→N i=true→∀j,j<(X i).ar→N ((X i).at j).toNat=true):=by rw [←hNN.out];exact needH_closed hop Y m
     have cn:=fun W vn vq=>uneeded_w AN n CN AQ m CQ X Y hn hm hY (fun i hi j hj=>⟨(hop i hi j hj).1,by have:=(hop i hi j hj).2;omega⟩) W vn vq
     rw [hNN.out] at cn
     have cR:=fun W vd vg=>uvright_w A0 A1 n0 C0 n1 C1 D G S hS (by omega) hn1 hD W vd vg
     have HN:Hid (∀i,i<n→nodeB (X i) (i:Int)=true):=hnode
     have HX:Hid (∀i,i<n→(X i).Ok):=hX
     have HD:Hid (∀v,v<n0→Dim64 (D v)):=hD
     have HO:Hid (∀i,i<n→∀j,j<(X i).ar→0≤(X i).at j∧(X i).at j<(i:Int)):=hop
     have HS:Hid (Dim64 S):=hS
     clear hRR hg ha hnode hop hY hX hD hS hNN
     go_upto_region 4 with (first
       | (go_at_call 11;(with_reducible refine (cg _ (VN.keep HB)).mono ?_);rintro _ W2 ⟨rfl,hb2⟩;replace HB:=later HB hb2;replace XN:=XN.keeps hb2;replace XS:=XS.keeps hb2;clear hb2 x0;have x0:=XN.cell 0 _ rfl)
       | (go_at_call 12;(with_reducible refine (cb _ (VQ.keep HB)).mono ?_);rintro _ _ ⟨rfl,rfl⟩)
       | (go_at_call 13;(with_reducible refine (cn _ (VN.keep HB) (VQ.keep HB)).mono ?_);rintro _ W3 ⟨g,hg3,rfl,VC,hb3⟩;replace HB:=later HB hb3;replace XN:=XN.keeps hb3;replace XS:=XS.keeps hb3;clear hb3 x0;have x0:=XN.cell 0 _ rfl))
     have GA:Below W3.heap.size W3 (W3.alloc (.cells #[.slice (some ⟨g,0,none⟩) n n] 25)):=Below.alloc (Below.refl _ _) (Nat.le_refl _) _
     have XQ:BlkAt (W3.alloc (.cells #[.slice (some ⟨g,0,none⟩) n n] 25)) W3.heap.size 25 [.slice (some ⟨g,0,none⟩) n n]:=blk_new _ _ _
     replace HB:=later HB GA
     replace XN:=XN.keeps GA
     replace XS:=XS.keeps GA
     replace VC:=VC.keep GA
     obtain⟨qb,hqb⟩:∃qb,qb=W3.heap.size:=⟨_,rfl⟩
     rw [←hqb] at XQ ⊢
     clear GA x0 hqb
     generalize (W3.alloc (.cells #[.slice (some ⟨g,0,none⟩) n n] 25))=V3 at *
     go_upto_region 5 with (first
       | (refine wpList_loadBig (by rfl) _ 30 (by rfl) Try.underlying30 (dimL S) (by kernel_rfl) (by rfl) (XS.cell0) (dim_valU S) ?_)
       | (refine wpList_storeBig (by rfl) _ _ 43 (by rfl) (blk_new _ _ _) (vrL (.slice A0 n0 C0) (.slice A1 n1 C1) S) (by kernel_rfl) (by rfl) (by rfl) (by rfl) (by rfl) ?_;rintro V4 XR hs2 hB2 hk2))
     have grw:Below V3.heap.size V3 V4:=hB2 _ _ (Below.alloc (Below.refl _ _) (Nat.le_refl _) _) (Nat.le_refl _)
     have XV:=XR
     replace HB:=later HB grw
     replace XN:=XN.keeps grw
     replace XQ:=XQ.keeps grw
     replace VC:=VC.keep grw
     obtain⟨vb,hvb⟩:∃vb,vb=V3.heap.size:=⟨_,rfl⟩
     rw [←hvb] at XV ⊢
     clear XR hB2 hk2 hs2 grw hvb XS
     try simp only [Act.put]
     have x0:=XN.cell 0 _ rfl
     have x1:=XQ.cell 0 _ rfl
     have cH:=fun W vn vc=>uhave_w A0 A1 n0 C0 n1 C1 S AN n CN X g N hn W vn vc
     cases hr:vrightB n0 n1 G D S with
     | false =>
       rw [hr] at cR
       have eR:Hid (R=.error 1):=by
         have q:=hR1.out
         rw [hr,Bool.false_and,if_neg (by simp)] at q
         exact q.symm
       clear hR1 hr
       go_wp2_with (first
         | (refine wpList_loadBig (by rfl) _ 43 (by rfl) Try.underlying43 (vrL (.slice A0 n0 C0) (.slice A1 n1 C1) S) (by kernel_rfl) (by rfl) (XV.cell0) (vr_val _ _ _) ?_)
         | (go_at_call 14;(with_reducible refine (cR _ (VD.keep HB) (VG.keep HB)).mono ?_);rintro _ W5 ⟨rfl,hb2⟩;replace HB:=later HB hb2;clear hb2 x0 x1))
       have e2:=eR.out
       subst e2
       exact bodyPost_ret (v:=.tuple #[.slice none 0 0,.int .i64 1]) (by simp [results,Try.results6,go_sem, *]) rfl ⟨rfl,HB⟩
     | true =>
       rw [hr] at cR
       cases hv:haveB X N n n0 with
       | false =>
         rw [hv] at cH
         have eR:Hid (R=.error 1):=by
           have q:=hR1.out
           rw [hr,hv,Bool.and_false,if_neg (by simp)] at q
           exact q.symm
         clear hR1 hr hv
         go_wp2_with (first
           | (refine wpList_loadBig (by rfl) _ 43 (by rfl) Try.underlying43 (vrL (.slice A0 n0 C0) (.slice A1 n1 C1) S) (by kernel_rfl) (by rfl) (XV.cell0) (vr_val _ _ _) ?_)
           | (go_at_call 14;(with_reducible refine (cR _ (VD.keep HB) (VG.keep HB)).mono ?_);rintro _ W5 ⟨rfl,hb2⟩;replace HB:=later HB hb2;replace XN:=XN.keeps hb2;replace XQ:=XQ.keeps hb2;replace XV:=XV.keeps hb2;replace VC:=VC.keep hb2;clear hb2 x0 x1;have x0:=XN.cell 0 _ rfl;have x1:=XQ.cell 0 _ rfl)
           | (go_at_call 15;(with_reducible refine (cH _ (VN.keep HB) VC).mono ?_);rintro _ W6 ⟨rfl,hb2⟩;replace HB:=later HB hb2;clear hb2 x0 x1))
         have e2:=eR.out
         subst e2
         exact bodyPost_ret (v:=.tuple #[.slice none 0 0,.int .i64 1]) (by simp [results,Try.results6,go_sem, *]) rfl ⟨rfl,HB⟩
       | true =>
         rw [hv] at cH
         have eR:workR X N G D S n=R:=by
           have q:=hR1.out
           rw [hr,hv,Bool.and_self,if_pos rfl] at q
           exact q
         have hr2:=hr
         unfold vrightB givenB at hr2
         simp only [Bool.and_eq_true,beq_iff_eq] at hr2
         obtain⟨h1,h2,h3⟩:=hr2
         have h3':=all_upto2.1 h3
         have h4:n0=n1:=h1.symm
         subst h4
         unfold haveB at hv
         have hv':=all_upto2.1 hv
         have hF:∀i,i<n→N i=true→Fit (X i) i n0:=fun i hi hNi=>by
           have q:=HN.out i hi
           unfold nodeB kindB at q
           simp only [Bool.and_eq_true,decide_eq_true_eq] at q
           refine⟨q.1,q.2.1,HO.out i hi,fun hk=>?_⟩
           have q2:=hv' i hi
           rw [hNi,hk] at q2
           simpa using q2
         have hDD:∀v,v<n0→G v=true→Dim64 (D v)∧drK (D v) 7=true:=fun v hv hG=>⟨HD.out v hv,by have q:=h3' v hv;rw [hG] at q;simpa using q⟩
         clear h1 h3 h3' hv hv' hr hR1
         have hmf:∀(fn:Fn) (first cap:Array Value) (w:World),(Instr.makeFunc fn first cap).run Try.prog w=.ok (.func fn first cap) w:=fun _ _ _ _=>rfl
         go_upto_region 7 with (first
           | (refine wpList_loadBig (by rfl) _ 43 (by rfl) Try.underlying43 (vrL (.slice A0 n0 C0) (.slice A1 n0 C1) S) (by kernel_rfl) (by rfl) (XV.cell0) (vr_val _ _ _) ?_)
           | (go_at_call 14;(with_reducible refine (cR _ (VD.keep HB) (VG.keep HB)).mono ?_);rintro _ W5 ⟨rfl,hb2⟩;replace HB:=later HB hb2;replace XN:=XN.keeps hb2;replace XQ:=XQ.keeps hb2;replace XV:=XV.keeps hb2;replace VC:=VC.keep hb2;clear hb2 x0 x1;have x0:=XN.cell 0 _ rfl;have x1:=XQ.cell 0 _ rfl)
           | (go_at_call 15;(with_reducible refine (cH _ (VN.keep HB) VC).mono ?_);rintro _ W6 ⟨rfl,hb2⟩;replace HB:=later HB hb2;replace XN:=XN.keeps hb2;replace XQ:=XQ.keeps hb2;replace XV:=XV.keeps hb2;replace VC:=VC.keep hb2;clear hb2 x0 x1))
         have ct:=utriedS_w #[.pointer (some ⟨w.heap.size,0,none⟩),.pointer (some ⟨qb,0,none⟩),.pointer (some ⟨vb,0,none⟩)] n0 R W6 (fun W hW=>by
           have q:=uwork_w w.heap.size qb vb AN n CN X g N A0 A1 n0 C0 C1 D G S hn hn0 HX.out hF hN.out HS.out h2 hDD W (VN.keep (later HB hW)) (VC.keep hW) (VD.keep (later HB hW)) (VG.keep (later HB hW)) ((XN.keeps hW).cell 0 _ rfl) (XN.keeps hW).lt ((XQ.keeps hW).cell 0 _ rfl) (XQ.keeps hW).lt (XV.keeps hW)
           rw [eR] at q
           exact q)
         have hW6:w.heap.size≤W6.heap.size:=HB.size
         clear eR hF hDD
         cases R with
         | ok Z =>
           go_wp2_with (go_at_call 16;(with_reducible refine ct.mono ?_);rintro r W7 ⟨hM,hb2⟩;obtain⟨v,rfl,DV⟩:=hM;replace HB:=later HB hb2;clear hb2;obtain⟨gD,CD,rfl,lD,DD⟩:=DV)
           exact bodyPost_ret (v:=.tuple #[.slice (some ⟨gD,0,none⟩) n0 CD,.int .i64 0]) (by simp [results,Try.results6,go_sem, *]) rfl ⟨⟨_,rfl,gD,CD,rfl,by omega,DD⟩,HB⟩
         | error e =>
           go_wp2_with (go_at_call 16;(with_reducible refine ct.mono ?_);rintro r W7 ⟨hM,hb2⟩;replace hM:r=.returned (.tuple #[.slice none 0 0,.int .i64 e]):=hM;subst hM;replace HB:=later HB hb2;clear hb2)
           exact bodyPost_ret (v:=.tuple #[.slice none 0 0,.int .i64 e]) (by simp [results,Try.results6,go_sem, *]) rfl ⟨rfl,HB⟩
def OwnBo (B:Nat) (w:World) (v:Value) (n:Nat):Prop:=w.ownsRow B 4 1 v n (List.replicate n (.bool true))
theorem OwnBo.keep {B:Nat} {w w2:World} {v:Value} {n:Nat} (h:OwnBo B w v n) (hb:Below w.heap.size w w2):OwnBo B w2 v n:=own_keep h hb
theorem ownBo_nil (B:Nat) (w:World):OwnBo B w (.slice none 0 0) 0:=⟨rfl,Or.inl ⟨rfl,rfl⟩⟩
theorem OwnBo.form {B:Nat} {w:World} {v:Value} {n:Nat} (h:OwnBo B w v n):∃A C,v=.slice A n C∧Bls w A n (fun _=>true):=by
 rcases h.2 with ⟨rfl,hn⟩ | ⟨g,cap,cur,rfl, -,hg,hc, -, -,ht⟩
 · subst hn
   exact⟨none,0,rfl,fun i hi=>by omega⟩
 · have hb:BlkAt w g 4 cur.toList:=by show w.heap[g]?=_;rw [hg]
   refine⟨_,_,rfl,fun i hi=>⟨g,0,rfl,hb.lt, ?_⟩⟩
   rw [Nat.zero_add]
   refine hb.cell i _ ?_
   have q:(List.replicate n (Value.bool true))[i]?=some (.bool true):=by rw [List.getElem?_replicate,if_pos hi]
   rw [←ht,List.getElem?_take] at q
   split at q
   · exact q
   · cases q
set_option maxRecDepth 8000 in
theorem wpList_pushBo {B:Nat} {w0 wr:World} {ops:Array Oper} {rest:List Oper} {o:Oper} {a:Act} {Q:Exit→Act→World→Prop} (hgd:o.guard=none) (s x:Operand)
   (ho:o.op=.call { callee:=.builtin .append,args:=#[s,x],argTypes:=#[25,25] }) (v:Value) (n:Nat) (hs:a.eval s=v) (hx:a.eval x=.slice (some ⟨wr.heap.size,0,none⟩) 1 1)
   (hown:OwnBo B wr v n) (hl:n≤2000000) (hB:B≤wr.heap.size) (hbel:Below B w0 wr)
   (h:∀v' w',OwnBo B w' v' (n+1)→Below B w0 w'→Below B wr w'→(∀b T cs,T≠4→BlkAt wr b T cs→BlkAt w' b T cs)→wpList Try.prog ops Q rest (a.put o.dst v') w'):wpList Try.prog ops Q (o :: rest) a (wr.alloc (.cells #[.bool true] 4)):=by
 obtain⟨i0,hi,hz0,hz1,hz2⟩:=info_parts Try.infoBool
 have hal:Below wr.heap.size wr (wr.alloc (.cells #[.bool true] 4)):=(Below.refl _ _).alloc (Nat.le_refl _) _
 have hown':(wr.alloc (.cells #[.bool true] 4)).ownsRow B 4 1 v n (List.replicate n (.bool true)):=own_keep hown hal
 refine wpList_append_own _ hgd s x 25 ho B 4 i0 (.bool false) 1 1 Try.underlying25 hi hz0 hz1 hz2 rfl (by decide) v n _ hs hown' ⟨wr.heap.size,0,none⟩ 1 1 [.bool true] hx rfl ?_ ?_ (by unfold maxLen;omega) (by omega) (by simp;omega) ?_
 · intro j u hj
   match j,hj with
   | 0,hj=>simp at hj;subst hj;simp [Addr.add]
 · intro u hu
   simp at hu
   rw [hu]
   rfl
 · intro v' w' h1 h2 _
   have lt:∀k,v.ownBlock=some k→B≤k:=fun k hk=>(World.ownsRow.lt hown k hk).1
   refine h v' w' ?_ ((hbel.alloc hB _).grown h2 (by simp;omega) lt) (((Below.refl B wr).alloc hB _).grown h2 (by simp;omega) lt) (fun b T cs hT hb=>?_)
   · unfold OwnBo
     rw [List.replicate_succ']
     exact h1
   · have hb2:=hb.keeps hal
     refine (h2.block b hb2.lt (fun e=>?_)).trans hb2
     rcases hown'.2 with ⟨hv, -⟩ | ⟨b2,cap,cur,hv, -,hg2, -⟩
     · rw [hv] at e;cases e
     · rw [hv] at e
       have e2:b2=b:=by injection e with e;exact e.symm
       subst e2
       have q:some (Obj.cells cs.toArray T (0,0))=some (Obj.cells cur 4 (0,0)):=hb2.symm.trans hg2
       injection q with q
       injection q with _ q2 _
       exact hT q2
def likeB (n:Nat) (D:Nat→Nat→Int×Int) (m:Nat) (E:Nat→Nat→Int×Int):Bool:=n==m&&(List.range n).all fun i=>eqD (D i) (E i)
theorem alive14_w (w:World):Calls Try.prog 9 #[] w fun x w'=>x=.returned (.bool true)∧w=w':=by
 have hn:nextB 4607182418800017408=4607182418800017409:=by decide
 have ho:FloatKind.f64.format.order 4607182418800017409 4607182418800017408=some Ordering.gt:=by rw [order_eq _ _ (by omega) (by omega)];rfl
 go_enter Try.func9,Try.ntmps9
 go_wp2_with (go_at_call 27;refine (next_w 4607182418800017408 (by omega) _).mono ?_;rintro _ _ ⟨rfl,rfl⟩)
 go_ret
 exact⟨rfl,rfl⟩
theorem usmall_w (A:Option Addr) (n C:Nat) (D:Option Addr) (m E:Nat) (w:World) :
   Calls Try.prog 5 #[.slice A n C,.slice D m E] w fun x w'=>x=.returned (.bool (decide (n≤60)&&decide (m≤12)))∧w=w':=by
 by_cases h1:n≤60
 · have q1:(n:Int)≤60:=by omega
   by_cases h2:m≤12
   · have q2:(m:Int)≤12:=by omega
     rw [decide_eq_true h1,decide_eq_true h2]
     clear h1 h2
     go_enter Try.func5,Try.ntmps5
     go_wp2_with fail
     go_ret
     exact⟨rfl,rfl⟩
   · have q2:¬(m:Int)≤12:=by omega
     rw [decide_eq_true h1,decide_eq_false h2]
     clear h1 h2
     go_enter Try.func5,Try.ntmps5
     go_wp2_with fail
     go_ret
     exact⟨rfl,rfl⟩
 · have q1:¬(n:Int)≤60:=by omega
   rw [decide_eq_false h1]
   clear h1
   go_enter Try.func5,Try.ntmps5
   go_wp2_with fail
   go_ret
   exact⟨rfl,rfl⟩
set_option maxRecDepth 4000 in
set_option maxHeartbeats 4000000 in
theorem uLike_w (A0 A1:Option Addr) (n C0 m C1:Nat) (D E:Nat→Nat→Int×Int) (hn:(n:Int)≤9223372036854775807) (w:World) (VD:Dms w A0 n D) (VE:Dms w A1 m E) :
   Calls Try.prog 8 #[.slice A0 n C0,.slice A1 m C1] w fun x w'=>x=.returned (.bool (likeB n D m E))∧Below w.heap.size w w':=by
 obtain⟨R,hR⟩:∃R,Hid (likeB n D m E=R):=⟨_,rfl⟩
 rw [hR.out]
 have HB:Below w.heap.size w w:=Below.refl _ _
 go_enter Try.func8,Try.ntmps8
 by_cases cn:¬n=m
 · have e1:Hid (false=R):=by have q:=hR.out;unfold likeB at q;rw [beq_eq_false_iff_ne.2 cn,Bool.false_and] at q;exact q
   have cn2:¬(n:Int)=(m:Int):=by omega
   have cn3:((n:Int) != (m:Int))=true:=bne_iff_ne.2 cn2
   clear hR
   replace cn:Hid (¬n=m):=cn
   go_wp2_with fail
   go_ret
   exact⟨by have q:=e1.out;subst q;rfl,HB⟩
 replace cn:n=m:=Decidable.not_not.1 cn
 subst cn
 have hR2:Hid (((List.range n).all fun i=>eqD (D i) (E i))=R):=by have q:=hR.out;unfold likeB at q;rw [beq_self_eq_true,Bool.true_and] at q;exact q
 clear hR
 go_wp2_with fail
 go_loopg [13] n (fun T s13 wx=>∃i:Nat,i+T=n∧s13=.int .i64 (i:Int)∧Below w.heap.size w wx∧Hid (∀q,q<i→eqD (D q) (E q)=true))
 case atStart=>exact⟨0,by omega,rfl,HB,fun j hj=>absurd hj (by omega)⟩
 case round =>
   clear HB
   obtain⟨i,hi,rfl,HB,hall⟩:=hrel
   by_cases ci:i=n
   · have e1:Hid (true=R):=by have q:=hR2.out;subst ci;rw [all_upto2.2 hall] at q;exact q
     clear hR2 hall
     subst ci
     go_wp2_with fail
     go_ret
     exact⟨by have q:=e1.out;subst q;rfl,HB⟩
   · have hin:i<n:=by omega
     have hlt:(i:Int)<(n:Int):=by omega
     obtain⟨b0,o0,hA0,l0,g0⟩:=(VD.keep HB) i hin
     obtain⟨b1,o1,hA1,l1,g1⟩:=(VE.keep HB) i hin
     replace g0:Hid (∀j c,(dimL (D i))[j]?=some c→wr.cell? ⟨b0,o0+i*14+j,none⟩=some c):=g0
     replace g1:Hid (∀j c,(dimL (E i))[j]?=some c→wr.cell? ⟨b1,o1+i*14+j,none⟩=some c):=g1
     subst hA0 hA1
     obtain⟨b,hb⟩:∃b,Hid (eqD (D i) (E i)=b):=⟨_,rfl⟩
     have q1:=fun W=>run_eq_dim (D i) (E i) b hb.out W
     go_upto_region 6 with fail
     obtain⟨DD,hDD⟩:∃DD,D i=DD:=⟨_,rfl⟩
     obtain⟨EE,hEE⟩:∃EE,E i=EE:=⟨_,rfl⟩
     rw [hDD] at g0 q1
     rw [hEE] at g1 q1
     clear hDD hEE
     refine region_behind (by kernel_rfl) (by kernel_rfl) ?_
     repeat (first
       | (go_big_quiet_want;refine quiet_loadBig _ 30 (by rfl) Try.underlying30 (dimL DD) (by kernel_rfl) (by rfl) ((fun W hW j c hj=>by obtain⟨q9,rfl⟩:=hW;exact keepsC q9.bel (g0.out j c hj) l0)) (dim_valU DD) ?_;simp only [Act.put,List.setIfInBounds_toArray,List.set_cons_zero,List.set_cons_succ];go_big_quiet_on)
       | (go_big_quiet_want;refine quiet_loadBig _ 30 (by rfl) Try.underlying30 (dimL EE) (by kernel_rfl) (by rfl) ((fun W hW j c hj=>by obtain⟨q9,rfl⟩:=hW;exact keepsC q9.bel (g1.out j c hj) l1)) (dim_valU EE) ?_;simp only [Act.put,List.setIfInBounds_toArray,List.set_cons_zero,List.set_cons_succ];go_big_quiet_on)
       | (go_big_quiet_step (fail))
       | (go_big_quiet_want;refine quiet_run (.bool (!b)) (fun W _=>by simp [execOp,go_sem,q1 W];cases b <;> rfl) ?_;simp only [Act.put,List.setIfInBounds_toArray,List.set_cons_zero,List.set_cons_succ];go_big_quiet_on))
     refine wpQuiet_nil ?_
     rintro _ ⟨q,rfl⟩
     obtain⟨W,hb1⟩:=q
     dsimp only
     replace HB:=later HB hb1
     clear hb1 g0 g1 q1
     cases b with
     | true =>
       have hall2:Hid (∀q,q<i+1→eqD (D q) (E q)=true):=fun q hq=>by rcases Nat.lt_or_ge q i with h | h;exact hall.out q h;rw [show q=i by omega];exact hb.out
       clear hall hb
       go_wp2_with fail
       go_roundg (n-i-1)
       case measure=>omega
       case rel=>exact⟨i+1,by omega,by go_num,HB,hall2⟩
     | false =>
       have e1:Hid (false=R):=by have q:=hR2.out;rw [all_not2 (i:=i) hin hb.out] at q;exact q
       clear hR2 hall hb
       go_wp2_with fail
       go_ret
       exact⟨by have q:=e1.out;subst q;rfl,HB⟩
theorem solveF_err:∀{Rs:List Pro} {K:List (Int×Pro)} {e:Int},solveF K Rs=.error e→e=3∨e=140
 | [],K,e,h=>by unfold solveF at h;cases h
 | R :: Rs,K,e,h=>by
   unfold solveF at h
   cases hf:freedF R K with
   | none=>rw [hf] at h;exact Or.inl (by injection h with h;exact h.symm)
   | some Y =>
     rw [hf] at h
     dsimp only at h
     cases hl:Y.2 with
     | nil =>
       rw [hl] at h
       dsimp only at h
       cases hp:plainB Y.1 with
       | false=>rw [hp,if_neg (by simp)] at h;exact Or.inr (by injection h with h;exact h.symm)
       | true=>rw [hp,if_pos rfl] at h;exact solveF_err h
     | cons f L =>
       rw [hl] at h
       dsimp only at h
       cases hk:keepO Y with
       | none=>rw [hk] at h;exact Or.inl (by injection h with h;exact h.symm)
       | some k=>rw [hk] at h;exact solveF_err h
theorem infer_err {X:Nat→Nd} {n:Nat} {Y:Nat→Int} {m n0 n1:Nat} {G:Nat→Bool} {D:Nat→Nat→Int×Int} {S:Nat→Int×Int} {e:Int} (h:inferR X n Y m n0 n1 G D S=.error e):e≠0:=by
 unfold inferR at h
 split at h
 · split at h
   · unfold workR at h
     cases hs:stateF X (needH X n Y m) G D S n with
     | none=>rw [hs] at h;injection h with h;omega
     | some st =>
       rw [hs] at h
       dsimp only at h
       unfold allFrom at h
       cases hk:solveF [] st.2 with
       | error e2 =>
         rw [hk] at h
         injection h with h
         have:=solveF_err hk
         omega
       | ok K =>
         rw [hk] at h
         dsimp only at h
         cases hb:backF K.reverse (startD G D) with
         | none=>rw [hb] at h;injection h with h;omega
         | some Z=>rw [hb] at h;cases h
   · injection h with h;omega
 · injection h with h;omega
theorem infer_fits {X:Nat→Nd} {n:Nat} {Y:Nat→Int} {m n0 n1:Nat} {G:Nat→Bool} {D:Nat→Nat→Int×Int} {S:Nat→Int×Int} (hX:∀i,i<n→(X i).Ok) (hS:Dim64 S) (hD:∀v,v<n0→Dim64 (D v)) {Z:Nat→Nat→Int×Int} (h:inferR X n Y m n0 n1 G D S=.ok Z) :
   n1=n0∧(∀v,v<n0→Dim64 (Z v)∧drK (Z v) 7=true)∧(∀v,G v=true→Z v=D v)∧(inferR X n Y m n0 n0 (fun _=>true) Z S=.error 3∨inferR X n Y m n0 n0 (fun _=>true) Z S=.ok Z):=by
 unfold inferR at h
 by_cases hg:(graphB X n&&(List.range m).all fun i=>oneOf (Y i) (n:Int))=true
 · rw [if_pos hg] at h
   by_cases hv:(vrightB n0 n1 G D S&&haveB X (needH X n Y m) n n0)=true
   · rw [if_pos hv] at h
     have hg2:=hg
     have hv2:=hv
     simp only [Bool.and_eq_true] at hg2 hv2
     obtain⟨g1, -⟩:=hg2
     obtain⟨v1,v2⟩:=hv2
     unfold graphB at g1
     simp only [Bool.and_eq_true,decide_eq_true_eq] at g1
     have hnode:∀i,i<n→nodeB (X i) (i:Int)=true:=all_upto2.1 g1.2
     have hop:∀i,i<n→∀j,j<(X i).ar→0≤(X i).at j∧(X i).at j<(i:Int):=fun i hi j hj=>by
       have q:=hnode i hi
       unfold nodeB opsG at q
       simp only [Bool.and_eq_true] at q
       have q2:=all_upto2.1 q.2.2 j hj
       unfold oneOf at q2
       simpa using q2
     unfold vrightB givenB at v1
     simp only [Bool.and_eq_true,beq_iff_eq] at v1
     obtain⟨h1,h2,h3⟩:=v1
     have h3':=all_upto2.1 h3
     have hv':=all_upto2.1 (show ((List.range n).all fun i=>!(needH X n Y m i&&((X i).k==2&&decide ((n0:Int)≤(X i).v))))=true from v2)
     have hF:∀i,i<n→needH X n Y m i=true→Fit (X i) i n0:=fun i hi hNi=>by
       have q:=hnode i hi
       unfold nodeB kindB at q
       simp only [Bool.and_eq_true,decide_eq_true_eq] at q
       refine⟨q.1,q.2.1,hop i hi,fun hk=>?_⟩
       have q2:=hv' i hi
       rw [hNi,hk] at q2
       simpa using q2
     have hDD:∀v,v<n0→G v=true→Dim64 (D v)∧drK (D v) 7=true:=fun v hv hG=>⟨hD v hv,by have q:=h3' v hv;rw [hG] at q;simpa using q⟩
     obtain⟨a1,a2,a3⟩:=work_fits (fun i hi=>(hX i hi).E) hF (needH_closed hop Y m) hS h2 hDD h
     refine⟨h1,a1,a2, ?_⟩
     have e1:vrightB n0 n0 (fun _=>true) Z S=true:=by
       unfold vrightB givenB
       rw [beq_self_eq_true,h2,Bool.true_and,Bool.true_and]
       exact all_upto2.2 fun i hi=>by rw [(a1 i hi).2];rfl
     unfold inferR
     rw [if_pos hg,e1,v2,Bool.and_self,if_pos rfl]
     exact a3
   · rw [if_neg hv] at h;cases h
 · rw [if_neg hg] at h;cases h
set_option maxRecDepth 4000 in
set_option maxHeartbeats 8000000 in
theorem unitFits_w (AN:Option Addr) (n CN:Nat) (X:Nat→Nd) (AQ:Option Addr) (m CQ:Nat) (Y:Nat→Int) (A0 A1:Option Addr) (n0 C0 n1 C1:Nat) (D:Nat→Nat→Int×Int) (G:Nat→Bool) (S:Nat→Int×Int)
   (hm:(m:Int)≤9223372036854775807) (hn1:(n1:Int)≤9223372036854775807) (hX:∀i,i<n→(X i).Ok) (hS:Dim64 S) (hD:∀v,v<n0→Dim64 (D v)) (w:World) (VN:Nds w AN n X) (VQ:Ins w AQ m Y) (VD:Dms w A0 n0 D) (VG:Bls w A1 n1 G) :
   Calls Try.prog 4 #[.slice AN n CN,.slice AQ m CQ,.slice A0 n0 C0,.slice A1 n1 C1,dimV S] w fun r w'=>r=.returned (.bool true)∧Below w.heap.size w w':=by
 show Calls Try.prog _ #[_,_,_,_,.agg #[.int .i64 (S 0).1,.int .i64 (S 0).2,.int .i64 (S 1).1,.int .i64 (S 1).2,.int .i64 (S 2).1,.int .i64 (S 2).2,.int .i64 (S 3).1,.int .i64 (S 3).2,.int .i64 (S 4).1,.int .i64 (S 4).2,.int .i64 (S 5).1,.int .i64 (S 5).2,.int .i64 (S 6).1,.int .i64 (S 6).2]] w _
 have cz:=fun W=>usmall_w AN n CN A0 n0 C0 W
 obtain⟨XS,HB⟩:=blks1 w 30 [.int .i64 (S 0).1,.int .i64 (S 0).2,.int .i64 (S 1).1,.int .i64 (S 1).2,.int .i64 (S 2).1,.int .i64 (S 2).2,.int .i64 (S 3).1,.int .i64 (S 3).2,.int .i64 (S 4).1,.int .i64 (S 4).2,.int .i64 (S 5).1,.int .i64 (S 5).2,.int .i64 (S 6).1,.int .i64 (S 6).2]
 go_enter Try.func4,Try.ntmps4
 go_upto_region 1 with fail
 generalize (w.alloc (.cells #[.int .i64 (S 0).1,.int .i64 (S 0).2,.int .i64 (S 1).1,.int .i64 (S 1).2,.int .i64 (S 2).1,.int .i64 (S 2).2,.int .i64 (S 3).1,.int .i64 (S 3).2,.int .i64 (S 4).1,.int .i64 (S 4).2,.int .i64 (S 5).1,.int .i64 (S 5).2,.int .i64 (S 6).1,.int .i64 (S 6).2] 30))=V1 at *
 cases hz:(decide (n≤60)&&decide (n0≤12)) with
 | false =>
   rw [hz] at cz
   clear hz
   go_wp2_with (first
     | (go_at_call 9;refine (alive14_w _).mono ?_;rintro _ _ ⟨rfl,rfl⟩)
     | (go_at_call 5;refine (cz _).mono ?_;rintro _ _ ⟨rfl,rfl⟩))
   go_ret
   exact⟨rfl,HB⟩
 | true =>
   rw [hz] at cz
   simp only [Bool.and_eq_true,decide_eq_true_eq] at hz
   obtain⟨hn,hn0⟩:=hz
   obtain⟨R,hR⟩:∃R,Hid (inferR X n Y m n0 n1 G D S=R):=⟨_,rfl⟩
   have ci:∀W,Nds W AN n X→Ins W AQ m Y→Dms W A0 n0 D→Bls W A1 n1 G→Calls Try.prog 6 #[.slice AN n CN,.slice AQ m CQ,.slice A0 n0 C0,.slice A1 n1 C1,dimV S] W fun r w'=>TrAns W.heap.size r w' n0 R∧Below W.heap.size W w':=by
     rw [←hR.out]
     exact fun W vn vq vd vg=>uInfer_w AN n CN X AQ m CQ Y A0 A1 n0 C0 n1 C1 D G S (by omega) hm (by omega) hn1 hX hS hD W vn vq vd vg
   cases R with
   | error e =>
     have he:=infer_err hR.out
     have he2:(e != 0)=true:=bne_iff_ne.2 he
     replace he:Hid (e≠0):=he
     clear hR
     go_wp2_with (first
       | (refine wpList_loadBig (by rfl) _ 30 (by rfl) Try.underlying30 (dimL S) (by kernel_rfl) (by rfl) (XS.cell0) (dim_val S) ?_)
       | (go_at_call 9;refine (alive14_w _).mono ?_;rintro _ _ ⟨rfl,rfl⟩)
       | (go_at_call 5;refine (cz _).mono ?_;rintro _ _ ⟨rfl,rfl⟩)
       | (go_at_call 6;(with_reducible refine (ci _ (VN.keep HB) (VQ.keep HB) (VD.keep HB) (VG.keep HB)).mono ?_);rintro r W2 ⟨hM,hb2⟩;replace hM:r=.returned (.tuple #[.slice none 0 0,.int .i64 e]):=hM;subst hM;replace HB:=later HB hb2;clear hb2))
     go_ret
     exact⟨rfl,HB⟩
   | ok Z =>
     obtain⟨h1,hZ,hZD,hR2⟩:=infer_fits hX hS hD hR.out
     subst h1
     obtain⟨R2,hRR2⟩:∃R2,Hid (inferR X n Y m n1 n1 (fun _=>true) Z S=R2):=⟨_,rfl⟩
     rw [hRR2.out] at hR2
     have ci2:∀W A2 C2 A3 C3,Nds W AN n X→Ins W AQ m Y→Dms W A2 n1 Z→Bls W A3 n1 (fun _=>true)→Calls Try.prog 6 #[.slice AN n CN,.slice AQ m CQ,.slice A2 n1 C2,.slice A3 n1 C3,dimV S] W fun r w'=>TrAns W.heap.size r w' n1 R2∧Below W.heap.size W w':=by
       rw [←hRR2.out]
       exact fun W A2 C2 A3 C3 vn vq vd vg=>uInfer_w AN n CN X AQ m CQ Y A2 A3 n1 C2 n1 C3 Z (fun _=>true) S (by omega) hm (by omega) hn1 hX hS (fun v hv=>(hZ v hv).1) W vn vq vd vg
     have HZ:Hid (∀v,v<n1→Dim64 (Z v)∧drK (Z v) 7=true):=hZ
     have HZD:Hid (∀v,G v=true→Z v=D v):=hZD
     replace hR2:Hid (R2=.error 3∨R2=.ok Z):=hR2
     clear hR hRR2 hX hS hD hZ hZD
     have hn12:n1≤12:=hn0
     go_upto_region 10 with (first
       | (refine wpList_loadBig (by rfl) _ 30 (by rfl) Try.underlying30 (dimL S) (by kernel_rfl) (by rfl) (XS.cell0) (dim_val S) ?_)
       | (go_at_call 9;refine (alive14_w _).mono ?_;rintro _ _ ⟨rfl,rfl⟩)
       | (go_at_call 5;refine (cz _).mono ?_;rintro _ _ ⟨rfl,rfl⟩)
       | (go_at_call 6;(with_reducible refine (ci _ (VN.keep HB) (VQ.keep HB) (VD.keep HB) (VG.keep HB)).mono ?_);rintro r W2 ⟨hM,hb2⟩;obtain⟨v,rfl,DV⟩:=hM;replace HB:=later HB hb2;replace XS:=XS.keeps hb2;clear hb2;obtain⟨gD,CD,rfl,lD,DD⟩:=DV))
     clear ci cz
     replace XS:BlkAt W2 w.heap.size 30 (dimL S):=XS
     go_loopg [13,39] n1 (fun T s13 s39 wx=>∃i:Nat,i+T=n1∧s39=.int .i64 (i:Int)∧OwnBo w.heap.size wx s13 i∧DmAt wx gD n1 Z∧BlkAt wx w.heap.size 30 (dimL S)∧Below w.heap.size w wx)
     case atStart=>exact⟨0,by omega,rfl,ownBo_nil _ _,DD,XS,HB⟩
     case round =>
       clear HB XS DD
       obtain⟨i,hi,rfl,I,DD,XS,HB⟩:=hrel
       by_cases cc:i=n1
       · subst cc
         obtain⟨A3,C3,e3,BI⟩:=I.form
         subst e3
         clear I
         cases hR2':R2 with
         | error e =>
           have ee:e=3:=by
             rcases hR2.out with q | q
             · rw [hR2'] at q;injection q
             · rw [hR2'] at q;cases q
           subst ee
           subst hR2'
           clear hR2
           go_wp2_with (first
             | (refine wpList_loadBig (by rfl) _ 30 (by rfl) Try.underlying30 (dimL S) (by kernel_rfl) (by rfl) (XS.cell0) (dim_val S) ?_)
             | (go_at_call 6;(with_reducible refine (ci2 _ _ _ _ _ (VN.keep HB) (VQ.keep HB) DD.dms BI).mono ?_);rintro r W5 ⟨hM,hb2⟩;replace hM:r=.returned (.tuple #[.slice none 0 0,.int .i64 3]):=hM;subst hM;replace HB:=later HB hb2;clear hb2))
           go_ret
           exact⟨rfl,HB⟩
         | ok Z2 =>
           have ee:Z2=Z:=by
             rcases hR2.out with q | q
             · rw [hR2'] at q;cases q
             · rw [hR2'] at q;injection q
           subst ee
           subst hR2'
           clear hR2
           have cl:∀W A2 C2 A3 C3,Dms W A2 i Z2→Dms W A3 i Z2→Calls Try.prog 8 #[.slice A2 i C2,.slice A3 i C3] W fun r w'=>r=.returned (.bool true)∧Below W.heap.size W w':=fun W A2 C2 A3 C3 v2 v3=>by
             have q:=uLike_w A2 A3 i C2 i C3 Z2 Z2 (by omega) W v2 v3
             have e:likeB i Z2 i Z2=true:=by
               unfold likeB
               rw [beq_self_eq_true,Bool.true_and]
               exact all_upto2.2 fun j _=>eqD_self _
             rw [e] at q
             exact q
           go_wp2_with (first
             | (refine wpList_loadBig (by rfl) _ 30 (by rfl) Try.underlying30 (dimL S) (by kernel_rfl) (by rfl) (XS.cell0) (dim_val S) ?_)
             | (go_at_call 6;(with_reducible refine (ci2 _ _ _ _ _ (VN.keep HB) (VQ.keep HB) DD.dms BI).mono ?_);rintro r W5 ⟨hM,hb2⟩;obtain⟨v5,rfl,DV⟩:=hM;replace HB:=later HB hb2;replace DD:=DD.keep hb2;clear hb2;obtain⟨gE,CE,rfl,lE,DE⟩:=DV)
             | (go_at_call 8;(with_reducible refine (cl _ _ _ _ _ DD.dms DE.dms).mono ?_);rintro _ W6 ⟨rfl,hb2⟩;replace HB:=later HB hb2;clear hb2))
           go_ret
           exact⟨rfl,HB⟩
       · have hin:i<n1:=by omega
         have hlt:(i:Int)<(n1:Int):=by omega
         obtain⟨A3,C3,e3,BI⟩:=I.form
         subst e3
         clear BI
         go_upto_region 13 with (at_builtin;refine wpList_pushBo (w0:=w) (B:=w.heap.size) (by rfl) _ _ (by rfl) _ i (by rfl) (by rfl) I (by omega) HB.size HB ?_;intro v' w8 I8 hb8 hb9 hW8)
         have DD8:DmAt w8 gD n1 Z:=by obtain⟨cs,b,r⟩:=DD;exact⟨cs,hW8 _ _ _ (by decide) b,r⟩
         have XS8:=hW8 _ _ _ (by decide) XS
         clear I DD XS hb9 hW8 HB
         have HB:=hb8
         clear hb8
         obtain⟨b1,o1,hA1,l1,g1⟩:=(VG.keep HB) i hin
         have hgl:gD<w8.heap.size:=by obtain⟨cs,b, -⟩:=DD8;exact b.lt
         have gz:Hid (∀j c,(dimL (Z i))[j]?=some c→w8.cell? ⟨gD,i*14+j,none⟩=some c):=by
           obtain⟨cs,b, -,f⟩:=DD8
           exact fun j u hj=>b.cell _ _ (f i hin j u hj)
         subst hA1
         have cR:∀W,Calls Try.prog 10 #[.agg #[.int .i64 (Z i 0).1,.int .i64 (Z i 0).2,.int .i64 (Z i 1).1,.int .i64 (Z i 1).2,.int .i64 (Z i 2).1,.int .i64 (Z i 2).2,.int .i64 (Z i 3).1,.int .i64 (Z i 3).2,.int .i64 (Z i 4).1,.int .i64 (Z i 4).2,.int .i64 (Z i 5).1,.int .i64 (Z i 5).2,.int .i64 (Z i 6).1,.int .i64 (Z i 6).2]] W fun r w'=>r=.returned (.bool true)∧Below W.heap.size W w':=fun W=>by
           have q:=uright_w (Z i) (HZ.out i hin).1 W
           rw [(HZ.out i hin).2] at q
           exact q
         cases hG:G i with
         | false =>
           rw [hG] at g1
           clear hG
           have kg:=fun n:Behind w8=>n.cell g1 l1
           refine region_behind (by kernel_rfl) (by kernel_rfl) ?_
           repeat (first
             | (go_big_quiet_want;refine quiet_loadBig _ 30 (by rfl) Try.underlying30 (dimL (Z i)) (by kernel_rfl) (by rfl) ((fun W hW j c hj=>by obtain⟨q9,rfl⟩:=hW;exact keepsC q9.bel (gz.out j c hj) hgl)) (dim_valU (Z i)) ?_;simp only [Act.put,List.setIfInBounds_toArray,List.set_cons_zero,List.set_cons_succ];go_big_quiet_on)
             | (go_big_quiet_step (first | (go_at_call 10;with_reducible refine Behind.call (cR _)))))
           refine wpQuiet_nil ?_
           rintro _ ⟨q,rfl⟩
           obtain⟨W,hb1⟩:=q
           dsimp only
           clear kg
           go_wp2_with fail
           go_roundg (n1-i-1)
           case measure=>omega
           case rel=>exact⟨i+1,by omega,by go_num,I8.keep hb1,DD8.keep hb1,XS8.keeps hb1,later HB hb1⟩
         | true =>
           rw [hG] at g1
           have hDZ:=HZD.out i hG
           obtain⟨b0,o0,hA0,l0,g0⟩:=(VD.keep HB) i hin
           rw [←hDZ] at g0
           replace g0:Hid (∀j c,(dimL (Z i))[j]?=some c→w8.cell? ⟨b0,o0+i*14+j,none⟩=some c):=g0
           subst hA0
           have q1:=fun W=>run_eq_dim (Z i) (Z i) true (eqD_self _) W
           clear hG hDZ
           have kg:=fun n:Behind w8=>n.cell g1 l1
           refine region_behind (by kernel_rfl) (by kernel_rfl) ?_
           repeat (first
             | (go_big_quiet_want;refine quiet_loadBig _ 30 (by rfl) Try.underlying30 (dimL (Z i)) (by kernel_rfl) (by rfl) ((fun W hW j c hj=>by obtain⟨q9,rfl⟩:=hW;exact keepsC q9.bel (gz.out j c hj) hgl)) (dim_valU (Z i)) ?_;simp only [Act.put,List.setIfInBounds_toArray,List.set_cons_zero,List.set_cons_succ];go_big_quiet_on)
             | (go_big_quiet_want;refine quiet_loadBig _ 30 (by rfl) Try.underlying30 (dimL (Z i)) (by kernel_rfl) (by rfl) ((fun W hW j c hj=>by obtain⟨q9,rfl⟩:=hW;exact keepsC q9.bel (g0.out j c hj) l0)) (dim_valU (Z i)) ?_;simp only [Act.put,List.setIfInBounds_toArray,List.set_cons_zero,List.set_cons_succ];go_big_quiet_on)
             | (go_big_quiet_step (first | (go_at_call 10;with_reducible refine Behind.call (cR _))))
             | (go_big_quiet_want;refine quiet_run (.bool false) (fun W _=>by simp [execOp,go_sem,q1 W]) ?_;simp only [Act.put,List.setIfInBounds_toArray,List.set_cons_zero,List.set_cons_succ];go_big_quiet_on))
           refine wpQuiet_nil ?_
           rintro _ ⟨q,rfl⟩
           obtain⟨W,hb1⟩:=q
           dsimp only
           clear kg q1 g0
           go_wp2_with fail
           go_roundg (n1-i-1)
           case measure=>omega
           case rel=>exact⟨i+1,by omega,by go_num,I8.keep hb1,DD8.keep hb1,XS8.keeps hb1,later HB hb1⟩
end Go.Proofs.Ytbejmklkicoibaa
