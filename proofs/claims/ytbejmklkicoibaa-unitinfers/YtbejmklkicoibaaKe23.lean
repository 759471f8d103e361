/- unit.dimensionOf: kinds with operands. -/
import Derived.Test.YtbejmklkicoibaaKe22
namespace Go.Proofs.Ytbejmklkicoibaa
open Go.ChangeShapes Go.WideShapes Go.ChangeAt Go.RowKit
theorem PrsAt.at {w:World} {b o:Nat} {K:Nat->Prop} {Q:Nat->Pro} (h:PrsAt w (some ⟨b,o,none⟩) K Q) {i:Nat} (hi:K i):∃A' c,b<w.heap.size/\(Q i).2.length<=c/\FacAt w A' (Q i).2/\∀j u,(proL (Q i).1 (.slice A' (Q i).2.length c))[j]?=some u->w.cell? ⟨b,o+i*15+j,none⟩=some u:=by
 obtain⟨b',o',A',c,e,l,hc,f,g⟩:=h i hi
 injection e with e
 injection e with e1 e2 _
 subst e1 e2
 exact⟨A',c,l,hc,f,g⟩
set_option maxRecDepth 4000 in
set_option maxHeartbeats 4000000 in
theorem udim_neg (x:Nd) (AN:Option Addr) (nn CN:Nat) (AP:Option Addr) (np CP:Nat) (K:Nat->Prop) (Q:Nat->Pro) (A0 A1:Option Addr) (n0 C0 n1 C1:Nat) (S:Nat->Int×Int) (hh:Hid (x.k=7)) (ia:Nat) (hia:Hid (x.a=(ia:Int))) (hKa:K ia) (hna:ia<np) (w:World) (VP:PrsAt w AP K Q) :
  Calls Try.prog 38 #[x.val,.slice AN nn CN,.slice AP np CP,vrV (.slice A0 n0 C0) (.slice A1 n1 C1) S] w fun r w'=>PrAns r w' (some (Q ia))/\Below w.heap.size w w':=by
 obtain⟨b,o,Aa,ca,eA,la,hca,fa,ga⟩:=VP ia hKa
 subst eA
 show Calls Try.prog _ #[.agg #[.int .i64 x.k,.int .i64 x.a,.int .i64 x.b,.int .i64 x.n,.int .i64 x.q,.int .i64 x.p,.int .i64 x.v,.int .i64 x.d,.int .i64 (x.E 0).1,.int .i64 (x.E 0).2,.int .i64 (x.E 1).1,.int .i64 (x.E 1).2,.int .i64 (x.E 2).1,.int .i64 (x.E 2).2,.int .i64 (x.E 3).1,.int .i64 (x.E 3).2,.int .i64 (x.E 4).1,.int .i64 (x.E 4).2,.int .i64 (x.E 5).1,.int .i64 (x.E 5).2,.int .i64 (x.E 6).1,.int .i64 (x.E 6).2],_,_,.agg #[.slice A0 n0 C0,.slice A1 n1 C1,.int .i64 (S 0).1,.int .i64 (S 0).2,.int .i64 (S 1).1,.int .i64 (S 1).2,.int .i64 (S 2).1,.int .i64 (S 2).2,.int .i64 (S 3).1,.int .i64 (S 3).2,.int .i64 (S 4).1,.int .i64 (S 4).2,.int .i64 (S 5).1,.int .i64 (S 5).2,.int .i64 (S 6).1,.int .i64 (S 6).2]] w _
 obtain⟨XN,XV,RB,HB⟩:=blks3 w 54 43 79 [.int .i64 x.k,.int .i64 x.a,.int .i64 x.b,.int .i64 x.n,.int .i64 x.q,.int .i64 x.p,.int .i64 x.v,.int .i64 x.d,.int .i64 (x.E 0).1,.int .i64 (x.E 0).2,.int .i64 (x.E 1).1,.int .i64 (x.E 1).2,.int .i64 (x.E 2).1,.int .i64 (x.E 2).2,.int .i64 (x.E 3).1,.int .i64 (x.E 3).2,.int .i64 (x.E 4).1,.int .i64 (x.E 4).2,.int .i64 (x.E 5).1,.int .i64 (x.E 5).2,.int .i64 (x.E 6).1,.int .i64 (x.E 6).2] [.slice A0 n0 C0,.slice A1 n1 C1,.int .i64 (S 0).1,.int .i64 (S 0).2,.int .i64 (S 1).1,.int .i64 (S 1).2,.int .i64 (S 2).1,.int .i64 (S 2).2,.int .i64 (S 3).1,.int .i64 (S 3).2,.int .i64 (S 4).1,.int .i64 (S 4).2,.int .i64 (S 5).1,.int .i64 (S 5).2,.int .i64 (S 6).1,.int .i64 (S 6).2] [.int .i64 0,.int .i64 0,.int .i64 0,.int .i64 0,.int .i64 0,.int .i64 0,.int .i64 0,.int .i64 0,.int .i64 0,.int .i64 0,.int .i64 0,.int .i64 0,.int .i64 0,.int .i64 0,.slice none 0 0]
 go_enter Try.func38,Try.ntmps38
 go_upto_region 1 with fail
 generalize (((w.alloc (.cells #[.int .i64 x.k,.int .i64 x.a,.int .i64 x.b,.int .i64 x.n,.int .i64 x.q,.int .i64 x.p,.int .i64 x.v,.int .i64 x.d,.int .i64 (x.E 0).1,.int .i64 (x.E 0).2,.int .i64 (x.E 1).1,.int .i64 (x.E 1).2,.int .i64 (x.E 2).1,.int .i64 (x.E 2).2,.int .i64 (x.E 3).1,.int .i64 (x.E 3).2,.int .i64 (x.E 4).1,.int .i64 (x.E 4).2,.int .i64 (x.E 5).1,.int .i64 (x.E 5).2,.int .i64 (x.E 6).1,.int .i64 (x.E 6).2] 54)).alloc (.cells #[.slice A0 n0 C0,.slice A1 n1 C1,.int .i64 (S 0).1,.int .i64 (S 0).2,.int .i64 (S 1).1,.int .i64 (S 1).2,.int .i64 (S 2).1,.int .i64 (S 2).2,.int .i64 (S 3).1,.int .i64 (S 3).2,.int .i64 (S 4).1,.int .i64 (S 4).2,.int .i64 (S 5).1,.int .i64 (S 5).2,.int .i64 (S 6).1,.int .i64 (S 6).2] 43)).alloc (.cells #[.int .i64 0,.int .i64 0,.int .i64 0,.int .i64 0,.int .i64 0,.int .i64 0,.int .i64 0,.int .i64 0,.int .i64 0,.int .i64 0,.int .i64 0,.int .i64 0,.int .i64 0,.int .i64 0,.slice none 0 0] 79))=V1 at *
 obtain⟨x0,x1,x2,x3,x4,x5,x6,x7⟩:=XN.nd.cells
 rw [hh.out] at x0
 have ga1:∀j u,(proL (Q ia).1 (.slice Aa (Q ia).2.length ca))[j]?=some u->V1.cell? ⟨b,o+ia*15+j,none⟩=some u:=fun j u hj=>keepsC HB (ga j u hj) la
 have la1:b<V1.heap.size:=Nat.lt_of_lt_of_le la HB.size
 rw [hia.out] at x1
 have hna2:(ia:Int)<(np:Int):=by omega
 go_wp2_with (first
  | (refine wpList_loadBig (by rfl) _ 79 (by rfl) Try.underlying79 (proL (Q ia).1 (.slice Aa (Q ia).2.length ca)) (by kernel_rfl) (by rfl) (ga1) (pro_val (Q ia).1 (.slice Aa (Q ia).2.length ca)) ?_)
  | (refine wpList_storeBig (by rfl) _ _ 79 (by rfl) (RB) (proL (Q ia).1 (.slice Aa (Q ia).2.length ca)) (by kernel_rfl) (by rfl) (by rfl) (by rfl) (by rfl) ?_;rintro V2 XR hs2 hB2 hk2))
 have fl:=FSl.keep (show FSl w (.slice Aa (Q ia).2.length ca) (Q ia).2 from ⟨Aa,ca,rfl,hca,fa⟩) HB
 have fl2:=fl.other RB (by decide) hk2
 exact bodyPost_ret (v:=proV (Q ia).1 (.slice Aa (Q ia).2.length ca)) (results_cell_row Try.results38 _ V2 (w.heap.size+1+1) 79 (proL (Q ia).1 (.slice Aa (Q ia).2.length ca)).toArray (0,0) _ (by rfl) XR Try.underlying79 (by rfl) (by kernel_rfl)) rfl ⟨Or.inl ⟨Q ia,_,rfl,rfl,fl2⟩,hB2 _ _ HB (by omega)⟩
set_option maxRecDepth 4000 in
set_option maxHeartbeats 4000000 in
theorem udim_add (x:Nd) (AN:Option Addr) (nn CN:Nat) (AP:Option Addr) (np CP:Nat) (K:Nat->Prop) (Q:Nat->Pro) (A0 A1:Option Addr) (n0 C0 n1 C1:Nat) (S:Nat->Int×Int) (hh:Hid (x.k=3)) (X:Nat->Nd) (ia:Nat) (hia:Hid (x.a=(ia:Int))) (hKa:K ia) (hna:ia<np) (ib:Nat) (hib:Hid (x.b=(ib:Int))) (hKb:K ib) (hnb:ib<np) (hia2:ia<nn) (w:World) (VP:PrsAt w AP K Q) (VN:Nds w AN nn X) :
  Calls Try.prog 38 #[x.val,.slice AN nn CN,.slice AP np CP,vrV (.slice A0 n0 C0) (.slice A1 n1 C1) S] w fun r w'=>PrAns r w' (some (if frB (X ia) then Q ib else Q ia))/\Below w.heap.size w w':=by
 obtain⟨bn,on,eN,ln,gn⟩:=VN ia hia2
 subst eN
 obtain⟨y,hy⟩:∃y,y=X ia:=⟨_,rfl⟩
 rw [<-hy] at gn ⊢
 have cf:=fun W=>uisFree_w y W
 obtain⟨R,hR⟩:∃R,Hid (some (if frB y then Q ib else Q ia)=R):=⟨_,rfl⟩
 rw [hR.out]
 clear hy
 obtain⟨b,o,Aa,ca,eA,la,hca,fa,ga⟩:=VP ia hKa
 subst eA
 obtain⟨Ab,cb,lb,hcb,fb,gb⟩:=VP.at hKb
 show Calls Try.prog _ #[.agg #[.int .i64 x.k,.int .i64 x.a,.int .i64 x.b,.int .i64 x.n,.int .i64 x.q,.int .i64 x.p,.int .i64 x.v,.int .i64 x.d,.int .i64 (x.E 0).1,.int .i64 (x.E 0).2,.int .i64 (x.E 1).1,.int .i64 (x.E 1).2,.int .i64 (x.E 2).1,.int .i64 (x.E 2).2,.int .i64 (x.E 3).1,.int .i64 (x.E 3).2,.int .i64 (x.E 4).1,.int .i64 (x.E 4).2,.int .i64 (x.E 5).1,.int .i64 (x.E 5).2,.int .i64 (x.E 6).1,.int .i64 (x.E 6).2],_,_,.agg #[.slice A0 n0 C0,.slice A1 n1 C1,.int .i64 (S 0).1,.int .i64 (S 0).2,.int .i64 (S 1).1,.int .i64 (S 1).2,.int .i64 (S 2).1,.int .i64 (S 2).2,.int .i64 (S 3).1,.int .i64 (S 3).2,.int .i64 (S 4).1,.int .i64 (S 4).2,.int .i64 (S 5).1,.int .i64 (S 5).2,.int .i64 (S 6).1,.int .i64 (S 6).2]] w _
 obtain⟨XN,XV,RB,HB⟩:=blks3 w 54 43 79 [.int .i64 x.k,.int .i64 x.a,.int .i64 x.b,.int .i64 x.n,.int .i64 x.q,.int .i64 x.p,.int .i64 x.v,.int .i64 x.d,.int .i64 (x.E 0).1,.int .i64 (x.E 0).2,.int .i64 (x.E 1).1,.int .i64 (x.E 1).2,.int .i64 (x.E 2).1,.int .i64 (x.E 2).2,.int .i64 (x.E 3).1,.int .i64 (x.E 3).2,.int .i64 (x.E 4).1,.int .i64 (x.E 4).2,.int .i64 (x.E 5).1,.int .i64 (x.E 5).2,.int .i64 (x.E 6).1,.int .i64 (x.E 6).2] [.slice A0 n0 C0,.slice A1 n1 C1,.int .i64 (S 0).1,.int .i64 (S 0).2,.int .i64 (S 1).1,.int .i64 (S 1).2,.int .i64 (S 2).1,.int .i64 (S 2).2,.int .i64 (S 3).1,.int .i64 (S 3).2,.int .i64 (S 4).1,.int .i64 (S 4).2,.int .i64 (S 5).1,.int .i64 (S 5).2,.int .i64 (S 6).1,.int .i64 (S 6).2] [.int .i64 0,.int .i64 0,.int .i64 0,.int .i64 0,.int .i64 0,.int .i64 0,.int .i64 0,.int .i64 0,.int .i64 0,.int .i64 0,.int .i64 0,.int .i64 0,.int .i64 0,.int .i64 0,.slice none 0 0]
 go_enter Try.func38,Try.ntmps38
 go_upto_region 1 with fail
 generalize (((w.alloc (.cells #[.int .i64 x.k,.int .i64 x.a,.int .i64 x.b,.int .i64 x.n,.int .i64 x.q,.int .i64 x.p,.int .i64 x.v,.int .i64 x.d,.int .i64 (x.E 0).1,.int .i64 (x.E 0).2,.int .i64 (x.E 1).1,.int .i64 (x.E 1).2,.int .i64 (x.E 2).1,.int .i64 (x.E 2).2,.int .i64 (x.E 3).1,.int .i64 (x.E 3).2,.int .i64 (x.E 4).1,.int .i64 (x.E 4).2,.int .i64 (x.E 5).1,.int .i64 (x.E 5).2,.int .i64 (x.E 6).1,.int .i64 (x.E 6).2] 54)).alloc (.cells #[.slice A0 n0 C0,.slice A1 n1 C1,.int .i64 (S 0).1,.int .i64 (S 0).2,.int .i64 (S 1).1,.int .i64 (S 1).2,.int .i64 (S 2).1,.int .i64 (S 2).2,.int .i64 (S 3).1,.int .i64 (S 3).2,.int .i64 (S 4).1,.int .i64 (S 4).2,.int .i64 (S 5).1,.int .i64 (S 5).2,.int .i64 (S 6).1,.int .i64 (S 6).2] 43)).alloc (.cells #[.int .i64 0,.int .i64 0,.int .i64 0,.int .i64 0,.int .i64 0,.int .i64 0,.int .i64 0,.int .i64 0,.int .i64 0,.int .i64 0,.int .i64 0,.int .i64 0,.int .i64 0,.int .i64 0,.slice none 0 0] 79))=V1 at *
 obtain⟨x0,x1,x2,x3,x4,x5,x6,x7⟩:=XN.nd.cells
 rw [hh.out] at x0
 have ga1:∀j u,(proL (Q ia).1 (.slice Aa (Q ia).2.length ca))[j]?=some u->V1.cell? ⟨b,o+ia*15+j,none⟩=some u:=fun j u hj=>keepsC HB (ga j u hj) la
 have la1:b<V1.heap.size:=Nat.lt_of_lt_of_le la HB.size
 rw [hia.out] at x1
 have gb1:∀j u,(proL (Q ib).1 (.slice Ab (Q ib).2.length cb))[j]?=some u->V1.cell? ⟨b,o+ib*15+j,none⟩=some u:=fun j u hj=>keepsC HB (gb j u hj) la
 rw [hib.out] at x2
 have hna2:(ia:Int)<(np:Int):=by omega
 have hnb2:(ib:Int)<(np:Int):=by omega
 have hia3:(ia:Int)<(nn:Int):=by omega
 have gn1:∀j u,(ndL y)[j]?=some u->V1.cell? ⟨bn,on+ia*22+j,none⟩=some u:=fun j u hj=>keepsC HB (gn j u hj) ln
 cases hf:frB y with
 | true =>
  have eR:R=some (Q ib):=by have q:=hR.out;rw [hf] at q;exact q.symm
  subst eR
  rw [hf] at cf
  clear hf hR
  go_wp2_with (first
   | (refine wpList_loadBig (by rfl) _ 54 (by rfl) Try.underlying54 (ndL y) (by kernel_rfl) (by rfl) (gn1) (nd_val y) ?_)
   | (go_at_call 65;(with_reducible refine (cf _).mono ?_);rintro _ W2 ⟨rfl,hb1⟩;replace HB:=later HB hb1;replace RB:=RB.keeps hb1;replace XN:=XN.keeps hb1;clear hb1 x0 x1 x2 x3 x4 x5 x6 x7;obtain⟨x0,x1,x2,x3,x4,x5,x6,x7⟩:=XN.nd.cells;rw [hia.out] at x1;rw [hib.out] at x2)
   | (refine wpList_loadBig (by rfl) _ 79 (by rfl) Try.underlying79 (proL (Q ib).1 (.slice Ab (Q ib).2.length cb)) (by kernel_rfl) (by rfl) (fun j u hj=>keepsC HB (gb j u hj) la) (pro_val (Q ib).1 (.slice Ab (Q ib).2.length cb)) ?_)
   | (refine wpList_storeBig (by rfl) _ _ 79 (by rfl) (RB) (proL (Q ib).1 (.slice Ab (Q ib).2.length cb)) (by kernel_rfl) (by rfl) (by rfl) (by rfl) (by rfl) ?_;rintro V2 XR hs2 hB2 hk2))
  have fl:=FSl.keep (show FSl w (.slice Ab (Q ib).2.length cb) (Q ib).2 from ⟨Ab,cb,rfl,hcb,fb⟩) HB
  have fl2:=fl.other RB (by decide) hk2
  exact bodyPost_ret (v:=proV (Q ib).1 (.slice Ab (Q ib).2.length cb)) (results_cell_row Try.results38 _ V2 (w.heap.size+1+1) 79 (proL (Q ib).1 (.slice Ab (Q ib).2.length cb)).toArray (0,0) _ (by rfl) XR Try.underlying79 (by rfl) (by kernel_rfl)) rfl ⟨Or.inl ⟨Q ib,_,rfl,rfl,fl2⟩,hB2 _ _ HB (by omega)⟩
 | false =>
  have eR:R=some (Q ia):=by have q:=hR.out;rw [hf] at q;exact q.symm
  subst eR
  rw [hf] at cf
  clear hf hR
  go_wp2_with (first
   | (refine wpList_loadBig (by rfl) _ 54 (by rfl) Try.underlying54 (ndL y) (by kernel_rfl) (by rfl) (gn1) (nd_val y) ?_)
   | (go_at_call 65;(with_reducible refine (cf _).mono ?_);rintro _ W2 ⟨rfl,hb1⟩;replace HB:=later HB hb1;replace RB:=RB.keeps hb1;replace XN:=XN.keeps hb1;clear hb1 x0 x1 x2 x3 x4 x5 x6 x7;obtain⟨x0,x1,x2,x3,x4,x5,x6,x7⟩:=XN.nd.cells;rw [hia.out] at x1;rw [hib.out] at x2)
   | (refine wpList_loadBig (by rfl) _ 79 (by rfl) Try.underlying79 (proL (Q ia).1 (.slice Aa (Q ia).2.length ca)) (by kernel_rfl) (by rfl) (fun j u hj=>keepsC HB (ga j u hj) la) (pro_val (Q ia).1 (.slice Aa (Q ia).2.length ca)) ?_)
   | (refine wpList_storeBig (by rfl) _ _ 79 (by rfl) (RB) (proL (Q ia).1 (.slice Aa (Q ia).2.length ca)) (by kernel_rfl) (by rfl) (by rfl) (by rfl) (by rfl) ?_;rintro V2 XR hs2 hB2 hk2))
  have fl:=FSl.keep (show FSl w (.slice Aa (Q ia).2.length ca) (Q ia).2 from ⟨Aa,ca,rfl,hca,fa⟩) HB
  have fl2:=fl.other RB (by decide) hk2
  exact bodyPost_ret (v:=proV (Q ia).1 (.slice Aa (Q ia).2.length ca)) (results_cell_row Try.results38 _ V2 (w.heap.size+1+1) 79 (proL (Q ia).1 (.slice Aa (Q ia).2.length ca)).toArray (0,0) _ (by rfl) XR Try.underlying79 (by rfl) (by kernel_rfl)) rfl ⟨Or.inl ⟨Q ia,_,rfl,rfl,fl2⟩,hB2 _ _ HB (by omega)⟩
set_option maxRecDepth 4000 in
set_option maxHeartbeats 4000000 in
theorem udim_sub (x:Nd) (AN:Option Addr) (nn CN:Nat) (AP:Option Addr) (np CP:Nat) (K:Nat->Prop) (Q:Nat->Pro) (A0 A1:Option Addr) (n0 C0 n1 C1:Nat) (S:Nat->Int×Int) (hh:Hid (x.k=4)) (X:Nat->Nd) (ia:Nat) (hia:Hid (x.a=(ia:Int))) (hKa:K ia) (hna:ia<np) (ib:Nat) (hib:Hid (x.b=(ib:Int))) (hKb:K ib) (hnb:ib<np) (hia2:ia<nn) (w:World) (VP:PrsAt w AP K Q) (VN:Nds w AN nn X) :
  Calls Try.prog 38 #[x.val,.slice AN nn CN,.slice AP np CP,vrV (.slice A0 n0 C0) (.slice A1 n1 C1) S] w fun r w'=>PrAns r w' (some (if frB (X ia) then Q ib else Q ia))/\Below w.heap.size w w':=by
 obtain⟨bn,on,eN,ln,gn⟩:=VN ia hia2
 subst eN
 obtain⟨y,hy⟩:∃y,y=X ia:=⟨_,rfl⟩
 rw [<-hy] at gn ⊢
 have cf:=fun W=>uisFree_w y W
 obtain⟨R,hR⟩:∃R,Hid (some (if frB y then Q ib else Q ia)=R):=⟨_,rfl⟩
 rw [hR.out]
 clear hy
 obtain⟨b,o,Aa,ca,eA,la,hca,fa,ga⟩:=VP ia hKa
 subst eA
 obtain⟨Ab,cb,lb,hcb,fb,gb⟩:=VP.at hKb
 show Calls Try.prog _ #[.agg #[.int .i64 x.k,.int .i64 x.a,.int .i64 x.b,.int .i64 x.n,.int .i64 x.q,.int .i64 x.p,.int .i64 x.v,.int .i64 x.d,.int .i64 (x.E 0).1,.int .i64 (x.E 0).2,.int .i64 (x.E 1).1,.int .i64 (x.E 1).2,.int .i64 (x.E 2).1,.int .i64 (x.E 2).2,.int .i64 (x.E 3).1,.int .i64 (x.E 3).2,.int .i64 (x.E 4).1,.int .i64 (x.E 4).2,.int .i64 (x.E 5).1,.int .i64 (x.E 5).2,.int .i64 (x.E 6).1,.int .i64 (x.E 6).2],_,_,.agg #[.slice A0 n0 C0,.slice A1 n1 C1,.int .i64 (S 0).1,.int .i64 (S 0).2,.int .i64 (S 1).1,.int .i64 (S 1).2,.int .i64 (S 2).1,.int .i64 (S 2).2,.int .i64 (S 3).1,.int .i64 (S 3).2,.int .i64 (S 4).1,.int .i64 (S 4).2,.int .i64 (S 5).1,.int .i64 (S 5).2,.int .i64 (S 6).1,.int .i64 (S 6).2]] w _
 obtain⟨XN,XV,RB,HB⟩:=blks3 w 54 43 79 [.int .i64 x.k,.int .i64 x.a,.int .i64 x.b,.int .i64 x.n,.int .i64 x.q,.int .i64 x.p,.int .i64 x.v,.int .i64 x.d,.int .i64 (x.E 0).1,.int .i64 (x.E 0).2,.int .i64 (x.E 1).1,.int .i64 (x.E 1).2,.int .i64 (x.E 2).1,.int .i64 (x.E 2).2,.int .i64 (x.E 3).1,.int .i64 (x.E 3).2,.int .i64 (x.E 4).1,.int .i64 (x.E 4).2,.int .i64 (x.E 5).1,.int .i64 (x.E 5).2,.int .i64 (x.E 6).1,.int .i64 (x.E 6).2] [.slice A0 n0 C0,.slice A1 n1 C1,.int .i64 (S 0).1,.int .i64 (S 0).2,.int .i64 (S 1).1,.int .i64 (S 1).2,.int .i64 (S 2).1,.int .i64 (S 2).2,.int .i64 (S 3).1,.int .i64 (S 3).2,.int .i64 (S 4).1,.int .i64 (S 4).2,.int .i64 (S 5).1,.int .i64 (S 5).2,.int .i64 (S 6).1,.int .i64 (S 6).2] [.int .i64 0,.int .i64 0,.int .i64 0,.int .i64 0,.int .i64 0,.int .i64 0,.int .i64 0,.int .i64 0,.int .i64 0,.int .i64 0,.int .i64 0,.int .i64 0,.int .i64 0,.int .i64 0,.slice none 0 0]
 go_enter Try.func38,Try.ntmps38
 go_upto_region 1 with fail
 generalize (((w.alloc (.cells #[.int .i64 x.k,.int .i64 x.a,.int .i64 x.b,.int .i64 x.n,.int .i64 x.q,.int .i64 x.p,.int .i64 x.v,.int .i64 x.d,.int .i64 (x.E 0).1,.int .i64 (x.E 0).2,.int .i64 (x.E 1).1,.int .i64 (x.E 1).2,.int .i64 (x.E 2).1,.int .i64 (x.E 2).2,.int .i64 (x.E 3).1,.int .i64 (x.E 3).2,.int .i64 (x.E 4).1,.int .i64 (x.E 4).2,.int .i64 (x.E 5).1,.int .i64 (x.E 5).2,.int .i64 (x.E 6).1,.int .i64 (x.E 6).2] 54)).alloc (.cells #[.slice A0 n0 C0,.slice A1 n1 C1,.int .i64 (S 0).1,.int .i64 (S 0).2,.int .i64 (S 1).1,.int .i64 (S 1).2,.int .i64 (S 2).1,.int .i64 (S 2).2,.int .i64 (S 3).1,.int .i64 (S 3).2,.int .i64 (S 4).1,.int .i64 (S 4).2,.int .i64 (S 5).1,.int .i64 (S 5).2,.int .i64 (S 6).1,.int .i64 (S 6).2] 43)).alloc (.cells #[.int .i64 0,.int .i64 0,.int .i64 0,.int .i64 0,.int .i64 0,.int .i64 0,.int .i64 0,.int .i64 0,.int .i64 0,.int .i64 0,.int .i64 0,.int .i64 0,.int .i64 0,.int .i64 0,.slice none 0 0] 79))=V1 at *
 obtain⟨x0,x1,x2,x3,x4,x5,x6,x7⟩:=XN.nd.cells
 rw [hh.out] at x0
 have ga1:∀j u,(proL (Q ia).1 (.slice Aa (Q ia).2.length ca))[j]?=some u->V1.cell? ⟨b,o+ia*15+j,none⟩=some u:=fun j u hj=>keepsC HB (ga j u hj) la
 have la1:b<V1.heap.size:=Nat.lt_of_lt_of_le la HB.size
 rw [hia.out] at x1
 have gb1:∀j u,(proL (Q ib).1 (.slice Ab (Q ib).2.length cb))[j]?=some u->V1.cell? ⟨b,o+ib*15+j,none⟩=some u:=fun j u hj=>keepsC HB (gb j u hj) la
 rw [hib.out] at x2
 have hna2:(ia:Int)<(np:Int):=by omega
 have hnb2:(ib:Int)<(np:Int):=by omega
 have hia3:(ia:Int)<(nn:Int):=by omega
 have gn1:∀j u,(ndL y)[j]?=some u->V1.cell? ⟨bn,on+ia*22+j,none⟩=some u:=fun j u hj=>keepsC HB (gn j u hj) ln
 cases hf:frB y with
 | true =>
  have eR:R=some (Q ib):=by have q:=hR.out;rw [hf] at q;exact q.symm
  subst eR
  rw [hf] at cf
  clear hf hR
  go_wp2_with (first
   | (refine wpList_loadBig (by rfl) _ 54 (by rfl) Try.underlying54 (ndL y) (by kernel_rfl) (by rfl) (gn1) (nd_val y) ?_)
   | (go_at_call 65;(with_reducible refine (cf _).mono ?_);rintro _ W2 ⟨rfl,hb1⟩;replace HB:=later HB hb1;replace RB:=RB.keeps hb1;replace XN:=XN.keeps hb1;clear hb1 x0 x1 x2 x3 x4 x5 x6 x7;obtain⟨x0,x1,x2,x3,x4,x5,x6,x7⟩:=XN.nd.cells;rw [hia.out] at x1;rw [hib.out] at x2)
   | (refine wpList_loadBig (by rfl) _ 79 (by rfl) Try.underlying79 (proL (Q ib).1 (.slice Ab (Q ib).2.length cb)) (by kernel_rfl) (by rfl) (fun j u hj=>keepsC HB (gb j u hj) la) (pro_val (Q ib).1 (.slice Ab (Q ib).2.length cb)) ?_)
   | (refine wpList_storeBig (by rfl) _ _ 79 (by rfl) (RB) (proL (Q ib).1 (.slice Ab (Q ib).2.length cb)) (by kernel_rfl) (by rfl) (by rfl) (by rfl) (by rfl) ?_;rintro V2 XR hs2 hB2 hk2))
  have fl:=FSl.keep (show FSl w (.slice Ab (Q ib).2.length cb) (Q ib).2 from ⟨Ab,cb,rfl,hcb,fb⟩) HB
  have fl2:=fl.other RB (by decide) hk2
  exact bodyPost_ret (v:=proV (Q ib).1 (.slice Ab (Q ib).2.length cb)) (results_cell_row Try.results38 _ V2 (w.heap.size+1+1) 79 (proL (Q ib).1 (.slice Ab (Q ib).2.length cb)).toArray (0,0) _ (by rfl) XR Try.underlying79 (by rfl) (by kernel_rfl)) rfl ⟨Or.inl ⟨Q ib,_,rfl,rfl,fl2⟩,hB2 _ _ HB (by omega)⟩
 | false =>
  have eR:R=some (Q ia):=by have q:=hR.out;rw [hf] at q;exact q.symm
  subst eR
  rw [hf] at cf
  clear hf hR
  go_wp2_with (first
   | (refine wpList_loadBig (by rfl) _ 54 (by rfl) Try.underlying54 (ndL y) (by kernel_rfl) (by rfl) (gn1) (nd_val y) ?_)
   | (go_at_call 65;(with_reducible refine (cf _).mono ?_);rintro _ W2 ⟨rfl,hb1⟩;replace HB:=later HB hb1;replace RB:=RB.keeps hb1;replace XN:=XN.keeps hb1;clear hb1 x0 x1 x2 x3 x4 x5 x6 x7;obtain⟨x0,x1,x2,x3,x4,x5,x6,x7⟩:=XN.nd.cells;rw [hia.out] at x1;rw [hib.out] at x2)
   | (refine wpList_loadBig (by rfl) _ 79 (by rfl) Try.underlying79 (proL (Q ia).1 (.slice Aa (Q ia).2.length ca)) (by kernel_rfl) (by rfl) (fun j u hj=>keepsC HB (ga j u hj) la) (pro_val (Q ia).1 (.slice Aa (Q ia).2.length ca)) ?_)
   | (refine wpList_storeBig (by rfl) _ _ 79 (by rfl) (RB) (proL (Q ia).1 (.slice Aa (Q ia).2.length ca)) (by kernel_rfl) (by rfl) (by rfl) (by rfl) (by rfl) ?_;rintro V2 XR hs2 hB2 hk2))
  have fl:=FSl.keep (show FSl w (.slice Aa (Q ia).2.length ca) (Q ia).2 from ⟨Aa,ca,rfl,hca,fa⟩) HB
  have fl2:=fl.other RB (by decide) hk2
  exact bodyPost_ret (v:=proV (Q ia).1 (.slice Aa (Q ia).2.length ca)) (results_cell_row Try.results38 _ V2 (w.heap.size+1+1) 79 (proL (Q ia).1 (.slice Aa (Q ia).2.length ca)).toArray (0,0) _ (by rfl) XR Try.underlying79 (by rfl) (by kernel_rfl)) rfl ⟨Or.inl ⟨Q ia,_,rfl,rfl,fl2⟩,hB2 _ _ HB (by omega)⟩
set_option maxRecDepth 4000 in
set_option maxHeartbeats 4000000 in
theorem udim_mul (x:Nd) (AN:Option Addr) (nn CN:Nat) (AP:Option Addr) (np CP:Nat) (K:Nat->Prop) (Q:Nat->Pro) (A0 A1:Option Addr) (n0 C0 n1 C1:Nat) (S:Nat->Int×Int) (hh:Hid (x.k=5)) (ia:Nat) (hia:Hid (x.a=(ia:Int))) (hKa:K ia) (hna:ia<np) (ib:Nat) (hib:Hid (x.b=(ib:Int))) (hKb:K ib) (hnb:ib<np) (V:Int) (hV:0<=V/\V<=500) (pa:POk V (Q ia)) (pb:POk V (Q ib)) (w:World) (VP:PrsAt w AP K Q) :
  Calls Try.prog 38 #[x.val,.slice AN nn CN,.slice AP np CP,vrV (.slice A0 n0 C0) (.slice A1 n1 C1) S] w fun r w'=>PrAns r w' (timesP (Q ia) (Q ib) (1,1))/\Below w.heap.size w w':=by
 have hl1:=pa.s.length hV.1
 have hl2:=pb.s.length hV.1
 have cw:=fun W=>uwhole_w (1) W
 obtain⟨b,o,Aa,ca,eA,la,hca,fa,ga⟩:=VP ia hKa
 subst eA
 obtain⟨Ab,cb,lb,hcb,fb,gb⟩:=VP.at hKb
 have ct:=fun W f1 f2=>uptimes_w (Q ia).1 (Q ib).1 (Q ia).2 (Q ib).2 (.slice Aa (Q ia).2.length ca) (.slice Ab (Q ib).2.length cb) (1,1) pa.d pb.d pa.r pb.r (rok_one (by constructor <;> decide) (by decide)) pa.f pb.f (by omega) W f1 f2
 obtain⟨R,hR⟩:∃R,Hid (timesP (Q ia) (Q ib) (1,1)=R):=⟨_,rfl⟩
 rw [hR.out] at ⊢
 have hR2:=hR.out
 rw [hR2] at ct
 have f1:=(show FSl w (.slice Aa (Q ia).2.length ca) (Q ia).2 from ⟨Aa,ca,rfl,hca,fa⟩)
 have f2:=(show FSl w (.slice Ab (Q ib).2.length cb) (Q ib).2 from ⟨Ab,cb,rfl,hcb,fb⟩)
 clear pa pb hl1 hl2 hR hR2 hV
 show Calls Try.prog _ #[.agg #[.int .i64 x.k,.int .i64 x.a,.int .i64 x.b,.int .i64 x.n,.int .i64 x.q,.int .i64 x.p,.int .i64 x.v,.int .i64 x.d,.int .i64 (x.E 0).1,.int .i64 (x.E 0).2,.int .i64 (x.E 1).1,.int .i64 (x.E 1).2,.int .i64 (x.E 2).1,.int .i64 (x.E 2).2,.int .i64 (x.E 3).1,.int .i64 (x.E 3).2,.int .i64 (x.E 4).1,.int .i64 (x.E 4).2,.int .i64 (x.E 5).1,.int .i64 (x.E 5).2,.int .i64 (x.E 6).1,.int .i64 (x.E 6).2],_,_,.agg #[.slice A0 n0 C0,.slice A1 n1 C1,.int .i64 (S 0).1,.int .i64 (S 0).2,.int .i64 (S 1).1,.int .i64 (S 1).2,.int .i64 (S 2).1,.int .i64 (S 2).2,.int .i64 (S 3).1,.int .i64 (S 3).2,.int .i64 (S 4).1,.int .i64 (S 4).2,.int .i64 (S 5).1,.int .i64 (S 5).2,.int .i64 (S 6).1,.int .i64 (S 6).2]] w _
 obtain⟨XN,XV,RB,HB⟩:=blks3 w 54 43 79 [.int .i64 x.k,.int .i64 x.a,.int .i64 x.b,.int .i64 x.n,.int .i64 x.q,.int .i64 x.p,.int .i64 x.v,.int .i64 x.d,.int .i64 (x.E 0).1,.int .i64 (x.E 0).2,.int .i64 (x.E 1).1,.int .i64 (x.E 1).2,.int .i64 (x.E 2).1,.int .i64 (x.E 2).2,.int .i64 (x.E 3).1,.int .i64 (x.E 3).2,.int .i64 (x.E 4).1,.int .i64 (x.E 4).2,.int .i64 (x.E 5).1,.int .i64 (x.E 5).2,.int .i64 (x.E 6).1,.int .i64 (x.E 6).2] [.slice A0 n0 C0,.slice A1 n1 C1,.int .i64 (S 0).1,.int .i64 (S 0).2,.int .i64 (S 1).1,.int .i64 (S 1).2,.int .i64 (S 2).1,.int .i64 (S 2).2,.int .i64 (S 3).1,.int .i64 (S 3).2,.int .i64 (S 4).1,.int .i64 (S 4).2,.int .i64 (S 5).1,.int .i64 (S 5).2,.int .i64 (S 6).1,.int .i64 (S 6).2] [.int .i64 0,.int .i64 0,.int .i64 0,.int .i64 0,.int .i64 0,.int .i64 0,.int .i64 0,.int .i64 0,.int .i64 0,.int .i64 0,.int .i64 0,.int .i64 0,.int .i64 0,.int .i64 0,.slice none 0 0]
 go_enter Try.func38,Try.ntmps38
 go_upto_region 1 with fail
 generalize (((w.alloc (.cells #[.int .i64 x.k,.int .i64 x.a,.int .i64 x.b,.int .i64 x.n,.int .i64 x.q,.int .i64 x.p,.int .i64 x.v,.int .i64 x.d,.int .i64 (x.E 0).1,.int .i64 (x.E 0).2,.int .i64 (x.E 1).1,.int .i64 (x.E 1).2,.int .i64 (x.E 2).1,.int .i64 (x.E 2).2,.int .i64 (x.E 3).1,.int .i64 (x.E 3).2,.int .i64 (x.E 4).1,.int .i64 (x.E 4).2,.int .i64 (x.E 5).1,.int .i64 (x.E 5).2,.int .i64 (x.E 6).1,.int .i64 (x.E 6).2] 54)).alloc (.cells #[.slice A0 n0 C0,.slice A1 n1 C1,.int .i64 (S 0).1,.int .i64 (S 0).2,.int .i64 (S 1).1,.int .i64 (S 1).2,.int .i64 (S 2).1,.int .i64 (S 2).2,.int .i64 (S 3).1,.int .i64 (S 3).2,.int .i64 (S 4).1,.int .i64 (S 4).2,.int .i64 (S 5).1,.int .i64 (S 5).2,.int .i64 (S 6).1,.int .i64 (S 6).2] 43)).alloc (.cells #[.int .i64 0,.int .i64 0,.int .i64 0,.int .i64 0,.int .i64 0,.int .i64 0,.int .i64 0,.int .i64 0,.int .i64 0,.int .i64 0,.int .i64 0,.int .i64 0,.int .i64 0,.int .i64 0,.slice none 0 0] 79))=V1 at *
 obtain⟨x0,x1,x2,x3,x4,x5,x6,x7⟩:=XN.nd.cells
 rw [hh.out] at x0
 have ga1:∀j u,(proL (Q ia).1 (.slice Aa (Q ia).2.length ca))[j]?=some u->V1.cell? ⟨b,o+ia*15+j,none⟩=some u:=fun j u hj=>keepsC HB (ga j u hj) la
 have la1:b<V1.heap.size:=Nat.lt_of_lt_of_le la HB.size
 rw [hia.out] at x1
 have gb1:∀j u,(proL (Q ib).1 (.slice Ab (Q ib).2.length cb))[j]?=some u->V1.cell? ⟨b,o+ib*15+j,none⟩=some u:=fun j u hj=>keepsC HB (gb j u hj) la
 rw [hib.out] at x2
 have hna2:(ia:Int)<(np:Int):=by omega
 have hnb2:(ib:Int)<(np:Int):=by omega
 go_upto_region 14 with fail
 have k1:=fun n:Behind V1=>n.cell x1 XN.lt
 have k2:=fun n:Behind V1=>n.cell x2 XN.lt
 refine tail_behind 11 (by kernel_rfl) (by kernel_rfl) ?_
 simp only [List.take_succ_cons,List.take_zero,List.drop_succ_cons,List.drop_zero]
 repeat (first
  | (go_big_quiet_want;refine quiet_loadBig _ 79 (by rfl) Try.underlying79 (proL (Q ia).1 (.slice Aa (Q ia).2.length ca)) (by kernel_rfl) (by rfl) (fun W hW j u hj=>by obtain⟨n,rfl⟩:=hW;exact keepsC n.bel (ga1 j u hj) la1) (pro_val (Q ia).1 (.slice Aa (Q ia).2.length ca)) ?_;simp only [Act.put,List.setIfInBounds_toArray,List.set_cons_zero,List.set_cons_succ];go_big_quiet_on)
  | (go_big_quiet_want;refine quiet_loadBig _ 79 (by rfl) Try.underlying79 (proL (Q ib).1 (.slice Ab (Q ib).2.length cb)) (by kernel_rfl) (by rfl) (fun W hW j u hj=>by obtain⟨n,rfl⟩:=hW;exact keepsC n.bel (gb1 j u hj) la1) (pro_val (Q ib).1 (.slice Ab (Q ib).2.length cb)) ?_;simp only [Act.put,List.setIfInBounds_toArray,List.set_cons_zero,List.set_cons_succ];go_big_quiet_on)
  | (go_big_quiet_step (first | (go_at_call 56;with_reducible refine Behind.call (cw _)))))
 refine wpQuiet_nil ?_
 rintro _ ⟨q,rfl⟩
 obtain⟨W,hb1⟩:=q
 dsimp only
 clear k1 k2 x0 x1 x2 x3 x4 x5 x6 x7
 replace HB:=later HB hb1
 replace RB:=RB.keeps hb1
 clear hb1
 cases R with
 | none =>
  have eR:Hid ((none:Option Pro)=none):=rfl
  go_wp2_with (first
   | (go_at_call 57;(with_reducible refine (ct _ (f1.keep HB) (f2.keep HB)).mono ?_);rintro r W2 ⟨hM,hb2⟩;have hr:=hM.no;subst hr;exact⟨rfl,Or.inr ⟨eR.out,rfl⟩,later HB hb2⟩))
 | some Y =>
  go_wp2_with (first
   | (go_at_call 57;(with_reducible refine (ct _ (f1.keep HB) (f2.keep HB)).mono ?_);rintro r W2 ⟨hM,hb2⟩;obtain⟨s,hr,A9,c9,rfl,hc9,fa9⟩:=hM.yes;subst hr;have fl:FSl W2 (.slice A9 Y.2.length c9) Y.2:=⟨A9,c9,rfl,hc9,fa9⟩;replace HB:=later HB hb2;replace RB:=RB.keeps hb2;clear hb2 hM)
   | (refine wpList_storeBig (by rfl) _ _ 79 (by rfl) (RB) (proL Y.1 (.slice A9 Y.2.length c9)) (by kernel_rfl) (by rfl) (by rfl) (by rfl) (by rfl) ?_;rintro V2 XR hs2 hB2 hk2))
  have fl2:=fl.other RB (by decide) hk2
  exact bodyPost_ret (v:=proV Y.1 (.slice A9 Y.2.length c9)) (results_cell_row Try.results38 _ V2 (w.heap.size+1+1) 79 (proL Y.1 (.slice A9 Y.2.length c9)).toArray (0,0) _ (by rfl) XR Try.underlying79 (by rfl) (by kernel_rfl)) rfl ⟨Or.inl ⟨Y,_,rfl,rfl,fl2⟩,hB2 _ _ HB (by omega)⟩
set_option maxRecDepth 4000 in
set_option maxHeartbeats 4000000 in
theorem udim_div (x:Nd) (AN:Option Addr) (nn CN:Nat) (AP:Option Addr) (np CP:Nat) (K:Nat->Prop) (Q:Nat->Pro) (A0 A1:Option Addr) (n0 C0 n1 C1:Nat) (S:Nat->Int×Int) (hh:Hid (x.k=6)) (ia:Nat) (hia:Hid (x.a=(ia:Int))) (hKa:K ia) (hna:ia<np) (ib:Nat) (hib:Hid (x.b=(ib:Int))) (hKb:K ib) (hnb:ib<np) (V:Int) (hV:0<=V/\V<=500) (pa:POk V (Q ia)) (pb:POk V (Q ib)) (w:World) (VP:PrsAt w AP K Q) :
  Calls Try.prog 38 #[x.val,.slice AN nn CN,.slice AP np CP,vrV (.slice A0 n0 C0) (.slice A1 n1 C1) S] w fun r w'=>PrAns r w' (timesP (Q ia) (Q ib) (-1,1))/\Below w.heap.size w w':=by
 have hl1:=pa.s.length hV.1
 have hl2:=pb.s.length hV.1
 have cw:=fun W=>uwhole_w (-1) W
 obtain⟨b,o,Aa,ca,eA,la,hca,fa,ga⟩:=VP ia hKa
 subst eA
 obtain⟨Ab,cb,lb,hcb,fb,gb⟩:=VP.at hKb
 have ct:=fun W f1 f2=>uptimes_w (Q ia).1 (Q ib).1 (Q ia).2 (Q ib).2 (.slice Aa (Q ia).2.length ca) (.slice Ab (Q ib).2.length cb) (-1,1) pa.d pb.d pa.r pb.r (rok_one (by constructor <;> decide) (by decide)) pa.f pb.f (by omega) W f1 f2
 obtain⟨R,hR⟩:∃R,Hid (timesP (Q ia) (Q ib) (-1,1)=R):=⟨_,rfl⟩
 rw [hR.out] at ⊢
 have hR2:=hR.out
 rw [hR2] at ct
 have f1:=(show FSl w (.slice Aa (Q ia).2.length ca) (Q ia).2 from ⟨Aa,ca,rfl,hca,fa⟩)
 have f2:=(show FSl w (.slice Ab (Q ib).2.length cb) (Q ib).2 from ⟨Ab,cb,rfl,hcb,fb⟩)
 clear pa pb hl1 hl2 hR hR2 hV
 show Calls Try.prog _ #[.agg #[.int .i64 x.k,.int .i64 x.a,.int .i64 x.b,.int .i64 x.n,.int .i64 x.q,.int .i64 x.p,.int .i64 x.v,.int .i64 x.d,.int .i64 (x.E 0).1,.int .i64 (x.E 0).2,.int .i64 (x.E 1).1,.int .i64 (x.E 1).2,.int .i64 (x.E 2).1,.int .i64 (x.E 2).2,.int .i64 (x.E 3).1,.int .i64 (x.E 3).2,.int .i64 (x.E 4).1,.int .i64 (x.E 4).2,.int .i64 (x.E 5).1,.int .i64 (x.E 5).2,.int .i64 (x.E 6).1,.int .i64 (x.E 6).2],_,_,.agg #[.slice A0 n0 C0,.slice A1 n1 C1,.int .i64 (S 0).1,.int .i64 (S 0).2,.int .i64 (S 1).1,.int .i64 (S 1).2,.int .i64 (S 2).1,.int .i64 (S 2).2,.int .i64 (S 3).1,.int .i64 (S 3).2,.int .i64 (S 4).1,.int .i64 (S 4).2,.int .i64 (S 5).1,.int .i64 (S 5).2,.int .i64 (S 6).1,.int .i64 (S 6).2]] w _
 obtain⟨XN,XV,RB,HB⟩:=blks3 w 54 43 79 [.int .i64 x.k,.int .i64 x.a,.int .i64 x.b,.int .i64 x.n,.int .i64 x.q,.int .i64 x.p,.int .i64 x.v,.int .i64 x.d,.int .i64 (x.E 0).1,.int .i64 (x.E 0).2,.int .i64 (x.E 1).1,.int .i64 (x.E 1).2,.int .i64 (x.E 2).1,.int .i64 (x.E 2).2,.int .i64 (x.E 3).1,.int .i64 (x.E 3).2,.int .i64 (x.E 4).1,.int .i64 (x.E 4).2,.int .i64 (x.E 5).1,.int .i64 (x.E 5).2,.int .i64 (x.E 6).1,.int .i64 (x.E 6).2] [.slice A0 n0 C0,.slice A1 n1 C1,.int .i64 (S 0).1,.int .i64 (S 0).2,.int .i64 (S 1).1,.int .i64 (S 1).2,.int .i64 (S 2).1,.int .i64 (S 2).2,.int .i64 (S 3).1,.int .i64 (S 3).2,.int .i64 (S 4).1,.int .i64 (S 4).2,.int .i64 (S 5).1,.int .i64 (S 5).2,.int .i64 (S 6).1,.int .i64 (S 6).2] [.int .i64 0,.int .i64 0,.int .i64 0,.int .i64 0,.int .i64 0,.int .i64 0,.int .i64 0,.int .i64 0,.int .i64 0,.int .i64 0,.int .i64 0,.int .i64 0,.int .i64 0,.int .i64 0,.slice none 0 0]
 go_enter Try.func38,Try.ntmps38
 go_upto_region 1 with fail
 generalize (((w.alloc (.cells #[.int .i64 x.k,.int .i64 x.a,.int .i64 x.b,.int .i64 x.n,.int .i64 x.q,.int .i64 x.p,.int .i64 x.v,.int .i64 x.d,.int .i64 (x.E 0).1,.int .i64 (x.E 0).2,.int .i64 (x.E 1).1,.int .i64 (x.E 1).2,.int .i64 (x.E 2).1,.int .i64 (x.E 2).2,.int .i64 (x.E 3).1,.int .i64 (x.E 3).2,.int .i64 (x.E 4).1,.int .i64 (x.E 4).2,.int .i64 (x.E 5).1,.int .i64 (x.E 5).2,.int .i64 (x.E 6).1,.int .i64 (x.E 6).2] 54)).alloc (.cells #[.slice A0 n0 C0,.slice A1 n1 C1,.int .i64 (S 0).1,.int .i64 (S 0).2,.int .i64 (S 1).1,.int .i64 (S 1).2,.int .i64 (S 2).1,.int .i64 (S 2).2,.int .i64 (S 3).1,.int .i64 (S 3).2,.int .i64 (S 4).1,.int .i64 (S 4).2,.int .i64 (S 5).1,.int .i64 (S 5).2,.int .i64 (S 6).1,.int .i64 (S 6).2] 43)).alloc (.cells #[.int .i64 0,.int .i64 0,.int .i64 0,.int .i64 0,.int .i64 0,.int .i64 0,.int .i64 0,.int .i64 0,.int .i64 0,.int .i64 0,.int .i64 0,.int .i64 0,.int .i64 0,.int .i64 0,.slice none 0 0] 79))=V1 at *
 obtain⟨x0,x1,x2,x3,x4,x5,x6,x7⟩:=XN.nd.cells
 rw [hh.out] at x0
 have ga1:∀j u,(proL (Q ia).1 (.slice Aa (Q ia).2.length ca))[j]?=some u->V1.cell? ⟨b,o+ia*15+j,none⟩=some u:=fun j u hj=>keepsC HB (ga j u hj) la
 have la1:b<V1.heap.size:=Nat.lt_of_lt_of_le la HB.size
 rw [hia.out] at x1
 have gb1:∀j u,(proL (Q ib).1 (.slice Ab (Q ib).2.length cb))[j]?=some u->V1.cell? ⟨b,o+ib*15+j,none⟩=some u:=fun j u hj=>keepsC HB (gb j u hj) la
 rw [hib.out] at x2
 have hna2:(ia:Int)<(np:Int):=by omega
 have hnb2:(ib:Int)<(np:Int):=by omega
 go_upto_region 16 with fail
 have k1:=fun n:Behind V1=>n.cell x1 XN.lt
 have k2:=fun n:Behind V1=>n.cell x2 XN.lt
 refine tail_behind 11 (by kernel_rfl) (by kernel_rfl) ?_
 simp only [List.take_succ_cons,List.take_zero,List.drop_succ_cons,List.drop_zero]
 repeat (first
  | (go_big_quiet_want;refine quiet_loadBig _ 79 (by rfl) Try.underlying79 (proL (Q ia).1 (.slice Aa (Q ia).2.length ca)) (by kernel_rfl) (by rfl) (fun W hW j u hj=>by obtain⟨n,rfl⟩:=hW;exact keepsC n.bel (ga1 j u hj) la1) (pro_val (Q ia).1 (.slice Aa (Q ia).2.length ca)) ?_;simp only [Act.put,List.setIfInBounds_toArray,List.set_cons_zero,List.set_cons_succ];go_big_quiet_on)
  | (go_big_quiet_want;refine quiet_loadBig _ 79 (by rfl) Try.underlying79 (proL (Q ib).1 (.slice Ab (Q ib).2.length cb)) (by kernel_rfl) (by rfl) (fun W hW j u hj=>by obtain⟨n,rfl⟩:=hW;exact keepsC n.bel (gb1 j u hj) la1) (pro_val (Q ib).1 (.slice Ab (Q ib).2.length cb)) ?_;simp only [Act.put,List.setIfInBounds_toArray,List.set_cons_zero,List.set_cons_succ];go_big_quiet_on)
  | (go_big_quiet_step (first | (go_at_call 56;with_reducible refine Behind.call (cw _)))))
 refine wpQuiet_nil ?_
 rintro _ ⟨q,rfl⟩
 obtain⟨W,hb1⟩:=q
 dsimp only
 clear k1 k2 x0 x1 x2 x3 x4 x5 x6 x7
 replace HB:=later HB hb1
 replace RB:=RB.keeps hb1
 clear hb1
 cases R with
 | none =>
  have eR:Hid ((none:Option Pro)=none):=rfl
  go_wp2_with (first
   | (go_at_call 57;(with_reducible refine (ct _ (f1.keep HB) (f2.keep HB)).mono ?_);rintro r W2 ⟨hM,hb2⟩;have hr:=hM.no;subst hr;exact⟨rfl,Or.inr ⟨eR.out,rfl⟩,later HB hb2⟩))
 | some Y =>
  go_wp2_with (first
   | (go_at_call 57;(with_reducible refine (ct _ (f1.keep HB) (f2.keep HB)).mono ?_);rintro r W2 ⟨hM,hb2⟩;obtain⟨s,hr,A9,c9,rfl,hc9,fa9⟩:=hM.yes;subst hr;have fl:FSl W2 (.slice A9 Y.2.length c9) Y.2:=⟨A9,c9,rfl,hc9,fa9⟩;replace HB:=later HB hb2;replace RB:=RB.keeps hb2;clear hb2 hM)
   | (refine wpList_storeBig (by rfl) _ _ 79 (by rfl) (RB) (proL Y.1 (.slice A9 Y.2.length c9)) (by kernel_rfl) (by rfl) (by rfl) (by rfl) (by rfl) ?_;rintro V2 XR hs2 hB2 hk2))
  have fl2:=fl.other RB (by decide) hk2
  exact bodyPost_ret (v:=proV Y.1 (.slice A9 Y.2.length c9)) (results_cell_row Try.results38 _ V2 (w.heap.size+1+1) 79 (proL Y.1 (.slice A9 Y.2.length c9)).toArray (0,0) _ (by rfl) XR Try.underlying79 (by rfl) (by kernel_rfl)) rfl ⟨Or.inl ⟨Y,_,rfl,rfl,fl2⟩,hB2 _ _ HB (by omega)⟩
set_option maxRecDepth 4000 in
set_option maxHeartbeats 4000000 in
theorem udim_pow (x:Nd) (AN:Option Addr) (nn CN:Nat) (AP:Option Addr) (np CP:Nat) (K:Nat->Prop) (Q:Nat->Pro) (A0 A1:Option Addr) (n0 C0 n1 C1:Nat) (S:Nat->Int×Int) (hh:Hid (x.k=8)) (ia:Nat) (hia:Hid (x.a=(ia:Int))) (hKa:K ia) (hna:ia<np) (V:Int) (hV:0<=V/\V<=500) (pa:POk V (Q ia)) (hN:-64<=x.n/\x.n<=64) (w:World) (VP:PrsAt w AP K Q) :
  Calls Try.prog 38 #[x.val,.slice AN nn CN,.slice AP np CP,vrV (.slice A0 n0 C0) (.slice A1 n1 C1) S] w fun r w'=>PrAns r w' (powerP (Q ia) (x.n,1))/\Below w.heap.size w w':=by
 have hl1:=pa.s.length hV.1
 have cw:=fun W=>uwhole_w x.n W
 obtain⟨b,o,Aa,ca,eA,la,hca,fa,ga⟩:=VP ia hKa
 subst eA
 have ct:=fun W f1=>upower_w (Q ia).1 (Q ia).2 (.slice Aa (Q ia).2.length ca) (x.n,1) pa.d pa.r (rok_one (by constructor <;> omega) (by omega)) pa.f (by omega) W f1
 obtain⟨R,hR⟩:∃R,Hid (powerP (Q ia) (x.n,1)=R):=⟨_,rfl⟩
 rw [hR.out]
 have hR2:=hR.out
 rw [hR2] at ct
 have f1:=(show FSl w (.slice Aa (Q ia).2.length ca) (Q ia).2 from ⟨Aa,ca,rfl,hca,fa⟩)
 clear pa hl1 hR hR2 hV hN
 show Calls Try.prog _ #[.agg #[.int .i64 x.k,.int .i64 x.a,.int .i64 x.b,.int .i64 x.n,.int .i64 x.q,.int .i64 x.p,.int .i64 x.v,.int .i64 x.d,.int .i64 (x.E 0).1,.int .i64 (x.E 0).2,.int .i64 (x.E 1).1,.int .i64 (x.E 1).2,.int .i64 (x.E 2).1,.int .i64 (x.E 2).2,.int .i64 (x.E 3).1,.int .i64 (x.E 3).2,.int .i64 (x.E 4).1,.int .i64 (x.E 4).2,.int .i64 (x.E 5).1,.int .i64 (x.E 5).2,.int .i64 (x.E 6).1,.int .i64 (x.E 6).2],_,_,.agg #[.slice A0 n0 C0,.slice A1 n1 C1,.int .i64 (S 0).1,.int .i64 (S 0).2,.int .i64 (S 1).1,.int .i64 (S 1).2,.int .i64 (S 2).1,.int .i64 (S 2).2,.int .i64 (S 3).1,.int .i64 (S 3).2,.int .i64 (S 4).1,.int .i64 (S 4).2,.int .i64 (S 5).1,.int .i64 (S 5).2,.int .i64 (S 6).1,.int .i64 (S 6).2]] w _
 obtain⟨XN,XV,RB,HB⟩:=blks3 w 54 43 79 [.int .i64 x.k,.int .i64 x.a,.int .i64 x.b,.int .i64 x.n,.int .i64 x.q,.int .i64 x.p,.int .i64 x.v,.int .i64 x.d,.int .i64 (x.E 0).1,.int .i64 (x.E 0).2,.int .i64 (x.E 1).1,.int .i64 (x.E 1).2,.int .i64 (x.E 2).1,.int .i64 (x.E 2).2,.int .i64 (x.E 3).1,.int .i64 (x.E 3).2,.int .i64 (x.E 4).1,.int .i64 (x.E 4).2,.int .i64 (x.E 5).1,.int .i64 (x.E 5).2,.int .i64 (x.E 6).1,.int .i64 (x.E 6).2] [.slice A0 n0 C0,.slice A1 n1 C1,.int .i64 (S 0).1,.int .i64 (S 0).2,.int .i64 (S 1).1,.int .i64 (S 1).2,.int .i64 (S 2).1,.int .i64 (S 2).2,.int .i64 (S 3).1,.int .i64 (S 3).2,.int .i64 (S 4).1,.int .i64 (S 4).2,.int .i64 (S 5).1,.int .i64 (S 5).2,.int .i64 (S 6).1,.int .i64 (S 6).2] [.int .i64 0,.int .i64 0,.int .i64 0,.int .i64 0,.int .i64 0,.int .i64 0,.int .i64 0,.int .i64 0,.int .i64 0,.int .i64 0,.int .i64 0,.int .i64 0,.int .i64 0,.int .i64 0,.slice none 0 0]
 go_enter Try.func38,Try.ntmps38
 go_upto_region 1 with fail
 generalize (((w.alloc (.cells #[.int .i64 x.k,.int .i64 x.a,.int .i64 x.b,.int .i64 x.n,.int .i64 x.q,.int .i64 x.p,.int .i64 x.v,.int .i64 x.d,.int .i64 (x.E 0).1,.int .i64 (x.E 0).2,.int .i64 (x.E 1).1,.int .i64 (x.E 1).2,.int .i64 (x.E 2).1,.int .i64 (x.E 2).2,.int .i64 (x.E 3).1,.int .i64 (x.E 3).2,.int .i64 (x.E 4).1,.int .i64 (x.E 4).2,.int .i64 (x.E 5).1,.int .i64 (x.E 5).2,.int .i64 (x.E 6).1,.int .i64 (x.E 6).2] 54)).alloc (.cells #[.slice A0 n0 C0,.slice A1 n1 C1,.int .i64 (S 0).1,.int .i64 (S 0).2,.int .i64 (S 1).1,.int .i64 (S 1).2,.int .i64 (S 2).1,.int .i64 (S 2).2,.int .i64 (S 3).1,.int .i64 (S 3).2,.int .i64 (S 4).1,.int .i64 (S 4).2,.int .i64 (S 5).1,.int .i64 (S 5).2,.int .i64 (S 6).1,.int .i64 (S 6).2] 43)).alloc (.cells #[.int .i64 0,.int .i64 0,.int .i64 0,.int .i64 0,.int .i64 0,.int .i64 0,.int .i64 0,.int .i64 0,.int .i64 0,.int .i64 0,.int .i64 0,.int .i64 0,.int .i64 0,.int .i64 0,.slice none 0 0] 79))=V1 at *
 obtain⟨x0,x1,x2,x3,x4,x5,x6,x7⟩:=XN.nd.cells
 rw [hh.out] at x0
 have ga1:∀j u,(proL (Q ia).1 (.slice Aa (Q ia).2.length ca))[j]?=some u->V1.cell? ⟨b,o+ia*15+j,none⟩=some u:=fun j u hj=>keepsC HB (ga j u hj) la
 have la1:b<V1.heap.size:=Nat.lt_of_lt_of_le la HB.size
 rw [hia.out] at x1
 have hna2:(ia:Int)<(np:Int):=by omega
 go_upto_region 20 with fail
 have k1:=fun n:Behind V1=>n.cell x1 XN.lt
 have k2:=fun n:Behind V1=>n.cell x3 XN.lt
 refine tail_behind 8 (by kernel_rfl) (by kernel_rfl) ?_
 simp only [List.take_succ_cons,List.take_zero,List.drop_succ_cons,List.drop_zero]
 repeat (first
  | (go_big_quiet_want;refine quiet_loadBig _ 79 (by rfl) Try.underlying79 (proL (Q ia).1 (.slice Aa (Q ia).2.length ca)) (by kernel_rfl) (by rfl) (fun W hW j u hj=>by obtain⟨n,rfl⟩:=hW;exact keepsC n.bel (ga1 j u hj) la1) (pro_val (Q ia).1 (.slice Aa (Q ia).2.length ca)) ?_;simp only [Act.put,List.setIfInBounds_toArray,List.set_cons_zero,List.set_cons_succ];go_big_quiet_on)
  | (go_big_quiet_step (first | (go_at_call 56;with_reducible refine Behind.call (cw _)))))
 refine wpQuiet_nil ?_
 rintro _ ⟨q,rfl⟩
 obtain⟨W,hb1⟩:=q
 dsimp only
 clear k1 k2 x0 x1 x2 x3 x4 x5 x6 x7
 replace HB:=later HB hb1
 replace RB:=RB.keeps hb1
 clear hb1
 cases R with
 | none =>
  have eR:Hid ((none:Option Pro)=none):=rfl
  go_wp2_with (first
   | (go_at_call 60;(with_reducible refine (ct _ (f1.keep HB)).mono ?_);rintro r W2 ⟨hM,hb2⟩;have hr:=hM.no;subst hr;exact⟨rfl,Or.inr ⟨eR.out,rfl⟩,later HB hb2⟩))
 | some Y =>
  go_wp2_with (first
   | (go_at_call 60;(with_reducible refine (ct _ (f1.keep HB)).mono ?_);rintro r W2 ⟨hM,hb2⟩;obtain⟨s,hr,A9,c9,rfl,hc9,fa9⟩:=hM.yes;subst hr;have fl:FSl W2 (.slice A9 Y.2.length c9) Y.2:=⟨A9,c9,rfl,hc9,fa9⟩;replace HB:=later HB hb2;replace RB:=RB.keeps hb2;clear hb2 hM)
   | (refine wpList_storeBig (by rfl) _ _ 79 (by rfl) (RB) (proL Y.1 (.slice A9 Y.2.length c9)) (by kernel_rfl) (by rfl) (by rfl) (by rfl) (by rfl) ?_;rintro V2 XR hs2 hB2 hk2))
  have fl2:=fl.other RB (by decide) hk2
  exact bodyPost_ret (v:=proV Y.1 (.slice A9 Y.2.length c9)) (results_cell_row Try.results38 _ V2 (w.heap.size+1+1) 79 (proL Y.1 (.slice A9 Y.2.length c9)).toArray (0,0) _ (by rfl) XR Try.underlying79 (by rfl) (by kernel_rfl)) rfl ⟨Or.inl ⟨Y,_,rfl,rfl,fl2⟩,hB2 _ _ HB (by omega)⟩
set_option maxRecDepth 4000 in
set_option maxHeartbeats 4000000 in
theorem udim_sqrt (x:Nd) (AN:Option Addr) (nn CN:Nat) (AP:Option Addr) (np CP:Nat) (K:Nat->Prop) (Q:Nat->Pro) (A0 A1:Option Addr) (n0 C0 n1 C1:Nat) (S:Nat->Int×Int) (hh:Hid (x.k=9)) (ia:Nat) (hia:Hid (x.a=(ia:Int))) (hKa:K ia) (hna:ia<np) (V:Int) (hV:0<=V/\V<=500) (pa:POk V (Q ia)) (w:World) (VP:PrsAt w AP K Q) :
  Calls Try.prog 38 #[x.val,.slice AN nn CN,.slice AP np CP,vrV (.slice A0 n0 C0) (.slice A1 n1 C1) S] w fun r w'=>PrAns r w' (powerP (Q ia) (1,2))/\Below w.heap.size w w':=by
 have hl1:=pa.s.length hV.1
 obtain⟨b,o,Aa,ca,eA,la,hca,fa,ga⟩:=VP ia hKa
 subst eA
 have ct:=fun W f1=>upower_w (Q ia).1 (Q ia).2 (.slice Aa (Q ia).2.length ca) (1,2) pa.d pa.r ⟨by decide,⟨by decide,by decide⟩,⟨by decide,by decide⟩⟩ pa.f (by omega) W f1
 obtain⟨R,hR⟩:∃R,Hid (powerP (Q ia) (1,2)=R):=⟨_,rfl⟩
 rw [hR.out]
 have hR2:=hR.out
 rw [hR2] at ct
 have f1:=(show FSl w (.slice Aa (Q ia).2.length ca) (Q ia).2 from ⟨Aa,ca,rfl,hca,fa⟩)
 clear pa hl1 hR hR2 hV
 show Calls Try.prog _ #[.agg #[.int .i64 x.k,.int .i64 x.a,.int .i64 x.b,.int .i64 x.n,.int .i64 x.q,.int .i64 x.p,.int .i64 x.v,.int .i64 x.d,.int .i64 (x.E 0).1,.int .i64 (x.E 0).2,.int .i64 (x.E 1).1,.int .i64 (x.E 1).2,.int .i64 (x.E 2).1,.int .i64 (x.E 2).2,.int .i64 (x.E 3).1,.int .i64 (x.E 3).2,.int .i64 (x.E 4).1,.int .i64 (x.E 4).2,.int .i64 (x.E 5).1,.int .i64 (x.E 5).2,.int .i64 (x.E 6).1,.int .i64 (x.E 6).2],_,_,.agg #[.slice A0 n0 C0,.slice A1 n1 C1,.int .i64 (S 0).1,.int .i64 (S 0).2,.int .i64 (S 1).1,.int .i64 (S 1).2,.int .i64 (S 2).1,.int .i64 (S 2).2,.int .i64 (S 3).1,.int .i64 (S 3).2,.int .i64 (S 4).1,.int .i64 (S 4).2,.int .i64 (S 5).1,.int .i64 (S 5).2,.int .i64 (S 6).1,.int .i64 (S 6).2]] w _
 obtain⟨XN,XV,RB,HB⟩:=blks3 w 54 43 79 [.int .i64 x.k,.int .i64 x.a,.int .i64 x.b,.int .i64 x.n,.int .i64 x.q,.int .i64 x.p,.int .i64 x.v,.int .i64 x.d,.int .i64 (x.E 0).1,.int .i64 (x.E 0).2,.int .i64 (x.E 1).1,.int .i64 (x.E 1).2,.int .i64 (x.E 2).1,.int .i64 (x.E 2).2,.int .i64 (x.E 3).1,.int .i64 (x.E 3).2,.int .i64 (x.E 4).1,.int .i64 (x.E 4).2,.int .i64 (x.E 5).1,.int .i64 (x.E 5).2,.int .i64 (x.E 6).1,.int .i64 (x.E 6).2] [.slice A0 n0 C0,.slice A1 n1 C1,.int .i64 (S 0).1,.int .i64 (S 0).2,.int .i64 (S 1).1,.int .i64 (S 1).2,.int .i64 (S 2).1,.int .i64 (S 2).2,.int .i64 (S 3).1,.int .i64 (S 3).2,.int .i64 (S 4).1,.int .i64 (S 4).2,.int .i64 (S 5).1,.int .i64 (S 5).2,.int .i64 (S 6).1,.int .i64 (S 6).2] [.int .i64 0,.int .i64 0,.int .i64 0,.int .i64 0,.int .i64 0,.int .i64 0,.int .i64 0,.int .i64 0,.int .i64 0,.int .i64 0,.int .i64 0,.int .i64 0,.int .i64 0,.int .i64 0,.slice none 0 0]
 go_enter Try.func38,Try.ntmps38
 go_upto_region 1 with fail
 generalize (((w.alloc (.cells #[.int .i64 x.k,.int .i64 x.a,.int .i64 x.b,.int .i64 x.n,.int .i64 x.q,.int .i64 x.p,.int .i64 x.v,.int .i64 x.d,.int .i64 (x.E 0).1,.int .i64 (x.E 0).2,.int .i64 (x.E 1).1,.int .i64 (x.E 1).2,.int .i64 (x.E 2).1,.int .i64 (x.E 2).2,.int .i64 (x.E 3).1,.int .i64 (x.E 3).2,.int .i64 (x.E 4).1,.int .i64 (x.E 4).2,.int .i64 (x.E 5).1,.int .i64 (x.E 5).2,.int .i64 (x.E 6).1,.int .i64 (x.E 6).2] 54)).alloc (.cells #[.slice A0 n0 C0,.slice A1 n1 C1,.int .i64 (S 0).1,.int .i64 (S 0).2,.int .i64 (S 1).1,.int .i64 (S 1).2,.int .i64 (S 2).1,.int .i64 (S 2).2,.int .i64 (S 3).1,.int .i64 (S 3).2,.int .i64 (S 4).1,.int .i64 (S 4).2,.int .i64 (S 5).1,.int .i64 (S 5).2,.int .i64 (S 6).1,.int .i64 (S 6).2] 43)).alloc (.cells #[.int .i64 0,.int .i64 0,.int .i64 0,.int .i64 0,.int .i64 0,.int .i64 0,.int .i64 0,.int .i64 0,.int .i64 0,.int .i64 0,.int .i64 0,.int .i64 0,.int .i64 0,.int .i64 0,.slice none 0 0] 79))=V1 at *
 obtain⟨x0,x1,x2,x3,x4,x5,x6,x7⟩:=XN.nd.cells
 rw [hh.out] at x0
 have ga1:∀j u,(proL (Q ia).1 (.slice Aa (Q ia).2.length ca))[j]?=some u->V1.cell? ⟨b,o+ia*15+j,none⟩=some u:=fun j u hj=>keepsC HB (ga j u hj) la
 have la1:b<V1.heap.size:=Nat.lt_of_lt_of_le la HB.size
 rw [hia.out] at x1
 have hna2:(ia:Int)<(np:Int):=by omega
 cases R with
 | none =>
  have eR:Hid ((none:Option Pro)=none):=rfl
  go_wp2_with (first
   | (refine wpList_loadBig (by rfl) _ 79 (by rfl) Try.underlying79 (proL (Q ia).1 (.slice Aa (Q ia).2.length ca)) (by kernel_rfl) (by rfl) (ga1) (pro_val (Q ia).1 (.slice Aa (Q ia).2.length ca)) ?_)
   | (go_at_call 60;(with_reducible refine (ct _ (f1.keep HB)).mono ?_);rintro r W2 ⟨hM,hb2⟩;have hr:=hM.no;subst hr;exact⟨rfl,Or.inr ⟨eR.out,rfl⟩,later HB hb2⟩))
 | some Y =>
  go_wp2_with (first
   | (refine wpList_loadBig (by rfl) _ 79 (by rfl) Try.underlying79 (proL (Q ia).1 (.slice Aa (Q ia).2.length ca)) (by kernel_rfl) (by rfl) (ga1) (pro_val (Q ia).1 (.slice Aa (Q ia).2.length ca)) ?_)
   | (go_at_call 60;(with_reducible refine (ct _ (f1.keep HB)).mono ?_);rintro r W2 ⟨hM,hb2⟩;obtain⟨s,hr,A9,c9,rfl,hc9,fa9⟩:=hM.yes;subst hr;have fl:FSl W2 (.slice A9 Y.2.length c9) Y.2:=⟨A9,c9,rfl,hc9,fa9⟩;replace HB:=later HB hb2;replace RB:=RB.keeps hb2;clear hb2 hM)
   | (refine wpList_storeBig (by rfl) _ _ 79 (by rfl) (RB) (proL Y.1 (.slice A9 Y.2.length c9)) (by kernel_rfl) (by rfl) (by rfl) (by rfl) (by rfl) ?_;rintro V2 XR hs2 hB2 hk2))
  have fl2:=fl.other RB (by decide) hk2
  exact bodyPost_ret (v:=proV Y.1 (.slice A9 Y.2.length c9)) (results_cell_row Try.results38 _ V2 (w.heap.size+1+1) 79 (proL Y.1 (.slice A9 Y.2.length c9)).toArray (0,0) _ (by rfl) XR Try.underlying79 (by rfl) (by kernel_rfl)) rfl ⟨Or.inl ⟨Y,_,rfl,rfl,fl2⟩,hB2 _ _ HB (by omega)⟩
set_option maxRecDepth 4000 in
set_option maxHeartbeats 4000000 in
theorem udim_rest (x:Nd) (AN:Option Addr) (nn CN:Nat) (AP:Option Addr) (np CP:Nat) (A0 A1:Option Addr) (n0 C0 n1 C1:Nat) (S:Nat->Int×Int) (hh:10<=x.k/\x.k<=14) (w:World) :
  Calls Try.prog 38 #[x.val,.slice AN nn CN,.slice AP np CP,vrV (.slice A0 n0 C0) (.slice A1 n1 C1) S] w fun r w'=>PrAns r w' (some (plE,[]))/\Below w.heap.size w w':=by
 have cE:=fun W=>uofKnown_w plE W
 have cp:=fun W=>uplain_w W
 obtain⟨n1k,n2k⟩:=hh
 show Calls Try.prog _ #[.agg #[.int .i64 x.k,.int .i64 x.a,.int .i64 x.b,.int .i64 x.n,.int .i64 x.q,.int .i64 x.p,.int .i64 x.v,.int .i64 x.d,.int .i64 (x.E 0).1,.int .i64 (x.E 0).2,.int .i64 (x.E 1).1,.int .i64 (x.E 1).2,.int .i64 (x.E 2).1,.int .i64 (x.E 2).2,.int .i64 (x.E 3).1,.int .i64 (x.E 3).2,.int .i64 (x.E 4).1,.int .i64 (x.E 4).2,.int .i64 (x.E 5).1,.int .i64 (x.E 5).2,.int .i64 (x.E 6).1,.int .i64 (x.E 6).2],_,_,.agg #[.slice A0 n0 C0,.slice A1 n1 C1,.int .i64 (S 0).1,.int .i64 (S 0).2,.int .i64 (S 1).1,.int .i64 (S 1).2,.int .i64 (S 2).1,.int .i64 (S 2).2,.int .i64 (S 3).1,.int .i64 (S 3).2,.int .i64 (S 4).1,.int .i64 (S 4).2,.int .i64 (S 5).1,.int .i64 (S 5).2,.int .i64 (S 6).1,.int .i64 (S 6).2]] w _
 obtain⟨XN,XV,RB,HB⟩:=blks3 w 54 43 79 [.int .i64 x.k,.int .i64 x.a,.int .i64 x.b,.int .i64 x.n,.int .i64 x.q,.int .i64 x.p,.int .i64 x.v,.int .i64 x.d,.int .i64 (x.E 0).1,.int .i64 (x.E 0).2,.int .i64 (x.E 1).1,.int .i64 (x.E 1).2,.int .i64 (x.E 2).1,.int .i64 (x.E 2).2,.int .i64 (x.E 3).1,.int .i64 (x.E 3).2,.int .i64 (x.E 4).1,.int .i64 (x.E 4).2,.int .i64 (x.E 5).1,.int .i64 (x.E 5).2,.int .i64 (x.E 6).1,.int .i64 (x.E 6).2] [.slice A0 n0 C0,.slice A1 n1 C1,.int .i64 (S 0).1,.int .i64 (S 0).2,.int .i64 (S 1).1,.int .i64 (S 1).2,.int .i64 (S 2).1,.int .i64 (S 2).2,.int .i64 (S 3).1,.int .i64 (S 3).2,.int .i64 (S 4).1,.int .i64 (S 4).2,.int .i64 (S 5).1,.int .i64 (S 5).2,.int .i64 (S 6).1,.int .i64 (S 6).2] [.int .i64 0,.int .i64 0,.int .i64 0,.int .i64 0,.int .i64 0,.int .i64 0,.int .i64 0,.int .i64 0,.int .i64 0,.int .i64 0,.int .i64 0,.int .i64 0,.int .i64 0,.int .i64 0,.slice none 0 0]
 go_enter Try.func38,Try.ntmps38
 go_upto_region 1 with fail
 generalize (((w.alloc (.cells #[.int .i64 x.k,.int .i64 x.a,.int .i64 x.b,.int .i64 x.n,.int .i64 x.q,.int .i64 x.p,.int .i64 x.v,.int .i64 x.d,.int .i64 (x.E 0).1,.int .i64 (x.E 0).2,.int .i64 (x.E 1).1,.int .i64 (x.E 1).2,.int .i64 (x.E 2).1,.int .i64 (x.E 2).2,.int .i64 (x.E 3).1,.int .i64 (x.E 3).2,.int .i64 (x.E 4).1,.int .i64 (x.E 4).2,.int .i64 (x.E 5).1,.int .i64 (x.E 5).2,.int .i64 (x.E 6).1,.int .i64 (x.E 6).2] 54)).alloc (.cells #[.slice A0 n0 C0,.slice A1 n1 C1,.int .i64 (S 0).1,.int .i64 (S 0).2,.int .i64 (S 1).1,.int .i64 (S 1).2,.int .i64 (S 2).1,.int .i64 (S 2).2,.int .i64 (S 3).1,.int .i64 (S 3).2,.int .i64 (S 4).1,.int .i64 (S 4).2,.int .i64 (S 5).1,.int .i64 (S 5).2,.int .i64 (S 6).1,.int .i64 (S 6).2] 43)).alloc (.cells #[.int .i64 0,.int .i64 0,.int .i64 0,.int .i64 0,.int .i64 0,.int .i64 0,.int .i64 0,.int .i64 0,.int .i64 0,.int .i64 0,.int .i64 0,.int .i64 0,.int .i64 0,.int .i64 0,.slice none 0 0] 79))=V1 at *
 obtain⟨x0,x1,x2,x3,x4,x5,x6,x7⟩:=XN.nd.cells
 have m1:(x.k==1)=false:=by simp;omega
 have m2:(x.k==2)=false:=by simp;omega
 have m15:(x.k==15)=false:=by simp;omega
 have m3:(x.k==3)=false:=by simp;omega
 have m4:(x.k==4)=false:=by simp;omega
 have m5:(x.k==5)=false:=by simp;omega
 have m6:(x.k==6)=false:=by simp;omega
 have m7:(x.k==7)=false:=by simp;omega
 have m8:(x.k==8)=false:=by simp;omega
 have m9:(x.k==9)=false:=by simp;omega
 clear n1k n2k
 go_wp2_with (first
  | (go_at_call 40;(with_reducible refine (cp _).mono ?_);rintro _ W1 ⟨rfl,hb1⟩;replace HB:=later HB hb1;replace RB:=RB.keeps hb1;clear hb1)
  | (go_at_call 63;(with_reducible refine (cE _).mono ?_);rintro _ W2 ⟨rfl,hb1⟩;replace HB:=later HB hb1;replace RB:=RB.keeps hb1;clear hb1)
  | (refine wpList_storeBig (by rfl) _ _ 79 (by rfl) (RB) (proL plE (.slice none 0 0)) (by kernel_rfl) (by rfl) (by rfl) (by rfl) (by rfl) ?_;rintro V2 XR hs2 hB2 hk2))
 have fl2:=(fSl_nil W2).other RB (by decide) hk2
 exact bodyPost_ret (v:=proV plE (.slice none 0 0)) (results_cell_row Try.results38 _ V2 (w.heap.size+1+1) 79 (proL plE (.slice none 0 0)).toArray (0,0) _ (by rfl) XR Try.underlying79 (by rfl) (by kernel_rfl)) rfl ⟨Or.inl ⟨(plE,[]),_,rfl,rfl,fl2⟩,hB2 _ _ HB (by omega)⟩
end Go.Proofs.Ytbejmklkicoibaa
