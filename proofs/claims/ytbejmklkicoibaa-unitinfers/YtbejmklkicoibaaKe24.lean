/- unit.ruleOf: what must be plain of a node's operands. -/
import Derived.Test.YtbejmklkicoibaaKe23
namespace Go.Proofs.Ytbejmklkicoibaa
open Go.ChangeShapes Go.WideShapes Go.ChangeAt Go.RowKit
theorem pro_valU (E:Nat->Int×Int) (s:Value):(.agg #[.int .i64 (E 0).1,.int .i64 (E 0).2,.int .i64 (E 1).1,.int .i64 (E 1).2,.int .i64 (E 2).1,.int .i64 (E 2).2,.int .i64 (E 3).1,.int .i64 (E 3).2,.int .i64 (E 4).1,.int .i64 (E 4).2,.int .i64 (E 5).1,.int .i64 (E 5).2,.int .i64 (E 6).1,.int .i64 (E 6).2,s]:Value)=.agg (proL E s).toArray:=rfl
abbrev PV:=Pro×Value
def proLs:List PV->List Value
 | []=>[]
 | x :: L=>proL x.1.1 x.2++proLs L
def PvOk (w:World) (L:List PV):Prop:=∀x,x∈L->FSl w x.2 x.1.2
theorem PvOk.keep {w W:World} {L:List PV} (h:PvOk w L) (k:Below w.heap.size w W):PvOk W L:=fun x hx=>(h x hx).keep k
theorem pvOk_nil (w:World):PvOk w []:=fun x hx=>by cases hx
def RlAns (r:Ending) (w:World) (R:Option (List Pro)):Prop:=(∃(L:List PV) (A:Option Addr) (C:Nat),R=some (L.map (·.1))/\r=.returned (.slice A L.length C)/\PvOk w L/\(L≠[]->∃b,A=some ⟨b,0,none⟩/\BlkAt w b 79 (proLs L)))\/(R=none/\r=.panicked (stopP 3))
theorem rlAns_nil (w:World):RlAns (.returned (.slice none 0 0)) w (some []):=Or.inl ⟨[],none,0,rfl,rfl,pvOk_nil w,fun h=>absurd rfl h⟩
set_option maxRecDepth 4000 in
set_option maxHeartbeats 4000000 in
theorem urule_none (x:Nd) (AN:Option Addr) (nn CN:Nat) (AP:Option Addr) (np CP:Nat) (h1:x.k≠3) (h2:x.k≠4) (h3:¬(10<=x.k/\x.k<=14)) (w:World) :
  Calls Try.prog 39 #[x.val,.slice AN nn CN,.slice AP np CP] w fun r w'=>RlAns r w' (some [])/\Below w.heap.size w w':=by
 show Calls Try.prog _ #[.agg #[.int .i64 x.k,.int .i64 x.a,.int .i64 x.b,.int .i64 x.n,.int .i64 x.q,.int .i64 x.p,.int .i64 x.v,.int .i64 x.d,.int .i64 (x.E 0).1,.int .i64 (x.E 0).2,.int .i64 (x.E 1).1,.int .i64 (x.E 1).2,.int .i64 (x.E 2).1,.int .i64 (x.E 2).2,.int .i64 (x.E 3).1,.int .i64 (x.E 3).2,.int .i64 (x.E 4).1,.int .i64 (x.E 4).2,.int .i64 (x.E 5).1,.int .i64 (x.E 5).2,.int .i64 (x.E 6).1,.int .i64 (x.E 6).2],_,_] w _
 obtain⟨XN,HB⟩:=blks1 w 54 [.int .i64 x.k,.int .i64 x.a,.int .i64 x.b,.int .i64 x.n,.int .i64 x.q,.int .i64 x.p,.int .i64 x.v,.int .i64 x.d,.int .i64 (x.E 0).1,.int .i64 (x.E 0).2,.int .i64 (x.E 1).1,.int .i64 (x.E 1).2,.int .i64 (x.E 2).1,.int .i64 (x.E 2).2,.int .i64 (x.E 3).1,.int .i64 (x.E 3).2,.int .i64 (x.E 4).1,.int .i64 (x.E 4).2,.int .i64 (x.E 5).1,.int .i64 (x.E 5).2,.int .i64 (x.E 6).1,.int .i64 (x.E 6).2]
 go_enter Try.func39,Try.ntmps39
 go_upto_region 1 with fail
 generalize (w.alloc (.cells #[.int .i64 x.k,.int .i64 x.a,.int .i64 x.b,.int .i64 x.n,.int .i64 x.q,.int .i64 x.p,.int .i64 x.v,.int .i64 x.d,.int .i64 (x.E 0).1,.int .i64 (x.E 0).2,.int .i64 (x.E 1).1,.int .i64 (x.E 1).2,.int .i64 (x.E 2).1,.int .i64 (x.E 2).2,.int .i64 (x.E 3).1,.int .i64 (x.E 3).2,.int .i64 (x.E 4).1,.int .i64 (x.E 4).2,.int .i64 (x.E 5).1,.int .i64 (x.E 5).2,.int .i64 (x.E 6).1,.int .i64 (x.E 6).2] 54))=V1 at *
 obtain⟨x0,x1,x2,x3,x4,x5,x6,x7⟩:=XN.nd.cells
 have m3:(x.k==3)=false:=by simp;omega
 have m4:(x.k==4)=false:=by simp;omega
 have m10:(x.k==10)=false:=by simp;omega
 have m11:(x.k==11)=false:=by simp;omega
 have m12:(x.k==12)=false:=by simp;omega
 have m13:(x.k==13)=false:=by simp;omega
 have m14:(x.k==14)=false:=by simp;omega
 clear h1 h2 h3
 go_wp2_with fail
 go_ret
 exact⟨rlAns_nil _,HB⟩
set_option maxRecDepth 4000 in
set_option maxHeartbeats 4000000 in
theorem urule_one10 (x:Nd) (AN:Option Addr) (nn CN:Nat) (AP:Option Addr) (np CP:Nat) (hh:Hid (x.k=10)) (X:Nat->Nd) (K:Nat->Prop) (Q:Nat->Pro) (ia:Nat) (hia:Hid (x.a=(ia:Int))) (hKa:K ia) (hna:ia<np) (hia2:ia<nn) (w:World) (VN:Nds w AN nn X) (VP:PrsAt w AP K Q) :
  Calls Try.prog 39 #[x.val,.slice AN nn CN,.slice AP np CP] w fun r w'=>RlAns r w' (some (if frB (X ia) then [] else [Q ia]))/\Below w.heap.size w w':=by
 obtain⟨bn,on,eN,ln,gn⟩:=VN ia hia2
 subst eN
 obtain⟨y,hy⟩:∃y,y=X ia:=⟨_,rfl⟩
 rw [<-hy] at gn ⊢
 have cf:=fun W=>uisFree_w y W
 obtain⟨R,hR⟩:∃R,Hid (some (if frB y then [] else [Q ia])=R):=⟨_,rfl⟩
 rw [hR.out]
 clear hy
 obtain⟨b,o,Aa,ca,eA,la,hca,fa,ga⟩:=VP ia hKa
 subst eA
 show Calls Try.prog _ #[.agg #[.int .i64 x.k,.int .i64 x.a,.int .i64 x.b,.int .i64 x.n,.int .i64 x.q,.int .i64 x.p,.int .i64 x.v,.int .i64 x.d,.int .i64 (x.E 0).1,.int .i64 (x.E 0).2,.int .i64 (x.E 1).1,.int .i64 (x.E 1).2,.int .i64 (x.E 2).1,.int .i64 (x.E 2).2,.int .i64 (x.E 3).1,.int .i64 (x.E 3).2,.int .i64 (x.E 4).1,.int .i64 (x.E 4).2,.int .i64 (x.E 5).1,.int .i64 (x.E 5).2,.int .i64 (x.E 6).1,.int .i64 (x.E 6).2],_,_] w _
 obtain⟨XN,HB⟩:=blks1 w 54 [.int .i64 x.k,.int .i64 x.a,.int .i64 x.b,.int .i64 x.n,.int .i64 x.q,.int .i64 x.p,.int .i64 x.v,.int .i64 x.d,.int .i64 (x.E 0).1,.int .i64 (x.E 0).2,.int .i64 (x.E 1).1,.int .i64 (x.E 1).2,.int .i64 (x.E 2).1,.int .i64 (x.E 2).2,.int .i64 (x.E 3).1,.int .i64 (x.E 3).2,.int .i64 (x.E 4).1,.int .i64 (x.E 4).2,.int .i64 (x.E 5).1,.int .i64 (x.E 5).2,.int .i64 (x.E 6).1,.int .i64 (x.E 6).2]
 go_enter Try.func39,Try.ntmps39
 go_upto_region 1 with fail
 generalize (w.alloc (.cells #[.int .i64 x.k,.int .i64 x.a,.int .i64 x.b,.int .i64 x.n,.int .i64 x.q,.int .i64 x.p,.int .i64 x.v,.int .i64 x.d,.int .i64 (x.E 0).1,.int .i64 (x.E 0).2,.int .i64 (x.E 1).1,.int .i64 (x.E 1).2,.int .i64 (x.E 2).1,.int .i64 (x.E 2).2,.int .i64 (x.E 3).1,.int .i64 (x.E 3).2,.int .i64 (x.E 4).1,.int .i64 (x.E 4).2,.int .i64 (x.E 5).1,.int .i64 (x.E 5).2,.int .i64 (x.E 6).1,.int .i64 (x.E 6).2] 54))=V1 at *
 obtain⟨x0,x1,x2,x3,x4,x5,x6,x7⟩:=XN.nd.cells
 rw [hh.out] at x0
 have ga1:∀j u,(proL (Q ia).1 (.slice Aa (Q ia).2.length ca))[j]?=some u->V1.cell? ⟨b,o+ia*15+j,none⟩=some u:=fun j u hj=>keepsC HB (ga j u hj) la
 have la1:b<V1.heap.size:=Nat.lt_of_lt_of_le la HB.size
 rw [hia.out] at x1
 have hna2:(ia:Int)<(np:Int):=by omega
 have hia3:(ia:Int)<(nn:Int):=by omega
 have gn1:∀j u,(ndL y)[j]?=some u->V1.cell? ⟨bn,on+ia*22+j,none⟩=some u:=fun j u hj=>keepsC HB (gn j u hj) ln
 cases hf:frB y with
 | true =>
  have eR:R=some []:=by have q:=hR.out;rw [hf] at q;exact q.symm
  subst eR
  rw [hf] at cf
  clear hf hR
  go_wp2_with (first
   | (refine wpList_loadBig (by rfl) _ 54 (by rfl) Try.underlying54 (ndL y) (by kernel_rfl) (by rfl) (gn1) (nd_val y) ?_)
   | (go_at_call 65;(with_reducible refine (cf _).mono ?_);rintro _ W2 ⟨rfl,hb1⟩;replace HB:=later HB hb1;replace XN:=XN.keeps hb1;clear hb1 x0 x1 x2 x3 x4 x5 x6 x7;obtain⟨x0,x1,x2,x3,x4,x5,x6,x7⟩:=XN.nd.cells;rw [hia.out] at x1))
  go_ret
  exact⟨rlAns_nil _,HB⟩
 | false =>
  have eR:R=some [Q ia]:=by have q:=hR.out;rw [hf] at q;exact q.symm
  subst eR
  rw [hf] at cf
  clear hf hR
  go_wp2_with (first
   | (refine wpList_loadBig (by rfl) _ 54 (by rfl) Try.underlying54 (ndL y) (by kernel_rfl) (by rfl) (gn1) (nd_val y) ?_)
   | (go_at_call 65;(with_reducible refine (cf _).mono ?_);rintro _ W2 ⟨rfl,hb1⟩;replace HB:=later HB hb1;replace XN:=XN.keeps hb1;clear hb1 x0 x1 x2 x3 x4 x5 x6 x7;obtain⟨x0,x1,x2,x3,x4,x5,x6,x7⟩:=XN.nd.cells;rw [hia.out] at x1)
   | (refine wpList_loadBig (by rfl) _ 79 (by rfl) Try.underlying79 (proL (Q ia).1 (.slice Aa (Q ia).2.length ca)) (by kernel_rfl) (by rfl) (fun j u hj=>keepsC HB (ga j u hj) la) (pro_valU (Q ia).1 (.slice Aa (Q ia).2.length ca)) ?_))
  go_ret
  have fl:=FSl.keep (FSl.keep (show FSl w (.slice Aa (Q ia).2.length ca) (Q ia).2 from ⟨Aa,ca,rfl,hca,fa⟩) HB) (Below.alloc (Below.refl _ _) (Nat.le_refl _) (.cells (proL (Q ia).1 (.slice Aa (Q ia).2.length ca)).toArray 79))
  refine⟨Or.inl ⟨[(Q ia,.slice Aa (Q ia).2.length ca)],_,_,rfl,rfl,fun y hy=>?_,fun _=>⟨_,rfl, ?_⟩⟩,Below.alloc HB HB.size _⟩
  ·rw [List.mem_singleton.1 hy];exact fl
  ·exact blk_new _ _ _
set_option maxRecDepth 4000 in
set_option maxHeartbeats 4000000 in
theorem urule_one11 (x:Nd) (AN:Option Addr) (nn CN:Nat) (AP:Option Addr) (np CP:Nat) (hh:Hid (x.k=11)) (X:Nat->Nd) (K:Nat->Prop) (Q:Nat->Pro) (ia:Nat) (hia:Hid (x.a=(ia:Int))) (hKa:K ia) (hna:ia<np) (hia2:ia<nn) (w:World) (VN:Nds w AN nn X) (VP:PrsAt w AP K Q) :
  Calls Try.prog 39 #[x.val,.slice AN nn CN,.slice AP np CP] w fun r w'=>RlAns r w' (some (if frB (X ia) then [] else [Q ia]))/\Below w.heap.size w w':=by
 obtain⟨bn,on,eN,ln,gn⟩:=VN ia hia2
 subst eN
 obtain⟨y,hy⟩:∃y,y=X ia:=⟨_,rfl⟩
 rw [<-hy] at gn ⊢
 have cf:=fun W=>uisFree_w y W
 obtain⟨R,hR⟩:∃R,Hid (some (if frB y then [] else [Q ia])=R):=⟨_,rfl⟩
 rw [hR.out]
 clear hy
 obtain⟨b,o,Aa,ca,eA,la,hca,fa,ga⟩:=VP ia hKa
 subst eA
 show Calls Try.prog _ #[.agg #[.int .i64 x.k,.int .i64 x.a,.int .i64 x.b,.int .i64 x.n,.int .i64 x.q,.int .i64 x.p,.int .i64 x.v,.int .i64 x.d,.int .i64 (x.E 0).1,.int .i64 (x.E 0).2,.int .i64 (x.E 1).1,.int .i64 (x.E 1).2,.int .i64 (x.E 2).1,.int .i64 (x.E 2).2,.int .i64 (x.E 3).1,.int .i64 (x.E 3).2,.int .i64 (x.E 4).1,.int .i64 (x.E 4).2,.int .i64 (x.E 5).1,.int .i64 (x.E 5).2,.int .i64 (x.E 6).1,.int .i64 (x.E 6).2],_,_] w _
 obtain⟨XN,HB⟩:=blks1 w 54 [.int .i64 x.k,.int .i64 x.a,.int .i64 x.b,.int .i64 x.n,.int .i64 x.q,.int .i64 x.p,.int .i64 x.v,.int .i64 x.d,.int .i64 (x.E 0).1,.int .i64 (x.E 0).2,.int .i64 (x.E 1).1,.int .i64 (x.E 1).2,.int .i64 (x.E 2).1,.int .i64 (x.E 2).2,.int .i64 (x.E 3).1,.int .i64 (x.E 3).2,.int .i64 (x.E 4).1,.int .i64 (x.E 4).2,.int .i64 (x.E 5).1,.int .i64 (x.E 5).2,.int .i64 (x.E 6).1,.int .i64 (x.E 6).2]
 go_enter Try.func39,Try.ntmps39
 go_upto_region 1 with fail
 generalize (w.alloc (.cells #[.int .i64 x.k,.int .i64 x.a,.int .i64 x.b,.int .i64 x.n,.int .i64 x.q,.int .i64 x.p,.int .i64 x.v,.int .i64 x.d,.int .i64 (x.E 0).1,.int .i64 (x.E 0).2,.int .i64 (x.E 1).1,.int .i64 (x.E 1).2,.int .i64 (x.E 2).1,.int .i64 (x.E 2).2,.int .i64 (x.E 3).1,.int .i64 (x.E 3).2,.int .i64 (x.E 4).1,.int .i64 (x.E 4).2,.int .i64 (x.E 5).1,.int .i64 (x.E 5).2,.int .i64 (x.E 6).1,.int .i64 (x.E 6).2] 54))=V1 at *
 obtain⟨x0,x1,x2,x3,x4,x5,x6,x7⟩:=XN.nd.cells
 rw [hh.out] at x0
 have ga1:∀j u,(proL (Q ia).1 (.slice Aa (Q ia).2.length ca))[j]?=some u->V1.cell? ⟨b,o+ia*15+j,none⟩=some u:=fun j u hj=>keepsC HB (ga j u hj) la
 have la1:b<V1.heap.size:=Nat.lt_of_lt_of_le la HB.size
 rw [hia.out] at x1
 have hna2:(ia:Int)<(np:Int):=by omega
 have hia3:(ia:Int)<(nn:Int):=by omega
 have gn1:∀j u,(ndL y)[j]?=some u->V1.cell? ⟨bn,on+ia*22+j,none⟩=some u:=fun j u hj=>keepsC HB (gn j u hj) ln
 cases hf:frB y with
 | true =>
  have eR:R=some []:=by have q:=hR.out;rw [hf] at q;exact q.symm
  subst eR
  rw [hf] at cf
  clear hf hR
  go_wp2_with (first
   | (refine wpList_loadBig (by rfl) _ 54 (by rfl) Try.underlying54 (ndL y) (by kernel_rfl) (by rfl) (gn1) (nd_val y) ?_)
   | (go_at_call 65;(with_reducible refine (cf _).mono ?_);rintro _ W2 ⟨rfl,hb1⟩;replace HB:=later HB hb1;replace XN:=XN.keeps hb1;clear hb1 x0 x1 x2 x3 x4 x5 x6 x7;obtain⟨x0,x1,x2,x3,x4,x5,x6,x7⟩:=XN.nd.cells;rw [hia.out] at x1))
  go_ret
  exact⟨rlAns_nil _,HB⟩
 | false =>
  have eR:R=some [Q ia]:=by have q:=hR.out;rw [hf] at q;exact q.symm
  subst eR
  rw [hf] at cf
  clear hf hR
  go_wp2_with (first
   | (refine wpList_loadBig (by rfl) _ 54 (by rfl) Try.underlying54 (ndL y) (by kernel_rfl) (by rfl) (gn1) (nd_val y) ?_)
   | (go_at_call 65;(with_reducible refine (cf _).mono ?_);rintro _ W2 ⟨rfl,hb1⟩;replace HB:=later HB hb1;replace XN:=XN.keeps hb1;clear hb1 x0 x1 x2 x3 x4 x5 x6 x7;obtain⟨x0,x1,x2,x3,x4,x5,x6,x7⟩:=XN.nd.cells;rw [hia.out] at x1)
   | (refine wpList_loadBig (by rfl) _ 79 (by rfl) Try.underlying79 (proL (Q ia).1 (.slice Aa (Q ia).2.length ca)) (by kernel_rfl) (by rfl) (fun j u hj=>keepsC HB (ga j u hj) la) (pro_valU (Q ia).1 (.slice Aa (Q ia).2.length ca)) ?_))
  go_ret
  have fl:=FSl.keep (FSl.keep (show FSl w (.slice Aa (Q ia).2.length ca) (Q ia).2 from ⟨Aa,ca,rfl,hca,fa⟩) HB) (Below.alloc (Below.refl _ _) (Nat.le_refl _) (.cells (proL (Q ia).1 (.slice Aa (Q ia).2.length ca)).toArray 79))
  refine⟨Or.inl ⟨[(Q ia,.slice Aa (Q ia).2.length ca)],_,_,rfl,rfl,fun y hy=>?_,fun _=>⟨_,rfl, ?_⟩⟩,Below.alloc HB HB.size _⟩
  ·rw [List.mem_singleton.1 hy];exact fl
  ·exact blk_new _ _ _
set_option maxRecDepth 4000 in
set_option maxHeartbeats 4000000 in
theorem urule_one12 (x:Nd) (AN:Option Addr) (nn CN:Nat) (AP:Option Addr) (np CP:Nat) (hh:Hid (x.k=12)) (X:Nat->Nd) (K:Nat->Prop) (Q:Nat->Pro) (ia:Nat) (hia:Hid (x.a=(ia:Int))) (hKa:K ia) (hna:ia<np) (hia2:ia<nn) (w:World) (VN:Nds w AN nn X) (VP:PrsAt w AP K Q) :
  Calls Try.prog 39 #[x.val,.slice AN nn CN,.slice AP np CP] w fun r w'=>RlAns r w' (some (if frB (X ia) then [] else [Q ia]))/\Below w.heap.size w w':=by
 obtain⟨bn,on,eN,ln,gn⟩:=VN ia hia2
 subst eN
 obtain⟨y,hy⟩:∃y,y=X ia:=⟨_,rfl⟩
 rw [<-hy] at gn ⊢
 have cf:=fun W=>uisFree_w y W
 obtain⟨R,hR⟩:∃R,Hid (some (if frB y then [] else [Q ia])=R):=⟨_,rfl⟩
 rw [hR.out]
 clear hy
 obtain⟨b,o,Aa,ca,eA,la,hca,fa,ga⟩:=VP ia hKa
 subst eA
 show Calls Try.prog _ #[.agg #[.int .i64 x.k,.int .i64 x.a,.int .i64 x.b,.int .i64 x.n,.int .i64 x.q,.int .i64 x.p,.int .i64 x.v,.int .i64 x.d,.int .i64 (x.E 0).1,.int .i64 (x.E 0).2,.int .i64 (x.E 1).1,.int .i64 (x.E 1).2,.int .i64 (x.E 2).1,.int .i64 (x.E 2).2,.int .i64 (x.E 3).1,.int .i64 (x.E 3).2,.int .i64 (x.E 4).1,.int .i64 (x.E 4).2,.int .i64 (x.E 5).1,.int .i64 (x.E 5).2,.int .i64 (x.E 6).1,.int .i64 (x.E 6).2],_,_] w _
 obtain⟨XN,HB⟩:=blks1 w 54 [.int .i64 x.k,.int .i64 x.a,.int .i64 x.b,.int .i64 x.n,.int .i64 x.q,.int .i64 x.p,.int .i64 x.v,.int .i64 x.d,.int .i64 (x.E 0).1,.int .i64 (x.E 0).2,.int .i64 (x.E 1).1,.int .i64 (x.E 1).2,.int .i64 (x.E 2).1,.int .i64 (x.E 2).2,.int .i64 (x.E 3).1,.int .i64 (x.E 3).2,.int .i64 (x.E 4).1,.int .i64 (x.E 4).2,.int .i64 (x.E 5).1,.int .i64 (x.E 5).2,.int .i64 (x.E 6).1,.int .i64 (x.E 6).2]
 go_enter Try.func39,Try.ntmps39
 go_upto_region 1 with fail
 generalize (w.alloc (.cells #[.int .i64 x.k,.int .i64 x.a,.int .i64 x.b,.int .i64 x.n,.int .i64 x.q,.int .i64 x.p,.int .i64 x.v,.int .i64 x.d,.int .i64 (x.E 0).1,.int .i64 (x.E 0).2,.int .i64 (x.E 1).1,.int .i64 (x.E 1).2,.int .i64 (x.E 2).1,.int .i64 (x.E 2).2,.int .i64 (x.E 3).1,.int .i64 (x.E 3).2,.int .i64 (x.E 4).1,.int .i64 (x.E 4).2,.int .i64 (x.E 5).1,.int .i64 (x.E 5).2,.int .i64 (x.E 6).1,.int .i64 (x.E 6).2] 54))=V1 at *
 obtain⟨x0,x1,x2,x3,x4,x5,x6,x7⟩:=XN.nd.cells
 rw [hh.out] at x0
 have ga1:∀j u,(proL (Q ia).1 (.slice Aa (Q ia).2.length ca))[j]?=some u->V1.cell? ⟨b,o+ia*15+j,none⟩=some u:=fun j u hj=>keepsC HB (ga j u hj) la
 have la1:b<V1.heap.size:=Nat.lt_of_lt_of_le la HB.size
 rw [hia.out] at x1
 have hna2:(ia:Int)<(np:Int):=by omega
 have hia3:(ia:Int)<(nn:Int):=by omega
 have gn1:∀j u,(ndL y)[j]?=some u->V1.cell? ⟨bn,on+ia*22+j,none⟩=some u:=fun j u hj=>keepsC HB (gn j u hj) ln
 cases hf:frB y with
 | true =>
  have eR:R=some []:=by have q:=hR.out;rw [hf] at q;exact q.symm
  subst eR
  rw [hf] at cf
  clear hf hR
  go_wp2_with (first
   | (refine wpList_loadBig (by rfl) _ 54 (by rfl) Try.underlying54 (ndL y) (by kernel_rfl) (by rfl) (gn1) (nd_val y) ?_)
   | (go_at_call 65;(with_reducible refine (cf _).mono ?_);rintro _ W2 ⟨rfl,hb1⟩;replace HB:=later HB hb1;replace XN:=XN.keeps hb1;clear hb1 x0 x1 x2 x3 x4 x5 x6 x7;obtain⟨x0,x1,x2,x3,x4,x5,x6,x7⟩:=XN.nd.cells;rw [hia.out] at x1))
  go_ret
  exact⟨rlAns_nil _,HB⟩
 | false =>
  have eR:R=some [Q ia]:=by have q:=hR.out;rw [hf] at q;exact q.symm
  subst eR
  rw [hf] at cf
  clear hf hR
  go_wp2_with (first
   | (refine wpList_loadBig (by rfl) _ 54 (by rfl) Try.underlying54 (ndL y) (by kernel_rfl) (by rfl) (gn1) (nd_val y) ?_)
   | (go_at_call 65;(with_reducible refine (cf _).mono ?_);rintro _ W2 ⟨rfl,hb1⟩;replace HB:=later HB hb1;replace XN:=XN.keeps hb1;clear hb1 x0 x1 x2 x3 x4 x5 x6 x7;obtain⟨x0,x1,x2,x3,x4,x5,x6,x7⟩:=XN.nd.cells;rw [hia.out] at x1)
   | (refine wpList_loadBig (by rfl) _ 79 (by rfl) Try.underlying79 (proL (Q ia).1 (.slice Aa (Q ia).2.length ca)) (by kernel_rfl) (by rfl) (fun j u hj=>keepsC HB (ga j u hj) la) (pro_valU (Q ia).1 (.slice Aa (Q ia).2.length ca)) ?_))
  go_ret
  have fl:=FSl.keep (FSl.keep (show FSl w (.slice Aa (Q ia).2.length ca) (Q ia).2 from ⟨Aa,ca,rfl,hca,fa⟩) HB) (Below.alloc (Below.refl _ _) (Nat.le_refl _) (.cells (proL (Q ia).1 (.slice Aa (Q ia).2.length ca)).toArray 79))
  refine⟨Or.inl ⟨[(Q ia,.slice Aa (Q ia).2.length ca)],_,_,rfl,rfl,fun y hy=>?_,fun _=>⟨_,rfl, ?_⟩⟩,Below.alloc HB HB.size _⟩
  ·rw [List.mem_singleton.1 hy];exact fl
  ·exact blk_new _ _ _
set_option maxRecDepth 4000 in
set_option maxHeartbeats 4000000 in
theorem urule_one13 (x:Nd) (AN:Option Addr) (nn CN:Nat) (AP:Option Addr) (np CP:Nat) (hh:Hid (x.k=13)) (X:Nat->Nd) (K:Nat->Prop) (Q:Nat->Pro) (ia:Nat) (hia:Hid (x.a=(ia:Int))) (hKa:K ia) (hna:ia<np) (hia2:ia<nn) (w:World) (VN:Nds w AN nn X) (VP:PrsAt w AP K Q) :
  Calls Try.prog 39 #[x.val,.slice AN nn CN,.slice AP np CP] w fun r w'=>RlAns r w' (some (if frB (X ia) then [] else [Q ia]))/\Below w.heap.size w w':=by
 obtain⟨bn,on,eN,ln,gn⟩:=VN ia hia2
 subst eN
 obtain⟨y,hy⟩:∃y,y=X ia:=⟨_,rfl⟩
 rw [<-hy] at gn ⊢
 have cf:=fun W=>uisFree_w y W
 obtain⟨R,hR⟩:∃R,Hid (some (if frB y then [] else [Q ia])=R):=⟨_,rfl⟩
 rw [hR.out]
 clear hy
 obtain⟨b,o,Aa,ca,eA,la,hca,fa,ga⟩:=VP ia hKa
 subst eA
 show Calls Try.prog _ #[.agg #[.int .i64 x.k,.int .i64 x.a,.int .i64 x.b,.int .i64 x.n,.int .i64 x.q,.int .i64 x.p,.int .i64 x.v,.int .i64 x.d,.int .i64 (x.E 0).1,.int .i64 (x.E 0).2,.int .i64 (x.E 1).1,.int .i64 (x.E 1).2,.int .i64 (x.E 2).1,.int .i64 (x.E 2).2,.int .i64 (x.E 3).1,.int .i64 (x.E 3).2,.int .i64 (x.E 4).1,.int .i64 (x.E 4).2,.int .i64 (x.E 5).1,.int .i64 (x.E 5).2,.int .i64 (x.E 6).1,.int .i64 (x.E 6).2],_,_] w _
 obtain⟨XN,HB⟩:=blks1 w 54 [.int .i64 x.k,.int .i64 x.a,.int .i64 x.b,.int .i64 x.n,.int .i64 x.q,.int .i64 x.p,.int .i64 x.v,.int .i64 x.d,.int .i64 (x.E 0).1,.int .i64 (x.E 0).2,.int .i64 (x.E 1).1,.int .i64 (x.E 1).2,.int .i64 (x.E 2).1,.int .i64 (x.E 2).2,.int .i64 (x.E 3).1,.int .i64 (x.E 3).2,.int .i64 (x.E 4).1,.int .i64 (x.E 4).2,.int .i64 (x.E 5).1,.int .i64 (x.E 5).2,.int .i64 (x.E 6).1,.int .i64 (x.E 6).2]
 go_enter Try.func39,Try.ntmps39
 go_upto_region 1 with fail
 generalize (w.alloc (.cells #[.int .i64 x.k,.int .i64 x.a,.int .i64 x.b,.int .i64 x.n,.int .i64 x.q,.int .i64 x.p,.int .i64 x.v,.int .i64 x.d,.int .i64 (x.E 0).1,.int .i64 (x.E 0).2,.int .i64 (x.E 1).1,.int .i64 (x.E 1).2,.int .i64 (x.E 2).1,.int .i64 (x.E 2).2,.int .i64 (x.E 3).1,.int .i64 (x.E 3).2,.int .i64 (x.E 4).1,.int .i64 (x.E 4).2,.int .i64 (x.E 5).1,.int .i64 (x.E 5).2,.int .i64 (x.E 6).1,.int .i64 (x.E 6).2] 54))=V1 at *
 obtain⟨x0,x1,x2,x3,x4,x5,x6,x7⟩:=XN.nd.cells
 rw [hh.out] at x0
 have ga1:∀j u,(proL (Q ia).1 (.slice Aa (Q ia).2.length ca))[j]?=some u->V1.cell? ⟨b,o+ia*15+j,none⟩=some u:=fun j u hj=>keepsC HB (ga j u hj) la
 have la1:b<V1.heap.size:=Nat.lt_of_lt_of_le la HB.size
 rw [hia.out] at x1
 have hna2:(ia:Int)<(np:Int):=by omega
 have hia3:(ia:Int)<(nn:Int):=by omega
 have gn1:∀j u,(ndL y)[j]?=some u->V1.cell? ⟨bn,on+ia*22+j,none⟩=some u:=fun j u hj=>keepsC HB (gn j u hj) ln
 cases hf:frB y with
 | true =>
  have eR:R=some []:=by have q:=hR.out;rw [hf] at q;exact q.symm
  subst eR
  rw [hf] at cf
  clear hf hR
  go_wp2_with (first
   | (refine wpList_loadBig (by rfl) _ 54 (by rfl) Try.underlying54 (ndL y) (by kernel_rfl) (by rfl) (gn1) (nd_val y) ?_)
   | (go_at_call 65;(with_reducible refine (cf _).mono ?_);rintro _ W2 ⟨rfl,hb1⟩;replace HB:=later HB hb1;replace XN:=XN.keeps hb1;clear hb1 x0 x1 x2 x3 x4 x5 x6 x7;obtain⟨x0,x1,x2,x3,x4,x5,x6,x7⟩:=XN.nd.cells;rw [hia.out] at x1))
  go_ret
  exact⟨rlAns_nil _,HB⟩
 | false =>
  have eR:R=some [Q ia]:=by have q:=hR.out;rw [hf] at q;exact q.symm
  subst eR
  rw [hf] at cf
  clear hf hR
  go_wp2_with (first
   | (refine wpList_loadBig (by rfl) _ 54 (by rfl) Try.underlying54 (ndL y) (by kernel_rfl) (by rfl) (gn1) (nd_val y) ?_)
   | (go_at_call 65;(with_reducible refine (cf _).mono ?_);rintro _ W2 ⟨rfl,hb1⟩;replace HB:=later HB hb1;replace XN:=XN.keeps hb1;clear hb1 x0 x1 x2 x3 x4 x5 x6 x7;obtain⟨x0,x1,x2,x3,x4,x5,x6,x7⟩:=XN.nd.cells;rw [hia.out] at x1)
   | (refine wpList_loadBig (by rfl) _ 79 (by rfl) Try.underlying79 (proL (Q ia).1 (.slice Aa (Q ia).2.length ca)) (by kernel_rfl) (by rfl) (fun j u hj=>keepsC HB (ga j u hj) la) (pro_valU (Q ia).1 (.slice Aa (Q ia).2.length ca)) ?_))
  go_ret
  have fl:=FSl.keep (FSl.keep (show FSl w (.slice Aa (Q ia).2.length ca) (Q ia).2 from ⟨Aa,ca,rfl,hca,fa⟩) HB) (Below.alloc (Below.refl _ _) (Nat.le_refl _) (.cells (proL (Q ia).1 (.slice Aa (Q ia).2.length ca)).toArray 79))
  refine⟨Or.inl ⟨[(Q ia,.slice Aa (Q ia).2.length ca)],_,_,rfl,rfl,fun y hy=>?_,fun _=>⟨_,rfl, ?_⟩⟩,Below.alloc HB HB.size _⟩
  ·rw [List.mem_singleton.1 hy];exact fl
  ·exact blk_new _ _ _
set_option maxRecDepth 4000 in
set_option maxHeartbeats 4000000 in
theorem urule_one14 (x:Nd) (AN:Option Addr) (nn CN:Nat) (AP:Option Addr) (np CP:Nat) (hh:Hid (x.k=14)) (X:Nat->Nd) (K:Nat->Prop) (Q:Nat->Pro) (ia:Nat) (hia:Hid (x.a=(ia:Int))) (hKa:K ia) (hna:ia<np) (hia2:ia<nn) (w:World) (VN:Nds w AN nn X) (VP:PrsAt w AP K Q) :
  Calls Try.prog 39 #[x.val,.slice AN nn CN,.slice AP np CP] w fun r w'=>RlAns r w' (some (if frB (X ia) then [] else [Q ia]))/\Below w.heap.size w w':=by
 obtain⟨bn,on,eN,ln,gn⟩:=VN ia hia2
 subst eN
 obtain⟨y,hy⟩:∃y,y=X ia:=⟨_,rfl⟩
 rw [<-hy] at gn ⊢
 have cf:=fun W=>uisFree_w y W
 obtain⟨R,hR⟩:∃R,Hid (some (if frB y then [] else [Q ia])=R):=⟨_,rfl⟩
 rw [hR.out]
 clear hy
 obtain⟨b,o,Aa,ca,eA,la,hca,fa,ga⟩:=VP ia hKa
 subst eA
 show Calls Try.prog _ #[.agg #[.int .i64 x.k,.int .i64 x.a,.int .i64 x.b,.int .i64 x.n,.int .i64 x.q,.int .i64 x.p,.int .i64 x.v,.int .i64 x.d,.int .i64 (x.E 0).1,.int .i64 (x.E 0).2,.int .i64 (x.E 1).1,.int .i64 (x.E 1).2,.int .i64 (x.E 2).1,.int .i64 (x.E 2).2,.int .i64 (x.E 3).1,.int .i64 (x.E 3).2,.int .i64 (x.E 4).1,.int .i64 (x.E 4).2,.int .i64 (x.E 5).1,.int .i64 (x.E 5).2,.int .i64 (x.E 6).1,.int .i64 (x.E 6).2],_,_] w _
 obtain⟨XN,HB⟩:=blks1 w 54 [.int .i64 x.k,.int .i64 x.a,.int .i64 x.b,.int .i64 x.n,.int .i64 x.q,.int .i64 x.p,.int .i64 x.v,.int .i64 x.d,.int .i64 (x.E 0).1,.int .i64 (x.E 0).2,.int .i64 (x.E 1).1,.int .i64 (x.E 1).2,.int .i64 (x.E 2).1,.int .i64 (x.E 2).2,.int .i64 (x.E 3).1,.int .i64 (x.E 3).2,.int .i64 (x.E 4).1,.int .i64 (x.E 4).2,.int .i64 (x.E 5).1,.int .i64 (x.E 5).2,.int .i64 (x.E 6).1,.int .i64 (x.E 6).2]
 go_enter Try.func39,Try.ntmps39
 go_upto_region 1 with fail
 generalize (w.alloc (.cells #[.int .i64 x.k,.int .i64 x.a,.int .i64 x.b,.int .i64 x.n,.int .i64 x.q,.int .i64 x.p,.int .i64 x.v,.int .i64 x.d,.int .i64 (x.E 0).1,.int .i64 (x.E 0).2,.int .i64 (x.E 1).1,.int .i64 (x.E 1).2,.int .i64 (x.E 2).1,.int .i64 (x.E 2).2,.int .i64 (x.E 3).1,.int .i64 (x.E 3).2,.int .i64 (x.E 4).1,.int .i64 (x.E 4).2,.int .i64 (x.E 5).1,.int .i64 (x.E 5).2,.int .i64 (x.E 6).1,.int .i64 (x.E 6).2] 54))=V1 at *
 obtain⟨x0,x1,x2,x3,x4,x5,x6,x7⟩:=XN.nd.cells
 rw [hh.out] at x0
 have ga1:∀j u,(proL (Q ia).1 (.slice Aa (Q ia).2.length ca))[j]?=some u->V1.cell? ⟨b,o+ia*15+j,none⟩=some u:=fun j u hj=>keepsC HB (ga j u hj) la
 have la1:b<V1.heap.size:=Nat.lt_of_lt_of_le la HB.size
 rw [hia.out] at x1
 have hna2:(ia:Int)<(np:Int):=by omega
 have hia3:(ia:Int)<(nn:Int):=by omega
 have gn1:∀j u,(ndL y)[j]?=some u->V1.cell? ⟨bn,on+ia*22+j,none⟩=some u:=fun j u hj=>keepsC HB (gn j u hj) ln
 cases hf:frB y with
 | true =>
  have eR:R=some []:=by have q:=hR.out;rw [hf] at q;exact q.symm
  subst eR
  rw [hf] at cf
  clear hf hR
  go_wp2_with (first
   | (refine wpList_loadBig (by rfl) _ 54 (by rfl) Try.underlying54 (ndL y) (by kernel_rfl) (by rfl) (gn1) (nd_val y) ?_)
   | (go_at_call 65;(with_reducible refine (cf _).mono ?_);rintro _ W2 ⟨rfl,hb1⟩;replace HB:=later HB hb1;replace XN:=XN.keeps hb1;clear hb1 x0 x1 x2 x3 x4 x5 x6 x7;obtain⟨x0,x1,x2,x3,x4,x5,x6,x7⟩:=XN.nd.cells;rw [hia.out] at x1))
  go_ret
  exact⟨rlAns_nil _,HB⟩
 | false =>
  have eR:R=some [Q ia]:=by have q:=hR.out;rw [hf] at q;exact q.symm
  subst eR
  rw [hf] at cf
  clear hf hR
  go_wp2_with (first
   | (refine wpList_loadBig (by rfl) _ 54 (by rfl) Try.underlying54 (ndL y) (by kernel_rfl) (by rfl) (gn1) (nd_val y) ?_)
   | (go_at_call 65;(with_reducible refine (cf _).mono ?_);rintro _ W2 ⟨rfl,hb1⟩;replace HB:=later HB hb1;replace XN:=XN.keeps hb1;clear hb1 x0 x1 x2 x3 x4 x5 x6 x7;obtain⟨x0,x1,x2,x3,x4,x5,x6,x7⟩:=XN.nd.cells;rw [hia.out] at x1)
   | (refine wpList_loadBig (by rfl) _ 79 (by rfl) Try.underlying79 (proL (Q ia).1 (.slice Aa (Q ia).2.length ca)) (by kernel_rfl) (by rfl) (fun j u hj=>keepsC HB (ga j u hj) la) (pro_valU (Q ia).1 (.slice Aa (Q ia).2.length ca)) ?_))
  go_ret
  have fl:=FSl.keep (FSl.keep (show FSl w (.slice Aa (Q ia).2.length ca) (Q ia).2 from ⟨Aa,ca,rfl,hca,fa⟩) HB) (Below.alloc (Below.refl _ _) (Nat.le_refl _) (.cells (proL (Q ia).1 (.slice Aa (Q ia).2.length ca)).toArray 79))
  refine⟨Or.inl ⟨[(Q ia,.slice Aa (Q ia).2.length ca)],_,_,rfl,rfl,fun y hy=>?_,fun _=>⟨_,rfl, ?_⟩⟩,Below.alloc HB HB.size _⟩
  ·rw [List.mem_singleton.1 hy];exact fl
  ·exact blk_new _ _ _
set_option maxRecDepth 4000 in
set_option maxHeartbeats 4000000 in
theorem urule_add (x:Nd) (AN:Option Addr) (nn CN:Nat) (AP:Option Addr) (np CP:Nat) (hh:Hid (x.k=3)) (X:Nat->Nd) (K:Nat->Prop) (Q:Nat->Pro) (ia:Nat) (hia:Hid (x.a=(ia:Int))) (hKa:K ia) (hna:ia<np) (ib:Nat) (hib:Hid (x.b=(ib:Int))) (hKb:K ib) (hnb:ib<np) (hia2:ia<nn) (hib2:ib<nn) (V:Int) (hV:0<=V/\V<=500) (pa:POk V (Q ia)) (pb:POk V (Q ib)) (w:World) (VN:Nds w AN nn X) (VP:PrsAt w AP K Q) :
  Calls Try.prog 39 #[x.val,.slice AN nn CN,.slice AP np CP] w fun r w'=>RlAns r w' (if frB (X ia) then some [] else if frB (X ib) then some [] else (timesP (Q ia) (Q ib) (-1,1)).map fun Y=>[Y])/\Below w.heap.size w w':=by
 obtain⟨bn,on,eN,ln,gn⟩:=VN ia hia2
 subst eN
 have gm:=(VN.at hib2).2
 obtain⟨y,hy⟩:∃y,y=X ia:=⟨_,rfl⟩
 obtain⟨z,hz⟩:∃z,z=X ib:=⟨_,rfl⟩
 rw [<-hy] at gn ⊢
 rw [<-hz] at gm ⊢
 have cf:=fun W=>uisFree_w y W
 have cg:=fun W=>uisFree_w z W
 have hl1:=pa.s.length hV.1
 have hl2:=pb.s.length hV.1
 have cw:=fun W=>uwhole_w (-1) W
 obtain⟨b,o,Aa,ca,eA,la,hca,fa,ga⟩:=VP ia hKa
 subst eA
 obtain⟨Ab,cb,lb,hcb,fb,gb⟩:=VP.at hKb
 have ct:=fun W f1 f2=>uptimes_w (Q ia).1 (Q ib).1 (Q ia).2 (Q ib).2 (.slice Aa (Q ia).2.length ca) (.slice Ab (Q ib).2.length cb) (-1,1) pa.d pb.d pa.r pb.r (rok_one (by constructor <;> decide) (by decide)) pa.f pb.f (by omega) W f1 f2
 obtain⟨T,hT⟩:∃T,Hid (timesP (Q ia) (Q ib) (-1,1)=T):=⟨_,rfl⟩
 have hT2:=hT.out
 rw [hT2] at ct ⊢
 have f1:=(show FSl w (.slice Aa (Q ia).2.length ca) (Q ia).2 from ⟨Aa,ca,rfl,hca,fa⟩)
 have f2:=(show FSl w (.slice Ab (Q ib).2.length cb) (Q ib).2 from ⟨Ab,cb,rfl,hcb,fb⟩)
 obtain⟨R,hR⟩:∃R,Hid ((if frB y then some [] else if frB z then some [] else T.map fun Y=>[Y])=R):=⟨_,rfl⟩
 rw [hR.out]
 clear pa pb hl1 hl2 hT hT2 hV hy hz
 show Calls Try.prog _ #[.agg #[.int .i64 x.k,.int .i64 x.a,.int .i64 x.b,.int .i64 x.n,.int .i64 x.q,.int .i64 x.p,.int .i64 x.v,.int .i64 x.d,.int .i64 (x.E 0).1,.int .i64 (x.E 0).2,.int .i64 (x.E 1).1,.int .i64 (x.E 1).2,.int .i64 (x.E 2).1,.int .i64 (x.E 2).2,.int .i64 (x.E 3).1,.int .i64 (x.E 3).2,.int .i64 (x.E 4).1,.int .i64 (x.E 4).2,.int .i64 (x.E 5).1,.int .i64 (x.E 5).2,.int .i64 (x.E 6).1,.int .i64 (x.E 6).2],_,_] w _
 obtain⟨XN,HB⟩:=blks1 w 54 [.int .i64 x.k,.int .i64 x.a,.int .i64 x.b,.int .i64 x.n,.int .i64 x.q,.int .i64 x.p,.int .i64 x.v,.int .i64 x.d,.int .i64 (x.E 0).1,.int .i64 (x.E 0).2,.int .i64 (x.E 1).1,.int .i64 (x.E 1).2,.int .i64 (x.E 2).1,.int .i64 (x.E 2).2,.int .i64 (x.E 3).1,.int .i64 (x.E 3).2,.int .i64 (x.E 4).1,.int .i64 (x.E 4).2,.int .i64 (x.E 5).1,.int .i64 (x.E 5).2,.int .i64 (x.E 6).1,.int .i64 (x.E 6).2]
 go_enter Try.func39,Try.ntmps39
 go_upto_region 1 with fail
 generalize (w.alloc (.cells #[.int .i64 x.k,.int .i64 x.a,.int .i64 x.b,.int .i64 x.n,.int .i64 x.q,.int .i64 x.p,.int .i64 x.v,.int .i64 x.d,.int .i64 (x.E 0).1,.int .i64 (x.E 0).2,.int .i64 (x.E 1).1,.int .i64 (x.E 1).2,.int .i64 (x.E 2).1,.int .i64 (x.E 2).2,.int .i64 (x.E 3).1,.int .i64 (x.E 3).2,.int .i64 (x.E 4).1,.int .i64 (x.E 4).2,.int .i64 (x.E 5).1,.int .i64 (x.E 5).2,.int .i64 (x.E 6).1,.int .i64 (x.E 6).2] 54))=V1 at *
 obtain⟨x0,x1,x2,x3,x4,x5,x6,x7⟩:=XN.nd.cells
 rw [hh.out] at x0
 have ga1:∀j u,(proL (Q ia).1 (.slice Aa (Q ia).2.length ca))[j]?=some u->V1.cell? ⟨b,o+ia*15+j,none⟩=some u:=fun j u hj=>keepsC HB (ga j u hj) la
 have la1:b<V1.heap.size:=Nat.lt_of_lt_of_le la HB.size
 rw [hia.out] at x1
 have gb1:∀j u,(proL (Q ib).1 (.slice Ab (Q ib).2.length cb))[j]?=some u->V1.cell? ⟨b,o+ib*15+j,none⟩=some u:=fun j u hj=>keepsC HB (gb j u hj) la
 rw [hib.out] at x2
 have hna2:(ia:Int)<(np:Int):=by omega
 have hnb2:(ib:Int)<(np:Int):=by omega
 have hia3:(ia:Int)<(nn:Int):=by omega
 have hib3:(ib:Int)<(nn:Int):=by omega
 have gn1:∀j u,(ndL y)[j]?=some u->V1.cell? ⟨bn,on+ia*22+j,none⟩=some u:=fun j u hj=>keepsC HB (gn j u hj) ln
 have hln:bn<w.heap.size:=ln
 cases hf:frB y with
 | true =>
  have eR:R=some []:=by have q:=hR.out;rw [hf] at q;exact q.symm
  subst eR
  rw [hf] at cf
  clear hf hR
  go_wp2_with (first
   | (refine wpList_loadBig (by rfl) _ 54 (by rfl) Try.underlying54 (ndL y) (by kernel_rfl) (by rfl) (gn1) (nd_val y) ?_)
   | (go_at_call 65;(with_reducible refine (cf _).mono ?_);rintro _ W2 ⟨rfl,hb1⟩;replace HB:=later HB hb1;replace XN:=XN.keeps hb1;clear hb1 x0 x1 x2 x3 x4 x5 x6 x7;obtain⟨x0,x1,x2,x3,x4,x5,x6,x7⟩:=XN.nd.cells;rw [hia.out] at x1;rw [hib.out] at x2))
  go_ret
  exact⟨rlAns_nil _,HB⟩
 | false =>
  rw [hf] at cf
  have hR2:Hid ((if frB z then some [] else T.map fun Y=>[Y])=R):=by have q:=hR.out;rw [hf] at q;exact q
  clear hf hR
  cases hg:frB z with
  | true =>
   have eR:R=some []:=by have q:=hR2.out;rw [hg] at q;exact q.symm
   subst eR
   rw [hg] at cg
   clear hg hR2
   go_wp2_with (first
    | (refine wpList_loadBig (by rfl) _ 54 (by rfl) Try.underlying54 (ndL y) (by kernel_rfl) (by rfl) (gn1) (nd_val y) ?_)
    | (refine wpList_loadBig (by rfl) _ 54 (by rfl) Try.underlying54 (ndL z) (by kernel_rfl) (by rfl) (fun j u hj=>keepsC HB (gm j u hj) ln) (nd_val z) ?_)
    | (go_at_call 65;(with_reducible refine (cf _).mono ?_);rintro _ W2 ⟨rfl,hb1⟩;replace HB:=later HB hb1;replace XN:=XN.keeps hb1;clear hb1 x0 x1 x2 x3 x4 x5 x6 x7;obtain⟨x0,x1,x2,x3,x4,x5,x6,x7⟩:=XN.nd.cells;rw [hia.out] at x1;rw [hib.out] at x2)
    | (go_at_call 65;(with_reducible refine (cg _).mono ?_);rintro _ W3 ⟨rfl,hb1⟩;replace HB:=later HB hb1;replace XN:=XN.keeps hb1;clear hb1 x0 x1 x2 x3 x4 x5 x6 x7;obtain⟨x0,x1,x2,x3,x4,x5,x6,x7⟩:=XN.nd.cells;rw [hia.out] at x1;rw [hib.out] at x2))
   go_ret
   exact⟨rlAns_nil _,HB⟩
  | false =>
   have hR3:Hid ((T.map fun Y=>[Y])=R):=by have q:=hR2.out;rw [hg] at q;exact q
   rw [hg] at cg
   clear hg hR2
   go_upto_region 5 with (first
    | (refine wpList_loadBig (by rfl) _ 54 (by rfl) Try.underlying54 (ndL y) (by kernel_rfl) (by rfl) (gn1) (nd_val y) ?_)
    | (refine wpList_loadBig (by rfl) _ 54 (by rfl) Try.underlying54 (ndL z) (by kernel_rfl) (by rfl) (fun j u hj=>keepsC HB (gm j u hj) ln) (nd_val z) ?_)
    | (go_at_call 65;(with_reducible refine (cf _).mono ?_);rintro _ W2 ⟨rfl,hb1⟩;replace HB:=later HB hb1;replace XN:=XN.keeps hb1;clear hb1 x0 x1 x2 x3 x4 x5 x6 x7;obtain⟨x0,x1,x2,x3,x4,x5,x6,x7⟩:=XN.nd.cells;rw [hia.out] at x1;rw [hib.out] at x2)
    | (go_at_call 65;(with_reducible refine (cg _).mono ?_);rintro _ W3 ⟨rfl,hb1⟩;replace HB:=later HB hb1;replace XN:=XN.keeps hb1;clear hb1 x0 x1 x2 x3 x4 x5 x6 x7;obtain⟨x0,x1,x2,x3,x4,x5,x6,x7⟩:=XN.nd.cells;rw [hia.out] at x1;rw [hib.out] at x2))
   have ga3:∀j u,(proL (Q ia).1 (.slice Aa (Q ia).2.length ca))[j]?=some u->W3.cell? ⟨b,o+ia*15+j,none⟩=some u:=fun j u hj=>keepsC HB (ga j u hj) la
   have gb3:∀j u,(proL (Q ib).1 (.slice Ab (Q ib).2.length cb))[j]?=some u->W3.cell? ⟨b,o+ib*15+j,none⟩=some u:=fun j u hj=>keepsC HB (gb j u hj) la
   have la3:b<W3.heap.size:=Nat.lt_of_lt_of_le la HB.size
   have k1:=fun n:Behind W3=>n.cell x1 XN.lt
   have k2:=fun n:Behind W3=>n.cell x2 XN.lt
   refine tail_behind 11 (by kernel_rfl) (by kernel_rfl) ?_
   simp only [List.take_succ_cons,List.take_zero,List.drop_succ_cons,List.drop_zero]
   repeat (first
    | (go_big_quiet_want;refine quiet_loadBig _ 79 (by rfl) Try.underlying79 (proL (Q ia).1 (.slice Aa (Q ia).2.length ca)) (by kernel_rfl) (by rfl) (fun W hW j u hj=>by obtain⟨n,rfl⟩:=hW;exact keepsC n.bel (ga3 j u hj) la3) (pro_val (Q ia).1 (.slice Aa (Q ia).2.length ca)) ?_;simp only [Act.put,List.setIfInBounds_toArray,List.set_cons_zero,List.set_cons_succ];go_big_quiet_on)
    | (go_big_quiet_want;refine quiet_loadBig _ 79 (by rfl) Try.underlying79 (proL (Q ib).1 (.slice Ab (Q ib).2.length cb)) (by kernel_rfl) (by rfl) (fun W hW j u hj=>by obtain⟨n,rfl⟩:=hW;exact keepsC n.bel (gb3 j u hj) la3) (pro_val (Q ib).1 (.slice Ab (Q ib).2.length cb)) ?_;simp only [Act.put,List.setIfInBounds_toArray,List.set_cons_zero,List.set_cons_succ];go_big_quiet_on)
    | (go_big_quiet_step (first | (go_at_call 56;with_reducible refine Behind.call (cw _)))))
   refine wpQuiet_nil ?_
   rintro _ ⟨q,rfl⟩
   obtain⟨W,hb1⟩:=q
   dsimp only
   clear k1 k2 x0 x1 x2 x3 x4 x5 x6 x7
   replace HB:=later HB hb1
   clear hb1
   cases T with
   | none =>
    have eR:Hid (R=none):=hR3.out.symm
    go_wp2_with (first
     | (go_at_call 57;(with_reducible refine (ct _ (f1.keep HB) (f2.keep HB)).mono ?_);rintro r W2 ⟨hM,hb2⟩;have hr:=hM.no;subst hr;exact⟨rfl,Or.inr ⟨eR.out,rfl⟩,later HB hb2⟩))
   | some Y =>
    have eR:R=some [Y]:=hR3.out.symm
    subst eR
    go_wp2_with (first
     | (go_at_call 57;(with_reducible refine (ct _ (f1.keep HB) (f2.keep HB)).mono ?_);rintro r W5 ⟨hM,hb2⟩;obtain⟨s,hr,A9,c9,rfl,hc9,fa9⟩:=hM.yes;replace hr:r=.returned (.agg #[.int .i64 (Y.1 0).1,.int .i64 (Y.1 0).2,.int .i64 (Y.1 1).1,.int .i64 (Y.1 1).2,.int .i64 (Y.1 2).1,.int .i64 (Y.1 2).2,.int .i64 (Y.1 3).1,.int .i64 (Y.1 3).2,.int .i64 (Y.1 4).1,.int .i64 (Y.1 4).2,.int .i64 (Y.1 5).1,.int .i64 (Y.1 5).2,.int .i64 (Y.1 6).1,.int .i64 (Y.1 6).2,.slice A9 Y.2.length c9]):=hr;subst hr;have fl:FSl W5 (.slice A9 Y.2.length c9) Y.2:=⟨A9,c9,rfl,hc9,fa9⟩;replace HB:=later HB hb2;clear hb2 hM))
    go_ret
    have fl2:=FSl.keep fl (Below.alloc (Below.refl _ _) (Nat.le_refl _) (.cells (proL Y.1 (.slice A9 Y.2.length c9)).toArray 79))
    refine⟨Or.inl ⟨[(Y,.slice A9 Y.2.length c9)],_,_,rfl,rfl,fun y hy=>?_,fun _=>⟨_,rfl, ?_⟩⟩,Below.alloc HB HB.size _⟩
    ·rw [List.mem_singleton.1 hy];exact fl2
    ·exact blk_new _ _ _
set_option maxRecDepth 4000 in
set_option maxHeartbeats 4000000 in
theorem urule_sub (x:Nd) (AN:Option Addr) (nn CN:Nat) (AP:Option Addr) (np CP:Nat) (hh:Hid (x.k=4)) (X:Nat->Nd) (K:Nat->Prop) (Q:Nat->Pro) (ia:Nat) (hia:Hid (x.a=(ia:Int))) (hKa:K ia) (hna:ia<np) (ib:Nat) (hib:Hid (x.b=(ib:Int))) (hKb:K ib) (hnb:ib<np) (hia2:ia<nn) (hib2:ib<nn) (V:Int) (hV:0<=V/\V<=500) (pa:POk V (Q ia)) (pb:POk V (Q ib)) (w:World) (VN:Nds w AN nn X) (VP:PrsAt w AP K Q) :
  Calls Try.prog 39 #[x.val,.slice AN nn CN,.slice AP np CP] w fun r w'=>RlAns r w' (if frB (X ia) then some [] else if frB (X ib) then some [] else (timesP (Q ia) (Q ib) (-1,1)).map fun Y=>[Y])/\Below w.heap.size w w':=by
 obtain⟨bn,on,eN,ln,gn⟩:=VN ia hia2
 subst eN
 have gm:=(VN.at hib2).2
 obtain⟨y,hy⟩:∃y,y=X ia:=⟨_,rfl⟩
 obtain⟨z,hz⟩:∃z,z=X ib:=⟨_,rfl⟩
 rw [<-hy] at gn ⊢
 rw [<-hz] at gm ⊢
 have cf:=fun W=>uisFree_w y W
 have cg:=fun W=>uisFree_w z W
 have hl1:=pa.s.length hV.1
 have hl2:=pb.s.length hV.1
 have cw:=fun W=>uwhole_w (-1) W
 obtain⟨b,o,Aa,ca,eA,la,hca,fa,ga⟩:=VP ia hKa
 subst eA
 obtain⟨Ab,cb,lb,hcb,fb,gb⟩:=VP.at hKb
 have ct:=fun W f1 f2=>uptimes_w (Q ia).1 (Q ib).1 (Q ia).2 (Q ib).2 (.slice Aa (Q ia).2.length ca) (.slice Ab (Q ib).2.length cb) (-1,1) pa.d pb.d pa.r pb.r (rok_one (by constructor <;> decide) (by decide)) pa.f pb.f (by omega) W f1 f2
 obtain⟨T,hT⟩:∃T,Hid (timesP (Q ia) (Q ib) (-1,1)=T):=⟨_,rfl⟩
 have hT2:=hT.out
 rw [hT2] at ct ⊢
 have f1:=(show FSl w (.slice Aa (Q ia).2.length ca) (Q ia).2 from ⟨Aa,ca,rfl,hca,fa⟩)
 have f2:=(show FSl w (.slice Ab (Q ib).2.length cb) (Q ib).2 from ⟨Ab,cb,rfl,hcb,fb⟩)
 obtain⟨R,hR⟩:∃R,Hid ((if frB y then some [] else if frB z then some [] else T.map fun Y=>[Y])=R):=⟨_,rfl⟩
 rw [hR.out]
 clear pa pb hl1 hl2 hT hT2 hV hy hz
 show Calls Try.prog _ #[.agg #[.int .i64 x.k,.int .i64 x.a,.int .i64 x.b,.int .i64 x.n,.int .i64 x.q,.int .i64 x.p,.int .i64 x.v,.int .i64 x.d,.int .i64 (x.E 0).1,.int .i64 (x.E 0).2,.int .i64 (x.E 1).1,.int .i64 (x.E 1).2,.int .i64 (x.E 2).1,.int .i64 (x.E 2).2,.int .i64 (x.E 3).1,.int .i64 (x.E 3).2,.int .i64 (x.E 4).1,.int .i64 (x.E 4).2,.int .i64 (x.E 5).1,.int .i64 (x.E 5).2,.int .i64 (x.E 6).1,.int .i64 (x.E 6).2],_,_] w _
 obtain⟨XN,HB⟩:=blks1 w 54 [.int .i64 x.k,.int .i64 x.a,.int .i64 x.b,.int .i64 x.n,.int .i64 x.q,.int .i64 x.p,.int .i64 x.v,.int .i64 x.d,.int .i64 (x.E 0).1,.int .i64 (x.E 0).2,.int .i64 (x.E 1).1,.int .i64 (x.E 1).2,.int .i64 (x.E 2).1,.int .i64 (x.E 2).2,.int .i64 (x.E 3).1,.int .i64 (x.E 3).2,.int .i64 (x.E 4).1,.int .i64 (x.E 4).2,.int .i64 (x.E 5).1,.int .i64 (x.E 5).2,.int .i64 (x.E 6).1,.int .i64 (x.E 6).2]
 go_enter Try.func39,Try.ntmps39
 go_upto_region 1 with fail
 generalize (w.alloc (.cells #[.int .i64 x.k,.int .i64 x.a,.int .i64 x.b,.int .i64 x.n,.int .i64 x.q,.int .i64 x.p,.int .i64 x.v,.int .i64 x.d,.int .i64 (x.E 0).1,.int .i64 (x.E 0).2,.int .i64 (x.E 1).1,.int .i64 (x.E 1).2,.int .i64 (x.E 2).1,.int .i64 (x.E 2).2,.int .i64 (x.E 3).1,.int .i64 (x.E 3).2,.int .i64 (x.E 4).1,.int .i64 (x.E 4).2,.int .i64 (x.E 5).1,.int .i64 (x.E 5).2,.int .i64 (x.E 6).1,.int .i64 (x.E 6).2] 54))=V1 at *
 obtain⟨x0,x1,x2,x3,x4,x5,x6,x7⟩:=XN.nd.cells
 rw [hh.out] at x0
 have ga1:∀j u,(proL (Q ia).1 (.slice Aa (Q ia).2.length ca))[j]?=some u->V1.cell? ⟨b,o+ia*15+j,none⟩=some u:=fun j u hj=>keepsC HB (ga j u hj) la
 have la1:b<V1.heap.size:=Nat.lt_of_lt_of_le la HB.size
 rw [hia.out] at x1
 have gb1:∀j u,(proL (Q ib).1 (.slice Ab (Q ib).2.length cb))[j]?=some u->V1.cell? ⟨b,o+ib*15+j,none⟩=some u:=fun j u hj=>keepsC HB (gb j u hj) la
 rw [hib.out] at x2
 have hna2:(ia:Int)<(np:Int):=by omega
 have hnb2:(ib:Int)<(np:Int):=by omega
 have hia3:(ia:Int)<(nn:Int):=by omega
 have hib3:(ib:Int)<(nn:Int):=by omega
 have gn1:∀j u,(ndL y)[j]?=some u->V1.cell? ⟨bn,on+ia*22+j,none⟩=some u:=fun j u hj=>keepsC HB (gn j u hj) ln
 have hln:bn<w.heap.size:=ln
 cases hf:frB y with
 | true =>
  have eR:R=some []:=by have q:=hR.out;rw [hf] at q;exact q.symm
  subst eR
  rw [hf] at cf
  clear hf hR
  go_wp2_with (first
   | (refine wpList_loadBig (by rfl) _ 54 (by rfl) Try.underlying54 (ndL y) (by kernel_rfl) (by rfl) (gn1) (nd_val y) ?_)
   | (go_at_call 65;(with_reducible refine (cf _).mono ?_);rintro _ W2 ⟨rfl,hb1⟩;replace HB:=later HB hb1;replace XN:=XN.keeps hb1;clear hb1 x0 x1 x2 x3 x4 x5 x6 x7;obtain⟨x0,x1,x2,x3,x4,x5,x6,x7⟩:=XN.nd.cells;rw [hia.out] at x1;rw [hib.out] at x2))
  go_ret
  exact⟨rlAns_nil _,HB⟩
 | false =>
  rw [hf] at cf
  have hR2:Hid ((if frB z then some [] else T.map fun Y=>[Y])=R):=by have q:=hR.out;rw [hf] at q;exact q
  clear hf hR
  cases hg:frB z with
  | true =>
   have eR:R=some []:=by have q:=hR2.out;rw [hg] at q;exact q.symm
   subst eR
   rw [hg] at cg
   clear hg hR2
   go_wp2_with (first
    | (refine wpList_loadBig (by rfl) _ 54 (by rfl) Try.underlying54 (ndL y) (by kernel_rfl) (by rfl) (gn1) (nd_val y) ?_)
    | (refine wpList_loadBig (by rfl) _ 54 (by rfl) Try.underlying54 (ndL z) (by kernel_rfl) (by rfl) (fun j u hj=>keepsC HB (gm j u hj) ln) (nd_val z) ?_)
    | (go_at_call 65;(with_reducible refine (cf _).mono ?_);rintro _ W2 ⟨rfl,hb1⟩;replace HB:=later HB hb1;replace XN:=XN.keeps hb1;clear hb1 x0 x1 x2 x3 x4 x5 x6 x7;obtain⟨x0,x1,x2,x3,x4,x5,x6,x7⟩:=XN.nd.cells;rw [hia.out] at x1;rw [hib.out] at x2)
    | (go_at_call 65;(with_reducible refine (cg _).mono ?_);rintro _ W3 ⟨rfl,hb1⟩;replace HB:=later HB hb1;replace XN:=XN.keeps hb1;clear hb1 x0 x1 x2 x3 x4 x5 x6 x7;obtain⟨x0,x1,x2,x3,x4,x5,x6,x7⟩:=XN.nd.cells;rw [hia.out] at x1;rw [hib.out] at x2))
   go_ret
   exact⟨rlAns_nil _,HB⟩
  | false =>
   have hR3:Hid ((T.map fun Y=>[Y])=R):=by have q:=hR2.out;rw [hg] at q;exact q
   rw [hg] at cg
   clear hg hR2
   go_upto_region 5 with (first
    | (refine wpList_loadBig (by rfl) _ 54 (by rfl) Try.underlying54 (ndL y) (by kernel_rfl) (by rfl) (gn1) (nd_val y) ?_)
    | (refine wpList_loadBig (by rfl) _ 54 (by rfl) Try.underlying54 (ndL z) (by kernel_rfl) (by rfl) (fun j u hj=>keepsC HB (gm j u hj) ln) (nd_val z) ?_)
    | (go_at_call 65;(with_reducible refine (cf _).mono ?_);rintro _ W2 ⟨rfl,hb1⟩;replace HB:=later HB hb1;replace XN:=XN.keeps hb1;clear hb1 x0 x1 x2 x3 x4 x5 x6 x7;obtain⟨x0,x1,x2,x3,x4,x5,x6,x7⟩:=XN.nd.cells;rw [hia.out] at x1;rw [hib.out] at x2)
    | (go_at_call 65;(with_reducible refine (cg _).mono ?_);rintro _ W3 ⟨rfl,hb1⟩;replace HB:=later HB hb1;replace XN:=XN.keeps hb1;clear hb1 x0 x1 x2 x3 x4 x5 x6 x7;obtain⟨x0,x1,x2,x3,x4,x5,x6,x7⟩:=XN.nd.cells;rw [hia.out] at x1;rw [hib.out] at x2))
   have ga3:∀j u,(proL (Q ia).1 (.slice Aa (Q ia).2.length ca))[j]?=some u->W3.cell? ⟨b,o+ia*15+j,none⟩=some u:=fun j u hj=>keepsC HB (ga j u hj) la
   have gb3:∀j u,(proL (Q ib).1 (.slice Ab (Q ib).2.length cb))[j]?=some u->W3.cell? ⟨b,o+ib*15+j,none⟩=some u:=fun j u hj=>keepsC HB (gb j u hj) la
   have la3:b<W3.heap.size:=Nat.lt_of_lt_of_le la HB.size
   have k1:=fun n:Behind W3=>n.cell x1 XN.lt
   have k2:=fun n:Behind W3=>n.cell x2 XN.lt
   refine tail_behind 11 (by kernel_rfl) (by kernel_rfl) ?_
   simp only [List.take_succ_cons,List.take_zero,List.drop_succ_cons,List.drop_zero]
   repeat (first
    | (go_big_quiet_want;refine quiet_loadBig _ 79 (by rfl) Try.underlying79 (proL (Q ia).1 (.slice Aa (Q ia).2.length ca)) (by kernel_rfl) (by rfl) (fun W hW j u hj=>by obtain⟨n,rfl⟩:=hW;exact keepsC n.bel (ga3 j u hj) la3) (pro_val (Q ia).1 (.slice Aa (Q ia).2.length ca)) ?_;simp only [Act.put,List.setIfInBounds_toArray,List.set_cons_zero,List.set_cons_succ];go_big_quiet_on)
    | (go_big_quiet_want;refine quiet_loadBig _ 79 (by rfl) Try.underlying79 (proL (Q ib).1 (.slice Ab (Q ib).2.length cb)) (by kernel_rfl) (by rfl) (fun W hW j u hj=>by obtain⟨n,rfl⟩:=hW;exact keepsC n.bel (gb3 j u hj) la3) (pro_val (Q ib).1 (.slice Ab (Q ib).2.length cb)) ?_;simp only [Act.put,List.setIfInBounds_toArray,List.set_cons_zero,List.set_cons_succ];go_big_quiet_on)
    | (go_big_quiet_step (first | (go_at_call 56;with_reducible refine Behind.call (cw _)))))
   refine wpQuiet_nil ?_
   rintro _ ⟨q,rfl⟩
   obtain⟨W,hb1⟩:=q
   dsimp only
   clear k1 k2 x0 x1 x2 x3 x4 x5 x6 x7
   replace HB:=later HB hb1
   clear hb1
   cases T with
   | none =>
    have eR:Hid (R=none):=hR3.out.symm
    go_wp2_with (first
     | (go_at_call 57;(with_reducible refine (ct _ (f1.keep HB) (f2.keep HB)).mono ?_);rintro r W2 ⟨hM,hb2⟩;have hr:=hM.no;subst hr;exact⟨rfl,Or.inr ⟨eR.out,rfl⟩,later HB hb2⟩))
   | some Y =>
    have eR:R=some [Y]:=hR3.out.symm
    subst eR
    go_wp2_with (first
     | (go_at_call 57;(with_reducible refine (ct _ (f1.keep HB) (f2.keep HB)).mono ?_);rintro r W5 ⟨hM,hb2⟩;obtain⟨s,hr,A9,c9,rfl,hc9,fa9⟩:=hM.yes;replace hr:r=.returned (.agg #[.int .i64 (Y.1 0).1,.int .i64 (Y.1 0).2,.int .i64 (Y.1 1).1,.int .i64 (Y.1 1).2,.int .i64 (Y.1 2).1,.int .i64 (Y.1 2).2,.int .i64 (Y.1 3).1,.int .i64 (Y.1 3).2,.int .i64 (Y.1 4).1,.int .i64 (Y.1 4).2,.int .i64 (Y.1 5).1,.int .i64 (Y.1 5).2,.int .i64 (Y.1 6).1,.int .i64 (Y.1 6).2,.slice A9 Y.2.length c9]):=hr;subst hr;have fl:FSl W5 (.slice A9 Y.2.length c9) Y.2:=⟨A9,c9,rfl,hc9,fa9⟩;replace HB:=later HB hb2;clear hb2 hM))
    go_ret
    have fl2:=FSl.keep fl (Below.alloc (Below.refl _ _) (Nat.le_refl _) (.cells (proL Y.1 (.slice A9 Y.2.length c9)).toArray 79))
    refine⟨Or.inl ⟨[(Y,.slice A9 Y.2.length c9)],_,_,rfl,rfl,fun y hy=>?_,fun _=>⟨_,rfl, ?_⟩⟩,Below.alloc HB HB.size _⟩
    ·rw [List.mem_singleton.1 hy];exact fl2
    ·exact blk_new _ _ _
end Go.Proofs.Ytbejmklkicoibaa
