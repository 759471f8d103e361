/- unit.kept.told: what an own unknown must be. Kept rules in a slice that grows; dimensions in a block that is written piece by piece. -/
import Derived.Test.YtbejmklkicoibaaKe28
namespace Go.Proofs.Ytbejmklkicoibaa
open Go.ChangeShapes Go.WideShapes Go.ChangeAt Go.RowKit
def DmAns (r:Ending) (R:Option (Nat->Int×Int)):Prop:=(∃E,R=some E/\r=.returned (dimV E))\/(R=none/\r=.panicked (stopP 3))
theorem DmAns.yes {r:Ending} {E:Nat->Int×Int} (h:DmAns r (some E)):r=.returned (.agg #[.int .i64 (E 0).1,.int .i64 (E 0).2,.int .i64 (E 1).1,.int .i64 (E 1).2,.int .i64 (E 2).1,.int .i64 (E 2).2,.int .i64 (E 3).1,.int .i64 (E 3).2,.int .i64 (E 4).1,.int .i64 (E 4).2,.int .i64 (E 5).1,.int .i64 (E 5).2,.int .i64 (E 6).1,.int .i64 (E 6).2]):=by
 rcases h with ⟨E2,e,hr⟩ | ⟨e,_⟩
 ·cases e;exact hr
 ·cases e
theorem DmAns.no {r:Ending} (h:DmAns r none):r=.panicked (stopP 3):=by
 rcases h with ⟨_,e,_⟩ | ⟨_,hr⟩
 ·cases e
 ·exact hr
theorem BlkAt.kdim {w:World} {g:Nat} {T:TypeId} {o:Int} {E:Nat->Int×Int} {s:Value} (h:BlkAt w g T (kepL o E s)):∀j v,(dimL E)[j]?=some v->w.cell? ⟨g,1+j,none⟩=some v:=fun j v hj=>by
 have q:=h.cell0 (1+j) v (by rw [Nat.add_comm];exact proL_dim (s:=s) j v hj)
 rw [Nat.zero_add] at q
 exact q
theorem utimesO_w (A B:Nat->Int×Int) (p:Int×Int) (hA:Dim64 A) (hB:Dim64 B) (rA:drK A 7=true) (rB:drK B 7=true) (hp:ROk p) (w:World) :
  Calls Try.prog 62 #[.agg #[.int .i64 (A 0).1,.int .i64 (A 0).2,.int .i64 (A 1).1,.int .i64 (A 1).2,.int .i64 (A 2).1,.int .i64 (A 2).2,.int .i64 (A 3).1,.int .i64 (A 3).2,.int .i64 (A 4).1,.int .i64 (A 4).2,.int .i64 (A 5).1,.int .i64 (A 5).2,.int .i64 (A 6).1,.int .i64 (A 6).2],.agg #[.int .i64 (B 0).1,.int .i64 (B 0).2,.int .i64 (B 1).1,.int .i64 (B 1).2,.int .i64 (B 2).1,.int .i64 (B 2).2,.int .i64 (B 3).1,.int .i64 (B 3).2,.int .i64 (B 4).1,.int .i64 (B 4).2,.int .i64 (B 5).1,.int .i64 (B 5).2,.int .i64 (B 6).1,.int .i64 (B 6).2],.agg #[.int .i64 p.1,.int .i64 p.2]] w fun r w'=>DmAns r (if tmF A B p.1 p.2 7=0 then some (tmD A B p.1 p.2 7) else none)/\Below w.heap.size w w':=by
 refine (utimes_w A B p.1 p.2 hA hB hp.2 rA rB hp.1 w).mono ?_
 rintro r w' ⟨rfl,hb⟩
 refine⟨?_,hb⟩
 by_cases z:tmF A B p.1 p.2 7=0
 ·rw [if_pos z,if_pos z];exact Or.inl ⟨_,rfl,rfl⟩
 ·rw [if_neg z,if_neg z,(tmF_err rA rB hp.1 7 (Nat.le_refl _)).resolve_left z];exact Or.inr ⟨rfl,rfl⟩
set_option maxRecDepth 4000 in
set_option maxHeartbeats 8000000 in
theorem utold_w (k:Int×Pro) (s:Value) (V:Int) (hk:POk V k.2) (hV:0<=V/\V<=500) (dA:Option Addr) (n dC:Nat) (D:Nat->Nat->Int×Int) (hn:V=(n:Int)) (hD:∀v:Nat,v<n->Dim64 (D v)/\drK (D v) 7=true) (w:World) (fs:FSl w s k.2.2) (VD:Dms w dA n D) :
  Calls Try.prog 37 #[kepV k.1 k.2.1 s,.slice dA n dC] w fun r w'=>DmAns r (toldF D k)/\Below w.heap.size w w':=by
 obtain⟨R,hRR⟩:∃R,Hid (toldF D k=R):=⟨_,rfl⟩
 rw [hRR.out]
 have cp:∀W,Calls Try.prog 40 #[] W fun r w'=>r=.returned (.agg #[.int .i64 (plE 0).1,.int .i64 (plE 0).2,.int .i64 (plE 1).1,.int .i64 (plE 1).2,.int .i64 (plE 2).1,.int .i64 (plE 2).2,.int .i64 (plE 3).1,.int .i64 (plE 3).2,.int .i64 (plE 4).1,.int .i64 (plE 4).2,.int .i64 (plE 5).1,.int .i64 (plE 5).2,.int .i64 (plE 6).1,.int .i64 (plE 6).2])/\Below W.heap.size W w':=fun W=>uplain_w W
 have cw:=fun W=>uwhole_w (-1) W
 have HP:Hid (POk V k.2):=hk
 have HD:Hid (∀v:Nat,v<n->Dim64 (D v)/\drK (D v) 7=true):=hD
 have HN:Hid (V=(n:Int)/\0<=V/\V<=500):=⟨hn,hV⟩
 obtain⟨As,cs,rfl,hcs,fas⟩:=fs
 obtain⟨m,hm⟩:∃m,Hid (m=k.2.2.length):=⟨_,rfl⟩
 rw [<-hm.out] at hcs ⊢
 have hm5:m<=1000:=by have:=hm.out;have:=hk.s.length hV.1;omega
 have hn5:n<=1000:=by omega
 clear hk hD hn hV hcs
 replace hRR:Hid (((toldS D k.1 k.2.2 k.2.1).bind fun E=>if tmF plE E (-1) 1 7=0 then some (tmD plE E (-1) 1 7) else none)=R):=hRR
 show Calls Try.prog _ #[.agg #[.int .i64 k.1,.int .i64 (k.2.1 0).1,.int .i64 (k.2.1 0).2,.int .i64 (k.2.1 1).1,.int .i64 (k.2.1 1).2,.int .i64 (k.2.1 2).1,.int .i64 (k.2.1 2).2,.int .i64 (k.2.1 3).1,.int .i64 (k.2.1 3).2,.int .i64 (k.2.1 4).1,.int .i64 (k.2.1 4).2,.int .i64 (k.2.1 5).1,.int .i64 (k.2.1 5).2,.int .i64 (k.2.1 6).1,.int .i64 (k.2.1 6).2,.slice As m cs],_] w _
 obtain⟨XB,RB,HB⟩:=blks2 w 82 30 [.int .i64 k.1,.int .i64 (k.2.1 0).1,.int .i64 (k.2.1 0).2,.int .i64 (k.2.1 1).1,.int .i64 (k.2.1 1).2,.int .i64 (k.2.1 2).1,.int .i64 (k.2.1 2).2,.int .i64 (k.2.1 3).1,.int .i64 (k.2.1 3).2,.int .i64 (k.2.1 4).1,.int .i64 (k.2.1 4).2,.int .i64 (k.2.1 5).1,.int .i64 (k.2.1 5).2,.int .i64 (k.2.1 6).1,.int .i64 (k.2.1 6).2,.slice As m cs] [.int .i64 0,.int .i64 0,.int .i64 0,.int .i64 0,.int .i64 0,.int .i64 0,.int .i64 0,.int .i64 0,.int .i64 0,.int .i64 0,.int .i64 0,.int .i64 0,.int .i64 0,.int .i64 0]
 go_enter Try.func37,Try.ntmps37
 go_upto_region 1 with fail
 generalize ((w.alloc (.cells #[.int .i64 k.1,.int .i64 (k.2.1 0).1,.int .i64 (k.2.1 0).2,.int .i64 (k.2.1 1).1,.int .i64 (k.2.1 1).2,.int .i64 (k.2.1 2).1,.int .i64 (k.2.1 2).2,.int .i64 (k.2.1 3).1,.int .i64 (k.2.1 3).2,.int .i64 (k.2.1 4).1,.int .i64 (k.2.1 4).2,.int .i64 (k.2.1 5).1,.int .i64 (k.2.1 5).2,.int .i64 (k.2.1 6).1,.int .i64 (k.2.1 6).2,.slice As m cs] 82)).alloc (.cells #[.int .i64 0,.int .i64 0,.int .i64 0,.int .i64 0,.int .i64 0,.int .i64 0,.int .i64 0,.int .i64 0,.int .i64 0,.int .i64 0,.int .i64 0,.int .i64 0,.int .i64 0,.int .i64 0] 30))=V1 at *
 have x0:=XB.cell 0 _ rfl
 have x15:=XB.cell 15 _ rfl
 go_upto_region 2 with (first
  | (refine wpList_loadBig (by rfl) _ 30 (by rfl) Try.underlying30 (dimL k.2.1) (by kernel_rfl) (by rfl) ((fun j c hj=>by have q:=XB.kdim j c hj;exact q)) (dim_val k.2.1) ?_)
  | (refine wpList_storeBig (by rfl) _ _ 30 (by rfl) (blk_new _ _ _) (dimL k.2.1) (by kernel_rfl) (by rfl) (by rfl) (by rfl) (by rfl) ?_;rintro V2 XR hs2 hB2 hk2))
 have SX:=XR
 have hsb:w.heap.size+1<V1.heap.size:=RB.lt
 have GA:=Below.alloc (Below.refl V1.heap.size V1) (Nat.le_refl _) (.cells #[.int .i64 0,.int .i64 0,.int .i64 0,.int .i64 0,.int .i64 0,.int .i64 0,.int .i64 0,.int .i64 0,.int .i64 0,.int .i64 0,.int .i64 0,.int .i64 0,.int .i64 0,.int .i64 0] 30)
 replace XB:=hk2 _ _ _ (by omega) (XB.keeps GA)
 replace RB:=hk2 _ _ _ (by omega) (RB.keeps GA)
 replace HB:=hB2 _ _ (Below.alloc HB HB.size _) HB.size
 obtain⟨sb,hsb2⟩:∃sb,sb=V1.heap.size:=⟨_,rfl⟩
 rw [<-hsb2] at SX hsb ⊢
 clear XR hB2 hk2 hs2 hsb2 GA x0 x15
 try simp only [Act.put]
 have x15:=XB.cell 15 _ rfl
 go_wp2_with fail
 clear x15
 go_loopg [15] m (fun G s15 wx=>∃(i:Nat) (E:Nat->Int×Int),i+G=m/\s15=.int .i64 (i:Int)/\Hid (((toldS D k.1 (k.2.2.drop i) E).bind fun E=>if tmF plE E (-1) 1 7=0 then some (tmD plE E (-1) 1 7) else none)=R)/\Hid (Dim64 E/\drK E 7=true)/\Below w.heap.size w wx/\BlkAt wx w.heap.size 82 (kepL k.1 k.2.1 (.slice As m cs))/\BlkAt wx (w.heap.size+1) 30 [.int .i64 0,.int .i64 0,.int .i64 0,.int .i64 0,.int .i64 0,.int .i64 0,.int .i64 0,.int .i64 0,.int .i64 0,.int .i64 0,.int .i64 0,.int .i64 0,.int .i64 0,.int .i64 0]/\BlkAt wx sb 30 (dimL E))
 case atStart=>exact⟨0,k.2.1,by omega,rfl,by rw [List.drop_zero];exact hRR,⟨HP.out.d,HP.out.r⟩,HB,XB,RB,SX⟩
 case round =>
  clear HB XB RB SX hRR
  obtain⟨i,E,hi,rfl,hF,hE,HB,XB,RB,SX⟩:=hrel
  by_cases ci:i=m
  ·have hF2:Hid ((if tmF plE E (-1) 1 7=0 then some (tmD plE E (-1) 1 7) else none)=R):=by
    have q:=hF.out
    rw [List.drop_of_length_le (by have:=hm.out;omega)] at q
    exact q
   have ct:=fun W=>utimesO_w plE E (-1,1) plE_ok.1 hE.out.1 plE_ok.2 hE.out.2 rok_mone W
   dsimp only at ct
   rw [hF2.out] at ct
   clear hF hF2
   subst ci
   go_upto_region 8 with fail
   refine tail_behind 3 (by kernel_rfl) (by kernel_rfl) ?_
   simp only [List.take_succ_cons,List.take_zero,List.drop_succ_cons,List.drop_zero]
   repeat (first
    | (go_big_quiet_want;refine quiet_loadBig _ 30 (by rfl) Try.underlying30 (dimL E) (by kernel_rfl) (by rfl) (SX.behind) (dim_valU E) ?_;simp only [Act.put,List.setIfInBounds_toArray,List.set_cons_zero,List.set_cons_succ];go_big_quiet_on)
    | (go_big_quiet_step (first | (go_at_call 40;with_reducible refine Behind.call (cp _)) | (go_at_call 56;with_reducible refine Behind.call (cw _)))))
   refine wpQuiet_nil ?_
   rintro _ ⟨q,rfl⟩
   obtain⟨W,hb1⟩:=q
   dsimp only
   clear cp cw
   replace HB:=later HB hb1
   replace RB:=RB.keeps hb1
   clear hb1 XB SX
   cases R with
   | none =>
    go_wp2_with (go_at_call 62;(with_reducible refine (ct _).mono ?_);rintro r W2 ⟨hM,hb2⟩;have hr:=hM.no;subst hr;exact⟨rfl,Or.inr ⟨rfl,rfl⟩,later HB hb2⟩)
   | some Z =>
    go_wp2_with (first
     | (go_at_call 62;(with_reducible refine (ct _).mono ?_);rintro r W5 ⟨hM,hb2⟩;have hr:=hM.yes;subst hr;replace HB:=later HB hb2;replace RB:=RB.keeps hb2;clear hb2 hM)
     | (refine wpList_storeBig (by rfl) _ _ 30 (by rfl) (RB) (dimL Z) (by kernel_rfl) (by rfl) (by rfl) (by rfl) (by rfl) ?_;rintro V9 XR hs2 hB2 hk2))
    exact bodyPost_ret (v:=dimV Z) (results_cell_row Try.results37 _ V9 (w.heap.size+1) 30 (dimL Z).toArray (0,0) _ (by rfl) XR Try.underlying30 (by rfl) (by kernel_rfl)) rfl ⟨Or.inl ⟨Z,rfl,rfl⟩,hB2 _ _ HB (by omega)⟩
  ·have hin:i<k.2.2.length:=by have:=hm.out;omega
   obtain⟨f,hf⟩:∃f,k.2.2[i]?=some f:=⟨_,List.getElem?_eq_getElem hin⟩
   have hdr:k.2.2.drop i=f :: k.2.2.drop (i+1):=by
    have e:=List.getElem?_eq_getElem hin
    rw [hf] at e
    rw [List.drop_eq_getElem_cons hin,<-Option.some.inj e]
   obtain⟨u,e⟩:=f
   have hu:=rise_from HP.out.s i (u,e) hf
   obtain⟨t,rfl⟩:∃t:Nat,u=(t:Int):=⟨u.toNat,by have h0:0<=u:=hu.1;omega⟩
   have htn:t<n:=by have h1:(t:Int)<V:=hu.2;have:=HN.out;omega
   have e0:((t:Int)).toNat=t:=by omega
   have hro:ROk e:=HP.out.f ((t:Int),e) (List.mem_of_getElem? hf)
   have hF2:Hid ((((if (t:Int)=k.1 then toldS D k.1 (k.2.2.drop (i+1)) E else if tmF E (D t) e.1 e.2 7=0 then toldS D k.1 (k.2.2.drop (i+1)) (tmD E (D t) e.1 e.2 7) else none)).bind fun E=>if tmF plE E (-1) 1 7=0 then some (tmD plE E (-1) 1 7) else none)=R):=by
    have q:=hF.out
    rw [hdr,toldS] at q
    dsimp only at q
    rw [e0] at q
    exact q
   obtain⟨fb0,fo0,hA,lf,f0,f1,f2⟩:=(fas.keep HB).at hf
   obtain⟨hD1,hD2⟩:=HD.out t htn
   obtain⟨b0,o0,hA0,l0,g0⟩:=VD t htn
   have ct:=fun W=>utimesO_w E (D t) e hE.out.1 hD1 hE.out.2 hD2 hro W
   have HT:Hid (tmF E (D t) e.1 e.2 7=0->Dim64 (tmD E (D t) e.1 e.2 7)/\drK (tmD E (D t) e.1 e.2 7) 7=true):=fun z=>by
    obtain⟨a1,a2, -⟩:=tm_ok (p:=e) hE.out.2 hD2 hro z
    exact⟨a1,a2⟩
   replace g0:Hid (∀j c,(dimL (D t))[j]?=some c->w.cell? ⟨b0,o0+t*14+j,none⟩=some c):=g0
   replace hf:Hid (k.2.2[i]?=some ((t:Int),e)):=hf
   subst hA
   have hlt:(i:Int)<(m:Int):=by omega
   dsimp only at f0 f1 f2
   clear hF hdr hu hro hD1 hD2 hin e0
   go_upto_region 5 with (first
    | (refine wpList_storeBig (by rfl) _ _ 104 (by rfl) (blk_new _ _ _) ([.int .i64 (t:Int),.int .i64 e.1,.int .i64 e.2]) (by kernel_rfl) (by rfl) (by rfl) (by rfl) (by rfl) ?_;rintro V2 XR hs2 hB2 hk2))
   have XF:=XR
   have hfb:sb<wr.heap.size:=SX.lt
   have GA:=Below.alloc (Below.refl wr.heap.size wr) (Nat.le_refl _) (.cells #[.int .i64 0,.int .i64 0,.int .i64 0] 104)
   replace XB:=hk2 _ _ _ (by omega) (XB.keeps GA)
   replace RB:=hk2 _ _ _ (by omega) (RB.keeps GA)
   replace SX:=hk2 _ _ _ (by omega) (SX.keeps GA)
   replace HB:=hB2 _ _ (Below.alloc HB HB.size _) HB.size
   obtain⟨fb,hfb2⟩:∃fb,fb=wr.heap.size:=⟨_,rfl⟩
   rw [<-hfb2] at XF hfb ⊢
   clear XR hB2 hk2 hs2 hfb2 GA f0 f1 f2 lf
   try simp only [Act.put]
   have x0:=XB.cell 0 _ rfl
   have y0:=XF.cell 0 _ rfl
   by_cases c:(t:Int)=k.1
   ·have hF3:Hid (((toldS D k.1 (k.2.2.drop (i+1)) E).bind fun E=>if tmF plE E (-1) 1 7=0 then some (tmD plE E (-1) 1 7) else none)=R):=by
     have q:=hF2.out
     rw [if_pos c] at q
     exact q
    have c':((t:Int)==k.1)=true:=by rw [c];exact beq_self_eq_true _
    have c2:((t:Int) != k.1)=false:=by rw [c];exact bne_self_eq_false _
    replace c:Hid ((t:Int)=k.1):=c
    clear hF2
    go_wp2_with fail
    go_roundg (m-i-1)
    case measure=>omega
    case rel=>exact⟨i+1,E,by omega,by go_num,hF3,hE,HB,XB,RB,SX⟩
   ·have hF3:Hid (((if tmF E (D t) e.1 e.2 7=0 then some (tmD E (D t) e.1 e.2 7) else none).bind fun X=>(toldS D k.1 (k.2.2.drop (i+1)) X).bind fun E=>if tmF plE E (-1) 1 7=0 then some (tmD plE E (-1) 1 7) else none)=R):=by
     have q:=hF2.out
     rw [if_neg c] at q
     by_cases z:tmF E (D t) e.1 e.2 7=0
     ·rw [if_pos z] at q ⊢;exact q
     ·rw [if_neg z] at q ⊢;exact q
    have HT2:Hid (∀X,(if tmF E (D t) e.1 e.2 7=0 then some (tmD E (D t) e.1 e.2 7) else none)=some X->Dim64 X/\drK X 7=true):=fun X hX=>by
     by_cases z:tmF E (D t) e.1 e.2 7=0
     ·rw [if_pos z] at hX;rw [<-Option.some.inj hX];exact HT.out z
     ·rw [if_neg z] at hX;cases hX
    obtain⟨T,hT⟩:∃T,Hid ((if tmF E (D t) e.1 e.2 7=0 then some (tmD E (D t) e.1 e.2 7) else none)=T):=⟨_,rfl⟩
    have ct2:∀W,Calls Try.prog 62 #[.agg #[.int .i64 (E 0).1,.int .i64 (E 0).2,.int .i64 (E 1).1,.int .i64 (E 1).2,.int .i64 (E 2).1,.int .i64 (E 2).2,.int .i64 (E 3).1,.int .i64 (E 3).2,.int .i64 (E 4).1,.int .i64 (E 4).2,.int .i64 (E 5).1,.int .i64 (E 5).2,.int .i64 (E 6).1,.int .i64 (E 6).2],.agg #[.int .i64 (D t 0).1,.int .i64 (D t 0).2,.int .i64 (D t 1).1,.int .i64 (D t 1).2,.int .i64 (D t 2).1,.int .i64 (D t 2).2,.int .i64 (D t 3).1,.int .i64 (D t 3).2,.int .i64 (D t 4).1,.int .i64 (D t 4).2,.int .i64 (D t 5).1,.int .i64 (D t 5).2,.int .i64 (D t 6).1,.int .i64 (D t 6).2],.agg #[.int .i64 e.1,.int .i64 e.2]] W fun r w'=>DmAns r T/\Below W.heap.size W w':=by
     rw [<-hT.out]
     exact ct
    rw [hT.out] at hF3 HT2
    have c':((t:Int)==k.1)=false:=beq_eq_false_iff_ne.2 c
    have c2:((t:Int) != k.1)=true:=bne_iff_ne.2 c
    clear hF2 HT ct hT
    subst hA0
    go_upto_region 6 with fail
    have ka:=fun n:Behind V2=>n.cell (XF.cell 0 _ rfl) XF.lt
    have kb:=fun n:Behind V2=>n.cell (XF.cell 1 _ rfl) XF.lt
    have kc:=fun n:Behind V2=>n.cell (XF.cell 2 _ rfl) XF.lt
    have htn2:(t:Int)<(n:Int):=by omega
    clear x0 y0
    refine tail_behind 8 (by kernel_rfl) (by kernel_rfl) ?_
    simp only [List.take_succ_cons,List.take_zero,List.drop_succ_cons,List.drop_zero]
    repeat (first
     | (go_big_quiet_want;refine quiet_loadBig _ 30 (by rfl) Try.underlying30 (dimL E) (by kernel_rfl) (by rfl) (SX.behind) (dim_valU E) ?_;simp only [Act.put,List.setIfInBounds_toArray,List.set_cons_zero,List.set_cons_succ];go_big_quiet_on)
     | (go_big_quiet_want;refine quiet_loadBig _ 30 (by rfl) Try.underlying30 (dimL (D t)) (by kernel_rfl) (by rfl) ((fun W hW j c hj=>by obtain⟨q,rfl⟩:=hW;exact keepsC (later HB q.bel) (g0.out j c hj) l0)) (dim_valU (D t)) ?_;simp only [Act.put,List.setIfInBounds_toArray,List.set_cons_zero,List.set_cons_succ];go_big_quiet_on)
     | (go_big_quiet_step (fail)))
    refine wpQuiet_nil ?_
    rintro _ ⟨q,rfl⟩
    obtain⟨W,hb1⟩:=q
    dsimp only
    clear ka kb kc
    replace HB:=later HB hb1
    replace RB:=RB.keeps hb1
    replace XB:=XB.keeps hb1
    replace SX:=SX.keeps hb1
    clear hb1 XF
    cases T with
    | none =>
     have eR:Hid (R=none):=hF3.out.symm
     go_wp2_with (go_at_call 62;(with_reducible refine (ct2 _).mono ?_);rintro r W2 ⟨hM,hb2⟩;have hr:=hM.no;subst hr;exact⟨rfl,Or.inr ⟨eR.out,rfl⟩,later HB hb2⟩)
    | some Z =>
     replace hF3:Hid (((toldS D k.1 (k.2.2.drop (i+1)) Z).bind fun E=>if tmF plE E (-1) 1 7=0 then some (tmD plE E (-1) 1 7) else none)=R):=hF3
     go_wp2_with (first
      | (go_at_call 62;(with_reducible refine (ct2 _).mono ?_);rintro r W5 ⟨hM,hb2⟩;have hr:=hM.yes;subst hr;replace HB:=later HB hb2;replace RB:=RB.keeps hb2;replace XB:=XB.keeps hb2;replace SX:=SX.keeps hb2;clear hb2 hM)
      | (refine wpList_storeBig (by rfl) _ _ 30 (by rfl) (SX) (dimL Z) (by kernel_rfl) (by rfl) (by rfl) (by rfl) (by rfl) ?_;rintro V9 XR hs2 hB2 hk2))
     replace RB:=hk2 _ _ _ (by omega) RB
     replace XB:=hk2 _ _ _ (by omega) XB
     replace HB:=hB2 _ _ HB (by omega)
     go_roundg (m-i-1)
     case measure=>omega
     case rel=>exact⟨i+1,Z,by omega,by go_num,hF3,HT2.out Z rfl,HB,XB,RB,XR⟩
def kepLs:List KV->List Value
 | []=>[]
 | x :: L=>kepL x.1.1 x.1.2.1 x.2++kepLs L
theorem kepL_len (o:Int) (E:Nat->Int×Int) (s:Value):(kepL o E s).length=16:=rfl
theorem kepLs_len:∀L,(kepLs L).length=L.length*16
 | []=>rfl
 | x :: L=>by simp only [kepLs,List.length_append,kepL_len,List.length_cons,kepLs_len L];omega
theorem kepLs_append:∀L M,kepLs (L++M)=kepLs L++kepLs M
 | [],_=>rfl
 | x :: L,M=>by simp only [List.cons_append,kepLs,kepLs_append L M,List.append_assoc]
theorem kepLs_at:∀(L:List KV) (i:Nat) (kv:KV),L[i]?=some kv->∀j u,(kepL kv.1.1 kv.1.2.1 kv.2)[j]?=some u->(kepLs L)[i*16+j]?=some u
 | [],i,kv,h,_,_,_=>by simp at h
 | x :: L,0,kv,h,j,u,hj=>by
  have e:x=kv:=by simpa using h
  subst e
  have hl:=(List.getElem?_eq_some_iff.1 hj).1
  rw [kepLs,Nat.zero_mul,Nat.zero_add,List.getElem?_append_left hl]
  exact hj
 | x :: L,i+1,kv,h,j,u,hj=>by
  rw [kepLs,List.getElem?_append_right (by rw [kepL_len];omega),kepL_len,show (i+1)*16+j-16=i*16+j by omega]
  exact kepLs_at L i kv (by simpa using h) j u hj
theorem kepLs_one {w:World}:∀L,KvOk w L->∀u,u∈kepLs L->u.oneCell'=true
 | [],_,u,h=>by cases h
 | x :: L,hp,u,h=>by
  simp only [kepLs,List.mem_append] at h
  rcases h with h | h
  ·obtain⟨A,c,e, -⟩:=hp x (List.mem_cons_self ..)
   rw [e] at h
   simp only [kepL,List.mem_cons,List.not_mem_nil,or_false] at h
   rcases h with h | h | h | h | h | h | h | h | h | h | h | h | h | h | h | h <;> rw [h] <;> rfl
  ·exact kepLs_one L (fun y hy=>hp y (List.mem_cons_of_mem _ hy)) u h
theorem kvOk_nil (w:World):KvOk w []:=fun x hx=>by cases hx
def OwnKw (B:Nat) (w:World) (v:Value) (L:List KV):Prop:=w.ownsRow B 82 16 v L.length (kepLs L)
theorem OwnKw.keep {B:Nat} {w w2:World} {v:Value} {L:List KV} (h:OwnKw B w v L) (hb:Below w.heap.size w w2):OwnKw B w2 v L:=own_keep h hb
theorem ownKw_nil (B:Nat) (w:World):OwnKw B w (.slice none 0 0) []:=⟨rfl,Or.inl ⟨rfl,rfl⟩⟩
theorem OwnKw.off {B:Nat} {w W:World} {v:Value} {L:List KV} (h:OwnKw B w v L) {g:Nat} {T:TypeId} {cs:List Value} (hg:BlkAt w g T cs) (hT:T≠82) (k:∀k Tk ck,g≠k->BlkAt w k Tk ck->BlkAt W k Tk ck):OwnKw B W v L:=by
 refine⟨h.1, ?_⟩
 rcases h.2 with hn | ⟨b,cap,cur,hv,hb2,hg2,rest⟩
 ·exact .inl hn
 ·refine .inr ⟨b,cap,cur,hv,hb2, ?_,rest⟩
  have ne:g≠b:=fun e=>by
   subst e
   have q:some (Obj.cells cs.toArray T (0,0))=some (Obj.cells cur 82 (0,0)):=hg.symm.trans hg2
   injection q with q
   injection q with _ q2 _
   exact hT q2
  have:=k b 82 cur.toList ne (by show w.heap[b]?=_;rw [hg2])
  simpa [BlkAt] using this
theorem OwnKw.form {B:Nat} {w:World} {v:Value} {L:List KV} (h:OwnKw B w v L):∃A C,v=.slice A L.length C/\L.length<=C/\KepAt w A L:=by
 rcases h.2 with ⟨rfl,hn⟩ | ⟨g,cap,cur,rfl, -,hg,hc, -, -,ht⟩
 ·exact⟨none,0,by rw [hn],by omega,fun hm=>absurd (List.eq_nil_of_length_eq_zero hn) hm⟩
 ·refine⟨_,_,rfl,hc,fun _=>⟨g,cur.toList,rfl,by show w.heap[g]?=_;rw [hg],fun i kv hi j u hj=>?_⟩⟩
  have q:=kepLs_at L i kv hi j u hj
  rw [<-ht,List.getElem?_take] at q
  split at q
  ·exact q
  ·cases q
theorem OwnKw.grown {B:Nat} {w w':World} {v:Value} {L:List KV} (h:OwnKw B w v L) (hg:w.grownBy w' v.ownBlock) {b:Nat} {T:TypeId} {cs:List Value} (hb:BlkAt w b T cs) (hT:T≠82):BlkAt w' b T cs:=by
 refine (hg.block b hb.lt (fun e=>?_)).trans hb
 rcases h.2 with ⟨hv, -⟩ | ⟨b2,cap,cur,hv, -,hg2, -⟩
 ·rw [hv] at e;cases e
 ·rw [hv] at e
  have e2:b2=b:=by injection e with e;exact e.symm
  subst e2
  have q:some (Obj.cells cs.toArray T (0,0))=some (Obj.cells cur 82 (0,0)):=hb.symm.trans hg2
  injection q with q
  injection q with _ q2 _
  exact hT q2
theorem KvOk.grown {B:Nat} {w w':World} {v:Value} {L M:List KV} (h:OwnKw B w v L) (hg:w.grownBy w' v.ownBlock) (p:KvOk w M):KvOk w' M:=fun x hx=>by
 obtain⟨A,c,e,l,f⟩:=p x hx
 refine⟨A,c,e,l,fun hm=>?_⟩
 obtain⟨b,o,cs,e2,bk,c2⟩:=f hm
 exact⟨b,o,cs,e2,h.grown hg bk (by decide),c2⟩
theorem Try.infoKep:(Try.prog.info? 82).map (fun i=>(i.zero,i.size,i.bytes))=some (some (.agg #[.int .i64 0,.int .i64 0,.int .i64 0,.int .i64 0,.int .i64 0,.int .i64 0,.int .i64 0,.int .i64 0,.int .i64 0,.int .i64 0,.int .i64 0,.int .i64 0,.int .i64 0,.int .i64 0,.int .i64 0,.slice none 0 0]),16,144):=by kernel_rfl
theorem wpList_catK {B:Nat} {w:World} {ops:Array Oper} {rest:List Oper} {o:Oper} {a:Act} {Q:Exit->Act->World->Prop} (hgd:o.guard=none) (s x:Operand)
  (ho:o.op=.call { callee:=.builtin .append,args:=#[s,x],argTypes:=#[76,76] }) (v:Value) (L M:List KV) (b m D:Nat) (hs:a.eval s=v) (hx:a.eval x=.slice (some ⟨b,0,none⟩) m D) (hm:m=M.length) (m0:M≠[])
  (hown:OwnKw B w v L) (hbk:BlkAt w b 82 (kepLs M)) (hM:KvOk w M) (hl:L.length+M.length<=100000) (hB:B<=w.heap.size)
  (h:∀v' w',OwnKw B w' v' (L++M)->Below B w w'->w.heap.size<=w'.heap.size->(∀N,KvOk w N->KvOk w' N)->(∀b T cs,T≠82->BlkAt w b T cs->BlkAt w' b T cs)->wpList Try.prog ops Q rest (a.put o.dst v') w'):wpList Try.prog ops Q (o :: rest) a w:=by
 subst hm
 refine wpList_step fun K hK=>?_
 obtain⟨i0,hi,hz0,hz1,hz2⟩:=info_parts Try.infoKep
 refine step_append_lies w hgd s x 76 ho B 82 i0 _ 16 144 Try.underlying76 hi hz0 hz1 hz2 rfl (by decide) v L.length (kepLs L) hs hown ⟨b,0,none⟩ M.length D (kepLs M) hx (kepLs_len M) (fun j u hj=>by rw [add_plain];exact hbk.cell0 j u hj) (kepLs_one M hM) (by have:0<M.length:=List.length_pos_iff.2 m0;omega) (by unfold maxLen;omega) (by omega) hB w.heap.size rfl ?_
 intro g cap w' h1 h2 h3 _
 have lt:∀k,v.ownBlock=some k->B<=k:=fun k hk=>(World.ownsRow.lt hown k hk).1
 have hb:Below B w w':=(Below.refl B w).grown h2 hB lt
 refine hK _ _ (h _ w' ?_ hb h2.size (fun N k=>k.grown hown h2) (fun b T cs hT hb=>hown.grown h2 hb hT))
 unfold OwnKw
 rw [kepLs_append,List.length_append]
 exact h1
def DmAt (w:World) (g n:Nat) (D:Nat->Nat->Int×Int):Prop:=∃cs,BlkAt w g 30 cs/\cs.length=n*14/\∀v,v<n->∀j u,(dimL (D v))[j]?=some u->cs[v*14+j]?=some u
theorem DmAt.keep {w W:World} {g n:Nat} {D:Nat->Nat->Int×Int} (h:DmAt w g n D) (k:Below w.heap.size w W):DmAt W g n D:=by
 obtain⟨cs,b,r⟩:=h
 exact⟨cs,b.keeps k,r⟩
theorem DmAt.dms {w:World} {g n:Nat} {D:Nat->Nat->Int×Int} (h:DmAt w g n D):Dms w (some ⟨g,0,none⟩) n D:=fun i hi=>by
 obtain⟨cs,b, -,f⟩:=h
 exact⟨g,0,rfl,b.lt,fun j u hj=>by rw [Nat.zero_add];exact b.cell _ _ (f i hi j u hj)⟩
theorem dimL_len (E:Nat->Int×Int):(dimL E).length=14:=rfl
theorem DmAt.set {W:World} {g n t:Nat} {D:Nat->Nat->Int×Int} {E:Nat->Int×Int} {cs:List Value} (hl:cs.length=n*14) (f:∀v,v<n->∀j u,(dimL (D v))[j]?=some u->cs[v*14+j]?=some u) (ht:t<n)
  (bW:BlkAt W g 30 (cs.take (t*14)++dimL E++cs.drop (t*14+14))):DmAt W g n (fun v=>if v=t then E else D v):=by
 have h0:(cs.take (t*14)).length=t*14:=by rw [List.length_take];omega
 refine⟨_,bW, ?_,fun m hm j u hj=>?_⟩
 ·simp only [List.length_append,h0,dimL_len,List.length_drop]
  omega
 ·have hj2:=(List.getElem?_eq_some_iff.1 hj).1
  rw [dimL_len] at hj2
  by_cases e:m=t
  ·subst e
   simp only [if_true] at hj
   rw [List.append_assoc,List.getElem?_append_right (by omega),h0,show m*14+j-m*14=j by omega,List.getElem?_append_left (by rw [dimL_len];omega)]
   exact hj
  ·simp only [if_neg e] at hj
   have g1:=f m hm j u hj
   rcases Nat.lt_or_ge m t with c1 | c1
   ·have:m*14+j<t*14:=by omega
    rw [List.append_assoc,List.getElem?_append_left (by omega),List.getElem?_take_of_lt this]
    exact g1
   ·have:t*14+14<=m*14+j:=by omega
    rw [List.getElem?_append_right (by simp only [List.length_append,h0,dimL_len];omega)]
    simp only [List.length_append,h0,dimL_len]
    rw [List.getElem?_drop,show t*14+14+(m*14+j-(t*14+14))=m*14+j by omega]
    exact g1
def RwAt (w:World) (A:Option Addr) (L:List PV):Prop:=∀(i:Nat) x,L[i]?=some x->∃b,A=some ⟨b,0,none⟩/\b<w.heap.size/\∀j u,(proL x.1.1 x.2)[j]?=some u->w.cell? ⟨b,i*15+j,none⟩=some u
theorem RwAt.keep {w W:World} {A:Option Addr} {L:List PV} (h:RwAt w A L) (k:Below w.heap.size w W):RwAt W A L:=fun i x hi=>by
 obtain⟨b,e,l,c⟩:=h i x hi
 exact⟨b,e,Nat.lt_of_lt_of_le l k.size,fun j u hj=>keepsC k (c j u hj) l⟩
theorem proLs_at:∀(L:List PV) (i:Nat) (x:PV),L[i]?=some x->∀j u,(proL x.1.1 x.2)[j]?=some u->(proLs L)[i*15+j]?=some u
 | [],i,x,h,_,_,_=>by simp at h
 | y :: L,0,x,h,j,u,hj=>by
  have e:y=x:=by simpa using h
  subst e
  have hl:=(List.getElem?_eq_some_iff.1 hj).1
  rw [proLs,Nat.zero_mul,Nat.zero_add,List.getElem?_append_left hl]
  exact hj
 | y :: L,i+1,x,h,j,u,hj=>by
  rw [proLs,List.getElem?_append_right (by rw [proL_len];omega),proL_len,show (i+1)*15+j-15=i*15+j by omega]
  exact proLs_at L i x (by simpa using h) j u hj
theorem OwnRw.read {B:Nat} {w:World} {v:Value} {L:List PV} (h:OwnRw B w v L):∃A C,v=.slice A L.length C/\RwAt w A L:=by
 rcases h.2 with ⟨rfl,hn⟩ | ⟨g,cap,cur,rfl, -,hg,hc, -, -,ht⟩
 ·exact⟨none,0,by rw [hn],fun i x hi=>by rw [List.eq_nil_of_length_eq_zero hn] at hi;simp at hi⟩
 ·have hb:BlkAt w g 79 cur.toList:=by show w.heap[g]?=_;rw [hg]
  refine⟨_,_,rfl,fun i x hi=>⟨g,rfl,hb.lt,fun j u hj=>hb.cell _ _ ?_⟩⟩
  have q:=proLs_at L i x hi j u hj
  rw [<-ht,List.getElem?_take] at q
  split at q
  ·exact q
  ·cases q
end Go.Proofs.Ytbejmklkicoibaa
