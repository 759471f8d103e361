/- Slopes: Grad. Slopes: Grad of the program. Tapes that may be, and what a tape's Eval, Grad refuse. -/
import Derived.Test.YtopfabemfbdccaaGreatZk43
import Derived.Test.YtopfabemfbdccaaGreatZk38
import Derived.Test.YtopfabemfbdccaaGreatZk36
namespace Go.Proofs.YtopfabemfbdccaaGreat
open Go.ChangeShapes Go.WideShapes Go.ChangeAt Go.RowKit
theorem nexts_w {o:Opw} {i mx:Nat} (hmx:mx<=64) (h:opB o (i:Int) (mx:Int)=true) (v:Nat×Nat) (hv:W2 v) (B:Option Addr) (D:Nat) (V:Nat->Nat×Nat) (A:Option Addr) (C:Nat) (RA:Nat->Option Addr) (RC:Nat->Nat) (R:Nat->Nat->Nat×Nat) (w:World) (UV:Ivs w B i V) (U:Rws w A i RA (fun _=>mx) RC R) :
  Calls Tryz.prog 71 #[o.val,.agg #[.float .f64 v.1,.float .f64 v.2],.slice B i D,.slice A i C,.int .i64 (mx:Int)] w fun e w' =>
   ((errD o.k v mx (slQ o v (argA o V) (argB o V) (rowA o R) (rowB o R))=0/\∃g,w.heap.size<=g/\e=.returned (.tuple #[.slice (some ⟨g,0,none⟩) mx mx,.int .i64 0])/\Img w' g mx (slQ o v (argA o V) (argB o V) (rowA o R) (rowB o R))) \/
    (errD o.k v mx (slQ o v (argA o V) (argB o V) (rowA o R) (rowB o R))≠0/\e=.returned (.tuple #[.slice none 0 0,.int .i64 (errD o.k v mx (slQ o v (argA o V) (argB o V) (rowA o R) (rowB o R)))])))/\Below w.heap.size w w':=by
 obtain⟨hk,g1,g2,g3,g4⟩:=opB_says h
 obtain⟨wa,wb⟩:=args_W2 g1 g2 UV
 have cr:∀x W,Below w.heap.size w W->w.heap.size<=x->x<W.heap.size->Calls Tryz.prog 137 #[o.val,.agg #[.float .f64 v.1,.float .f64 v.2],.slice B i D,.slice A i C] W fun e w'=>(∃fv,e=.returned fv/\Rule x w' fv mx (slQ o v (argA o V) (argB o V) (rowA o R) (rowB o R)))/\Below W.heap.size W w' :=
  fun x W hW h1 h2=>sr_any h v hv B D V A C mx RA RC R W x h2 (fun r hr=>by
   obtain⟨b,o',e,l,c, -,I⟩:=U r hr
   exact I.off h1) (UV.keep hW) (U.keep hW)
 have hG:∀j,j<mx->W2 (slQ o v (argA o V) (argB o V) (rowA o R) (rowB o R) j):=fun j hj=>by
  refine slQ_W2 hv wa wb (fun c=>?_) (fun c=>?_) hk
  ·unfold rowA
   rw [if_pos c]
   obtain⟨b,o',e,l,cc, -,I⟩:=U o.a.toNat (by have:=g1 c;omega)
   exact ivs_words I j hj
  ·unfold rowB
   rw [if_pos c]
   obtain⟨b,o',e,l,cc, -,I⟩:=U o.b.toNat (by have:=g2 c;omega)
   exact ivs_words I j hj
 have c1:=fun w=>has_w v.1 v.2 0 hv.1 hv.2 (by omega) w
 generalize slQ o v (argA o V) (argB o V) (rowA o R) (rowB o R)=G at *
 clear wa wb UV U g1 g2 g3 g4
 obtain⟨k,oa,ob,n,lo,hi⟩:=o
 unfold Opw.val at *
 unfold errD
 simp only at *
 by_cases c:0<mx/\k=9/\hasB v.1 v.2 0=true
 ·rw [if_pos c]
  obtain⟨q1,rfl,q3⟩:=c
  rw [q3] at c1
  refine (ns_out oa ob n (lo,hi) v _ _ mx (by omega) c1 w).mono ?_
  rintro _ w' ⟨rfl,hb⟩
  exact⟨Or.inr ⟨by decide,rfl⟩,hb⟩
 ·rw [if_neg c]
  refine (ns_row k oa ob n (lo,hi) v _ _ mx hmx G hG _ ?_ c1 w cr).mono ?_
  ·rcases Nat.eq_zero_or_pos mx with q | q
   ·exact .inl q
   ·by_cases q2:k=9
    ·refine .inr (.inr ⟨by omega,q2, ?_⟩)
     cases q3:hasB v.1 v.2 0
     ·rfl
     ·exact absurd ⟨q,q2,q3⟩ c
    ·exact .inr (.inl ⟨by omega,by rw [beq_eq_false_iff_ne];exact q2⟩)
  ·rintro _ w' ⟨⟨e1,g,e2,rfl,I⟩ | ⟨e1,rfl⟩,hb⟩
   ·have e3:((List.range mx).all fun j=>bndB (G j))=true:=e1
    rw [e3]
    exact⟨Or.inl ⟨rfl,g,e2,rfl,I⟩,hb⟩
   ·have e3:((List.range mx).all fun j=>bndB (G j))=false:=e1
    rw [e3]
    exact⟨Or.inr ⟨by simp,by simp⟩,hb⟩
theorem rowI_W2 {O:Nat->Opw} {X:Nat->Nat×Nat} {n:Nat} {vars:Int} (hr:∀i,i<n->opB (O i) (i:Int) vars=true) (hl:∀i,i<n->W2 ((O i).lo,(O i).hi)) (hX:∀i:Nat,(i:Int)<vars->W2 (X i)) (j:Nat):∀d i,i<d->i<n->W2 (rowI O X i j):=by
 have hv:=vsL_W2 hr hl hX
 have at_:∀i,i<=n->∀t:Nat,t<i->W2 (vAt O X i t):=fun i hi t ht=>by
  have lj:t<(vsL O X i).length:=by rw [vsL_len];exact ht
  have:vAt O X i t=(vsL O X i)[t]:=by unfold vAt;simp [lj]
  rw [this]
  exact hv i hi _ (List.getElem_mem lj)
 intro d
 induction d with
 | zero=>intro i h;omega
 | succ d ih =>
  intro i hd hi
  obtain⟨hk,g1,g2,g3, -⟩:=opB_says (hr i hi)
  have hval:W2 (valI O X i):=by
   have:=at_ (i+1) (by omega) i (by omega)
   rw [vAt_val O X (by omega)] at this
   exact this
  refine slQ_W2 hval ?_ ?_ (fun c=>?_) (fun c=>?_) hk
  ·unfold argA
   split
   ·rename_i c
    exact at_ i (by omega) _ (by have:=g1 c;omega)
   ·exact zz_W2
  ·unfold argB
   split
   ·rename_i c
    exact at_ i (by omega) _ (by have:=g2 c;omega)
   ·exact zz_W2
  ·unfold rowA
   rw [if_pos c,dAt_row O X (by have:=g1 c;omega)]
   exact ih _ (by have:=g1 c;omega) (by have:=g1 c;omega)
  ·unfold rowB
   rw [if_pos c,dAt_row O X (by have:=g2 c;omega)]
   exact ih _ (by have:=g2 c;omega) (by have:=g2 c;omega)
set_option maxRecDepth 4000 in
set_option maxHeartbeats 8000000 in
theorem grad_new (v:Int) (A:Option Addr) (n C:Nat) (D:Option Addr) (m E:Nat) (O:Nat->Opw) (Y:Nat->Int) (AX:Option Addr) (mx CX:Nat) (X:Nat->Nat×Nat) (hn:n<=4000) (hm:m<=400) (hmx:mx<=64) (hv:v=(mx:Int)) (hr:∀i,i<n->opB (O i) (i:Int) (mx:Int)=true) (hY:∀i,i<m->0<=Y i/\Y i<(n:Int)) (w:World) (VO:Ops w A n O) (VY:Ins w D m Y) (VX:Ivs w AX mx X)
   (c1:∀W,Below w.heap.size w W->Calls Tryz.prog 69 #[tapeV v A n C D m E,.slice AX mx CX] W fun e w'=>e=.returned (.int .i64 0)/\Below W.heap.size W w') :
   Calls Tryz.prog 29 #[tapeV v A n C D m E,.slice AX mx CX] w fun e w' =>
     ((∃g h SA SC,e=.returned (.tuple #[.slice (some ⟨g,0,none⟩) m m,.slice (some ⟨h,0,none⟩) m m,.int .i64 0])/\Img w' g m (fun i=>vAt O X n (Y i).toNat)/\Rws w' (some ⟨h,0,none⟩) m SA (fun _=>mx) SC (fun i=>dAt O X n (Y i).toNat)/\SlO w.heap.size w' h m mx SA SC/\∀j,j<n->errG O X mx j=0) \/
      (∃k,k<n/\(∀j,j<k->errG O X mx j=0)/\errG O X mx k≠0/\e=.returned (.tuple #[.slice none 0 0,.slice none 0 0,.int .i64 (errG O X mx k)])))/\Below w.heap.size w w':=by
 subst hv
 have hlit:∀i,i<n->W2 ((O i).lo,(O i).hi):=fun i hi=>by obtain⟨b,o,e,l,c0,c1,c2,c3,c4,c5,r⟩:=VO i hi;exact r
 have hXw:∀i:Nat,(i:Int)<(mx:Int)->W2 (X i):=fun i hi=>ivs_words VX i (by omega)
 have HR:Hid (∀i,i<n->opB (O i) (i:Int) (mx:Int)=true):=hr
 have HY:Hid (∀i,i<m->0<=Y i/\Y i<(n:Int)):=hY
 have HW:Hid (∀i,i<=n->∀p∈vsL O X i,W2 p):=vsL_W2 hr hlit hXw
 have HD:Hid (∀r,r<n->∀j,W2 (rowI O X r j)):=fun r hr' j=>rowI_W2 hr hlit hXw j (r+1) r (by omega) hr'
 have HL:Hid (∀i,(vsL O X i).length=i):=vsL_len O X
 clear hr hY hlit hXw
 unfold tapeV at c1 ⊢
 have T:=hasT_new w (mx:Int) A n C D m E
 have HB:Below w.heap.size w (w.alloc (.cells #[.int .i64 (mx:Int),.slice A n C,.slice D m E] 45)):=by go_grown
 go_enter Tryz.func29,Tryz.ntmps29
 go_upto_region 1 with fail
 generalize (w.alloc (.cells #[.int .i64 (mx:Int),.slice A n C,.slice D m E] 45))=V1 at *
 obtain⟨t0,t1,t2,tl⟩:=id T
 go_wp2_with (first
   | (go_at_call 69;refine (c1 _ HB).mono ?_;rintro _ V2 ⟨rfl,hb1⟩;replace HB:=later HB hb1;replace T:=T.keep hb1;clear t0 t1 t2 tl hb1;obtain⟨t0,t1,t2,tl⟩:=id T)
   | (at_make;refine wpList_makeI0 (by rfl) _ _ (by rfl) n (by rfl) (by rfl) (by omega) ?_;intro w3 hown hb3;have T3:=T.keep hb3;clear t0 t1 t2 tl;obtain⟨t0,t1,t2,tl⟩:=id T3)
   | (at_make;refine wpList_makeR0 (by rfl) _ _ (by rfl) n (by rfl) (by rfl) (by omega) ?_;intro w4 hrow hb4;have T4:=T3.keep hb4;clear t0 t1 t2 tl;obtain⟨t0,t1,t2,tl⟩:=id T4))
 clear t0 t1 t2 tl T3 T4 c1
 have TB:=T
 have HB2:=HB
 have st0:GSt O X mx V2.heap.size w4 (.slice (some ⟨V2.heap.size,0,none⟩) 0 n) (.slice (some ⟨w3.heap.size,0,none⟩) 0 n) [] 0:=⟨OwnI.keep hown hb4,hrow.low hb3.size,rfl,fun r hr=>by omega⟩
 have hb34:=later hb3 hb4
 clear hown hrow hb3 hb4
 go_loopg [8,9,32] n (fun G s8 s9 s32 wx=>Below V2.heap.size V2 wx/\∃(k:Nat) (vs:List Value),k+G=n/\s32=.int .i64 (k:Int)/\GSt O X mx V2.heap.size wx s8 s9 vs k/\Hid (∀j,j<k->errG O X mx j=0))
 case atStart=>exact⟨hb34,0,[],by omega,rfl,st0,fun j hj=>absurd hj (by omega)⟩
 case round =>
   clear hb34 st0
   obtain⟨HV,k,vs,hk,rfl,st,hall⟩:=hrel
   have T:=TB.keep HV
   have HB:=later HB2 HV
   obtain⟨A7,C7,e7,U⟩:=ownI_ivs st.vals (fun p hp=>HW k (by omega) p hp)
   rw [HL k] at U e7
   obtain⟨A9,C9,RA,RC,e9,UR,hra⟩:=st.rws hmx (fun r hr j _=>HD r (by omega) j)
   subst e7
   subst e9
   by_cases ck:k=n
   · subst ck
     have co:=fun W (hW:Below wr.heap.size wr W)=>outs_i (mx:Int) A k C D m E Y A7 k C7 (fun i=>(vsL O X k).getD i (0,0)) hm HY W (U.keep hW) ((VY.keep HB).keep hW)
     have cs:=fun W (hW:Below wr.heap.size wr W)=>sOuts_new (mx:Int) A k C D m E Y A9 k C9 mx RA RC (dAt O X k) hra hmx hm HY W (UR.keep hW) ((VY.keep HB).keep hW)
     unfold tapeV at co cs
     go_upto_region 17 with fail
     have HC:Below wr.heap.size wr wr.drew:=(Below.refl _ _).drew
     replace T:=T.keep HC
     go_region_held3 (fun w'=>w'.cell? ⟨w.heap.size,0,none⟩=some (.int .i64 (mx:Int))/\w'.cell? ⟨w.heap.size,1,none⟩=some (.slice A k C)/\w'.cell? ⟨w.heap.size,2,none⟩=some (.slice D m E)) (first | (obtain⟨q0,q1,q2, -⟩:=T;exact⟨q0,q1,q2⟩) | go_keep)
       (first
         | (go_at_call 72;refine (co _ HC).mono ?_;rintro _ w5 ⟨g,rfl,hI,hb5⟩;replace HC:=later HC hb5;replace T:=T.keep hb5;(try replace hR:=hR.keep hb5);(try replace hS:=hS.keep hb5);clear hb5)
         | (go_at_call 73;refine (cs _ HC).mono ?_;rintro _ w6 ⟨⟨h,SA,SC,rfl,hR,hS⟩,hb6⟩;replace hS:=hS.low (Nat.le_trans HB.size HC.size);replace HC:=later HC hb6;replace T:=T.keep hb6;(try replace hI:=hI.keep hb6);clear hb6))
     all_goals
       go_wp2_with fail
       refine bodyPost_ret (v:=.tuple #[.slice (some ⟨g,0,none⟩) m m,.slice (some ⟨h,0,none⟩) m m,.int .i64 0]) (by simp [results,Tryz.results29,go_sem, *]) rfl ⟨Or.inl ⟨g,h,SA,SC,rfl,hI,hR,hS,hall⟩,later HB HC⟩
   · have hlt:(k:Int)<(n:Int):=by omega
     obtain⟨b,o,hA,hb,x0,x1,x2,x3,x4,x5,l0,l1⟩:=(VO.keep HB) k (by omega)
     have cn:∀W,Below wr.heap.size wr W->Calls Tryz.prog 70 #[(O k).val,.slice A7 k C7,.slice AX mx CX] W fun e w'=>e=.returned (.tuple #[.agg #[.float .f64 (if errI O X k=0 then valI O X k else zz).1,.float .f64 (if errI O X k=0 then valI O X k else zz).2],.int .i64 (errI O X k)])/\Below W.heap.size W w' :=
       fun W hW=>nextv_w A7 C7 (fun j=>(vsL O X k).getD j (0,0)) AX mx CX X (HR k (by omega)) ⟨l0,l1⟩ W (U.keep hW) ((VX.keep HB).keep hW)
     have hval:W2 (valI O X k):=by
       have:=HW (k+1) (by omega) (valI O X k) (by rw [vsL_step];simp)
       exact this
     have cs:∀W,Below wr.heap.size wr W->Calls Tryz.prog 71 #[(O k).val,.agg #[.float .f64 (valI O X k).1,.float .f64 (valI O X k).2],.slice A7 k C7,.slice A9 k C9,.int .i64 (mx:Int)] W fun e w' =>
         ((errS O X mx k=0/\∃g,W.heap.size<=g/\e=.returned (.tuple #[.slice (some ⟨g,0,none⟩) mx mx,.int .i64 0])/\Img w' g mx (rowI O X k))\/(errS O X mx k≠0/\e=.returned (.tuple #[.slice none 0 0,.int .i64 (errS O X mx k)])))/\Below W.heap.size W w' :=
       fun W hW=>nexts_w hmx (HR k (by omega)) (valI O X k) hval A7 C7 (fun j=>(vsL O X k).getD j (0,0)) A9 C9 RA RC (dAt O X k) W (U.keep hW) (UR.keep hW)
     unfold Opw.val at cn cs
     have hst:Hid (vsL O X (k+1)=vsL O X k++[((valI O X k).1,(valI O X k).2)]):=vsL_step O X k
     have hlen:(vsL O X k).length<=2000000:=by rw [HL k];omega
     replace hlen:Hid ((vsL O X k).length<=2000000):=hlen
     have hS:=HV.size
     subst hA
     by_cases he:errI O X k=0
     · rw [he,if_pos rfl] at cn
       have hG:Hid (errG O X mx k=errS O X mx k):=by show _=_;unfold errG;rw [if_pos he]
       replace he:Hid (errI O X k=0):=he
       generalize valI O X k=p at *
       go_upto_region 12 with (go_at_call 70;refine (cn _ (by go_grown)).mono ?_;rintro _ w5 ⟨rfl,hb5⟩)
       have Ho:=(hasO_new wr (O k).k (O k).a (O k).b (O k).n ((O k).lo,(O k).hi)).keep hb5
       have hw5:Below wr.heap.size wr w5:=later (by go_grown) hb5
       have Z:Has2 (w5.alloc (.cells #[.float .f64 p.1,.float .f64 p.2] 24)) w5.heap.size (.float .f64 p.1) (.float .f64 p.2):=has2_new _ _ _ _
       have hb6:Below w5.heap.size w5 (w5.alloc (.cells #[.float .f64 p.1,.float .f64 p.2] 24)):=by go_grown
       replace Ho:=Ho.keep hb6
       have hw6:=later hw5 hb6
       clear hb5 hb6 hw5 cn x0 x1 x2 x3 x4 x5
       generalize w5.alloc (.cells #[.float .f64 p.1,.float .f64 p.2] 24)=w6 at *
       replace T:=T.keep hw6
       obtain⟨t0,t1,t2,tl⟩:=id T
       obtain⟨o0,o1,o2,o3,o4,o5,ol⟩:=id Ho
       obtain⟨z0,z1,z2,z3,z4⟩:=id Z
       have c6:=cs w6 hw6
       by_cases hs:errS O X mx k=0
       · have c7:Calls Tryz.prog 71 #[.agg #[.int .i64 (O k).k,.int .i64 (O k).a,.int .i64 (O k).b,.int .i64 (O k).n,.float .f64 (O k).lo,.float .f64 (O k).hi],.agg #[.float .f64 p.1,.float .f64 p.2],.slice A7 k C7,.slice A9 k C9,.int .i64 (mx:Int)] w6 fun e w'=>(∃g,w6.heap.size<=g/\e=.returned (.tuple #[.slice (some ⟨g,0,none⟩) mx mx,.int .i64 0])/\Img w' g mx (rowI O X k))/\Below w6.heap.size w6 w':=c6.mono fun e w' h=>by
           rcases h with ⟨⟨-,q⟩ | ⟨q, -⟩,hb⟩
           · exact⟨q,hb⟩
           · exact absurd hs q
         replace hs:Hid (errS O X mx k=0):=hs
         clear c6 cs
         go_upto_region 15 with (go_at_call 71;refine c7.mono ?_;rintro _ w7 ⟨⟨g,hg,rfl,hI⟩,hb7⟩)
         have hw7:=later hw6 hb7
         have st7:=st.keep hw7
         have HV7:=later HV hw7
         have g1:Hid ((Value.slice A7 k C7).ownBlock≠some g):=fun e=>by
           have:=(World.ownsRow.lt (show w6.ownsRow V2.heap.size 24 2 _ _ _ from (st.keep hw6).vals) g e).2
           omega
         have g2:Hid ((Value.slice A9 k C9).ownBlock≠some g):=fun e=>by
           have:=(World.ownsRow.lt (show w6.ownsRow V2.heap.size 46 1 _ _ _ from (st.keep hw6).rows) g e).2
           omega
         replace Z:=Z.keep hb7
         clear t0 t1 t2 tl o0 o1 o2 o3 o4 o5 ol z0 z1 z2 z3 z4 T Ho c7 hb7 hg
         obtain⟨z0,z1,z2,z3,z4⟩:=id Z
         have hS7:=HV7.size
         have hlr:Hid (vs.length<=2000000):=by show _<=_;rw [st.len];omega
         go_wp2_with (first
           | (at_builtin;refine wpList_pushI3 (B:=V2.heap.size) (g0:=w7.heap.size) (by rfl) _ _ (by rfl) _ (vsL O X k) p.1 p.2 (by rfl) (by rfl) (by go_simp) (by go_simp) (OwnI.keep st7.vals (by go_grown)) hlen.out (by go_size) ?_;intro qa c w8 hown8 hB8 hG8;have hrow8:=OwnR.grew (OwnR.keep st7.rows (by go_grown)) (OwnI.keep st7.vals (by go_grown)) hG8;have hS8:V2.heap.size<=w8.heap.size:=Nat.le_trans hS7 (Nat.le_trans (by go_size) hG8.size))
           | (at_builtin;refine wpList_pushR3 (B:=V2.heap.size) (g0:=w8.heap.size) (by rfl) _ _ (by rfl) _ vs (some ⟨g,0,none⟩) mx mx (by rfl) (by rfl) (by go_simp) (OwnR.keep hrow8 (by go_grown)) hlr.out (by go_size) ?_;intro qa2 c2 w9 hrow9 hB9 hG9))
         have K1:=Kp.below (w:=w7) (.slice A7 k C7) (.slice A9 k C9) (show Below w7.heap.size w7 (w7.alloc (.cells #[.float .f64 p.1,.float .f64 p.2] 24)) by go_grown)
         have K2:=K1.trans (hG8.kpI (.slice A9 k C9))
         have K3:=K2.trans (Kp.below _ _ (show Below w8.heap.size w8 (w8.alloc (.cells #[.slice (some ⟨g,0,none⟩) mx mx] 46)) by go_grown))
         have K4:=K3.trans (hG9.kpR _)
         have hown9:=OwnI.grew (OwnI.keep hown8 (show Below w8.heap.size w8 (w8.alloc (.cells #[.slice (some ⟨g,0,none⟩) mx mx] 46)) by go_grown)) (OwnR.keep hrow8 (by go_grown)) hG9
         have st9:=st7.push K4 (by rw [hst.out];exact hown9) hrow9 g1.out g2.out hI
         have HV9:Below V2.heap.size V2 w9:=(below_alloc ((below_alloc HV7 _).trans hB8) _).trans hB9
         have hall2:Hid (∀j,j<k+1->errG O X mx j=0):=fun j hj=>by
           rcases Nat.lt_or_ge j k with q | q
           · exact hall.out j q
           · rw [show j=k by omega,hG.out];exact hs.out
         clear K1 K2 K3 K4 hown9 hB8 hB9 hG8 hG9 hown8 hrow8 hrow9
         go_roundg (n-k-1)
         case measure=>omega
         case rel=>exact⟨HV9,k+1,_,by omega,by go_num,st9,hall2⟩
       · have c7:Calls Tryz.prog 71 #[.agg #[.int .i64 (O k).k,.int .i64 (O k).a,.int .i64 (O k).b,.int .i64 (O k).n,.float .f64 (O k).lo,.float .f64 (O k).hi],.agg #[.float .f64 p.1,.float .f64 p.2],.slice A7 k C7,.slice A9 k C9,.int .i64 (mx:Int)] w6 fun e w'=>e=.returned (.tuple #[.slice none 0 0,.int .i64 (errS O X mx k)])/\Below w6.heap.size w6 w':=c6.mono fun e w' h=>by
           rcases h with ⟨⟨q, -⟩ | ⟨-,q⟩,hb⟩
           · exact absurd q hs
           · exact⟨q,hb⟩
         have hne:((errS O X mx k) != 0)=true:=by simpa using hs
         clear c6 cs
         generalize errS O X mx k=ee at *
         go_wp2_with (go_at_call 71;refine c7.mono ?_;rintro _ w7 ⟨rfl,hb7⟩)
         refine bodyPost_ret (v:=.tuple #[.slice none 0 0,.slice none 0 0,.int .i64 ee]) (by simp [results,Tryz.results29,go_sem, *]) rfl ⟨Or.inr ⟨k,by omega,hall,by rw [hG.out];exact hs,by rw [hG.out]⟩, ?_⟩
         exact later (later HB hw6) (later hb7 (by go_grown))
     · have hG:Hid (errG O X mx k=errI O X k):=by show _=_;unfold errG;rw [if_neg he]
       rw [if_neg he] at cn
       have hne:((errI O X k) != 0)=true:=by simpa using he
       generalize errI O X k=ee at *
       go_wp2_with (go_at_call 70;refine (cn _ (by go_grown)).mono ?_;rintro _ w5 ⟨rfl,hb5⟩)
       refine bodyPost_ret (v:=.tuple #[.slice none 0 0,.slice none 0 0,.int .i64 ee]) (by simp [results,Tryz.results29,go_sem, *]) rfl ⟨Or.inr ⟨k,by omega,hall,by rw [hG.out];exact he,by rw [hG.out]⟩, ?_⟩
       exact later (later HB (by go_grown)) (later hb5 (by go_grown))
theorem right_all {v:Int} {n:Nat} {X:Nat->Opw} {m:Nat} {Y:Nat->Int} (h:rightT v n X m Y=true):(0<=v/\v<=64/\n<=4000/\m<=400)/\(∀i,i<n->opB (X i) (i:Int) v=true)/\(∀k,k<m->0<=Y k/\Y k<(n:Int)):=by
 unfold rightT sizesB opsB outsB at h
 simp only [Bool.and_eq_true] at h
 obtain⟨⟨h1,h2⟩,h3⟩:=h
 rw [all_upto2] at h2 h3
 exact⟨of_decide_eq_true h1,h2,fun k hk=>of_decide_eq_true (h3 k hk)⟩
theorem ref_say (v:Int) (A:Option Addr) (n C:Nat) (D:Option Addr) (m E:Nat) (X:Nat->Opw) (Y:Nat->Int) (hr:rightT v n X m Y=true) (AX:Option Addr) (mx CX:Nat) (XX:Nat->Nat×Nat) (hmx:mx<=9223372036854775807) (w:World) (VX:Ops w A n X) (VY:Ins w D m Y) (VI:Ivs w AX mx XX) :
  Calls Tryz.prog 69 #[tapeV v A n C D m E,.slice AX mx CX] w fun e w'=>e=.returned (.int .i64 (if (mx:Int)=v/\allB mx XX=true then 0 else 1))/\Below w.heap.size w w':=by
 obtain⟨h1,h2,h3⟩:=right_all hr
 have cR:∀W,Below w.heap.size w W->Calls Tryz.prog 63 #[tapeV v A n C D m E] W fun e' w'=>e'=.returned (.int .i64 0)/\Below W.heap.size W w':=fun W hW=>by
  have:=right_t v A n C D m E X Y (by omega) (by omega) W (VX.keep hW) (VY.keep hW)
  rw [hr] at this
  exact this
 by_cases c:(mx:Int)=v
 ·have:=ref_all v A n C D m E AX mx CX XX hmx (by simp [c]) w VI cR
  simp only [c,true_and]
  exact this
 ·have:=ref_len v A n C D m E AX mx CX (by simpa using c) w cR
  rw [if_neg (fun q=>c q.1)]
  exact this
end Go.Proofs.YtopfabemfbdccaaGreat
