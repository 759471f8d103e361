/- The reference's forms: rows of exponents in slices that grow; forms as values; orreryref14.empty. unit.Times, whole. -/
import Derived.Test.YtbejmklkicoibaaSh
import Derived.Test.YtbejmklkicoibaaKe31
import Derived.Test.YtbejmklkicoibaaKe32
import Derived.Test.YtbejmklkicoibaaKe34
import Derived.Deep.AppendLies
namespace Go.Proofs.Ytbejmklkicoibaa
open Go.ChangeShapes Go.WideShapes Go.ChangeAt Go.RowKit
theorem results_cell_tmp {P:Program} {fn:Func} {p q:Tmp} {ty:TypeId} (h:fn.results=#[.cell p ty,.tmp q]) (tmps:Array Value) (w:World) (g:Nat) (t:TypeId) (cs:Array Value) (fr:Nat×Nat) (d:TypeDesc)
  (hp:tmps.getD p undef=.pointer (some ⟨g,0,none⟩)) (hg:w.heap[g]?=some (.cells cs t fr))
  (hu:P.underlying ty=some d) (hd:(match d with | .struct _ | .array _ _=>true | _=>false)=true) (hi:(P.info? ty).map (·.size)=some cs.size) {v:Value} (hv:tmps.getD q undef=v) :
  (results fn tmps).run P w=.ok (.tuple #[.agg cs,v]) w:=by
 subst hv
 have hp':tmps[p]?.getD undef=.pointer (some ⟨g,0,none⟩):=by simpa using hp
 simp [results,h,hp',asAddr,run_loadVar_row w g t ty cs fr d hg hu hd hi]
def rtCells:List (Int×Int)->List Value
 | []=>[]
 | e :: L=>.int .i64 e.1 :: .int .i64 e.2 :: rtCells L
theorem rtCells_append:∀L M,rtCells (L++M)=rtCells L++rtCells M
 | [],_=>rfl
 | e :: L,M=>by simp only [List.cons_append,rtCells,rtCells_append L M]
theorem rtCells_at:∀(L:List (Int×Int)) (i:Nat) (e:Int×Int),L[i]?=some e->(rtCells L)[i*2]?=some (.int .i64 e.1)/\(rtCells L)[i*2+1]?=some (.int .i64 e.2)
 | [],i,e,h=>by simp at h
 | x :: L,0,e,h=>by
  have q:x=e:=by simpa using h
  subst q
  exact⟨rfl,rfl⟩
 | x :: L,i+1,e,h=>by
  obtain⟨a,b⟩:=rtCells_at L i e (by simpa using h)
  refine⟨?_, ?_⟩
  ·rw [show (i+1)*2=i*2+1+1 by omega];simpa [rtCells] using a
  ·rw [show (i+1)*2+1=i*2+1+1+1 by omega];simpa [rtCells] using b
theorem rtCells_one:∀L,∀u,u∈rtCells L->u.oneCell'=true
 | [],u,h=>by cases h
 | x :: L,u,h=>by
  simp only [rtCells,List.mem_cons] at h
  rcases h with h | h | h
  ·rw [h];rfl
  ·rw [h];rfl
  ·exact rtCells_one L u h
def RtAt (w:World) (A:Option Addr) (n:Nat) (X:Nat->Int×Int):Prop:=0<n->∃b cs,A=some ⟨b,0,none⟩/\BlkAt w b 27 cs/\∀i,i<n->cs[i*2]?=some (.int .i64 (X i).1)/\cs[i*2+1]?=some (.int .i64 (X i).2)
theorem RtAt.keep {w W:World} {A:Option Addr} {n:Nat} {X:Nat->Int×Int} (h:RtAt w A n X) (k:Below w.heap.size w W):RtAt W A n X:=fun hn=>by
 obtain⟨b,cs,e,l,c⟩:=h hn
 exact⟨b,cs,e,l.keeps k,c⟩
theorem RtAt.all {w W:World} {A:Option Addr} {n:Nat} {X:Nat->Int×Int} (h:RtAt w A n X) (k:∀b cs,BlkAt w b 27 cs->BlkAt W b 27 cs):RtAt W A n X:=fun hn=>by
 obtain⟨b,cs,e,l,c⟩:=h hn
 exact⟨b,cs,e,k b cs l,c⟩
theorem RtAt.other {w W:World} {A:Option Addr} {n:Nat} {X:Nat->Int×Int} {g:Nat} {T:TypeId} {cs:List Value} (h:RtAt w A n X) (hg:BlkAt w g T cs) (hT:T≠27) (k:∀k Tk ck,g≠k->BlkAt w k Tk ck->BlkAt W k Tk ck):RtAt W A n X:=h.all fun b cs2 l=>k b _ _ (fun e=>by
 subst e
 have q:some (Obj.cells cs.toArray T (0,0))=some (Obj.cells cs2.toArray 27 (0,0)):=hg.symm.trans l
 injection q with q
 injection q with _ q2 _
 exact hT q2) l
theorem RtAt.at {w:World} {A:Option Addr} {n:Nat} {X:Nat->Int×Int} (h:RtAt w A n X) {i:Nat} (hi:i<n):∃b,A=some ⟨b,0,none⟩/\b<w.heap.size/\w.cell? ⟨b,i*2,none⟩=some (.int .i64 (X i).1)/\w.cell? ⟨b,i*2+1,none⟩=some (.int .i64 (X i).2):=by
 obtain⟨b,cs,e,l,c⟩:=h (by omega)
 exact⟨b,e,l.lt,l.cell _ _ (c i hi).1,l.cell _ _ (c i hi).2⟩
theorem RtAt.congr {w:World} {A:Option Addr} {n:Nat} {X Y:Nat->Int×Int} (h:RtAt w A n X) (e:∀i,i<n->X i=Y i):RtAt w A n Y:=fun hn=>by
 obtain⟨b,cs,ea,l,c⟩:=h hn
 exact⟨b,cs,ea,l,fun i hi=>by rw [<-e i hi];exact c i hi⟩
def OwnRt (B:Nat) (w:World) (v:Value) (L:List (Int×Int)):Prop:=w.ownsRow B 27 2 v L.length (rtCells L)
theorem OwnRt.keep {B:Nat} {w w2:World} {v:Value} {L:List (Int×Int)} (h:OwnRt B w v L) (hb:Below w.heap.size w w2):OwnRt B w2 v L:=own_keep h hb
theorem ownRt_nil (B:Nat) (w:World):OwnRt B w (.slice none 0 0) []:=⟨rfl,Or.inl ⟨rfl,rfl⟩⟩
theorem OwnRt.base {B B':Nat} {w:World} {v:Value} {L:List (Int×Int)} (h:OwnRt B w v L) (hb:B'<=B):OwnRt B' w v L:=by
 refine⟨h.1, ?_⟩
 rcases h.2 with hn | ⟨g,cap,cur,hv,hb2,rest⟩
 ·exact .inl hn
 ·exact .inr ⟨g,cap,cur,hv,Nat.le_trans hb hb2,rest⟩
theorem OwnRt.off {B:Nat} {w W:World} {v:Value} {L:List (Int×Int)} (h:OwnRt B w v L) {g:Nat} {T:TypeId} {cs:List Value} (hg:BlkAt w g T cs) (hT:T≠27) (k:∀k Tk ck,g≠k->BlkAt w k Tk ck->BlkAt W k Tk ck):OwnRt B W v L:=by
 refine⟨h.1, ?_⟩
 rcases h.2 with hn | ⟨b,cap,cur,hv,hb2,hg2,rest⟩
 ·exact .inl hn
 ·refine .inr ⟨b,cap,cur,hv,hb2, ?_,rest⟩
  have ne:g≠b:=fun e=>by
   subst e
   have q:some (Obj.cells cs.toArray T (0,0))=some (Obj.cells cur 27 (0,0)):=hg.symm.trans hg2
   injection q with q
   injection q with _ q2 _
   exact hT q2
  have:=k b 27 cur.toList ne (by show w.heap[b]?=_;rw [hg2])
  simpa [BlkAt] using this
theorem OwnRt.form {B:Nat} {w:World} {v:Value} {L:List (Int×Int)} (h:OwnRt B w v L):∃A C,v=.slice A L.length C/\L.length<=C/\RtAt w A L.length (fun i=>L.getD i (0,0))/\(0<L.length->∃b,A=some ⟨b,0,none⟩/\B<=b):=by
 rcases h.2 with ⟨rfl,hn⟩ | ⟨g,cap,cur,rfl,hB,hg,hc, -, -,ht⟩
 ·exact⟨none,0,by rw [hn],by omega,fun hm=>by omega,fun hm=>by omega⟩
 ·have hb:BlkAt w g 27 cur.toList:=by show w.heap[g]?=_;rw [hg]
  refine⟨_,_,rfl,hc,fun _=>⟨g,cur.toList,rfl,hb,fun i hi=>?_⟩,fun _=>⟨g,rfl,hB⟩⟩
  obtain⟨a,b⟩:=rtCells_at L i (L.getD i (0,0)) (by rw [List.getD_eq_getElem?_getD,List.getElem?_eq_getElem hi];rfl)
  rw [<-ht,List.getElem?_take] at a b
  refine⟨?_, ?_⟩
  ·split at a
   ·exact a
   ·cases a
  ·split at b
   ·exact b
   ·cases b
theorem Try.infoRt:(Try.prog.info? 27).map (fun i=>(i.zero,i.size,i.bytes))=some (some (.agg #[.int .i64 0,.int .i64 0]),2,16):=by kernel_rfl
set_option maxRecDepth 8000 in
theorem step_catRt {B:Nat} {wr:World} {K:Act->World->Prop} {E:Prop} {ops:Array Oper} {o:Oper} {a:Act} {Q:Exit->Act->World->Prop} (hgd:o.guard=none) (s x:Operand)
  (ho:o.op=.call { callee:=.builtin .append,args:=#[s,x],argTypes:=#[56,56] }) (v:Value) (L:List (Int×Int)) (e:Int×Int) (b:Nat) (hs:a.eval s=v) (hx:a.eval x=.slice (some ⟨b,0,none⟩) 1 1)
  (hown:OwnRt B wr v L) (hbk:BlkAt wr b 27 [.int .i64 e.1,.int .i64 e.2]) (hl:L.length<=2000000) (hB:B<=wr.heap.size)
  (h:∀v' w',OwnRt B w' v' (L++[e])->Below B wr w'->(∀b T cs,T≠27->BlkAt wr b T cs->BlkAt w' b T cs)->wr.heap.size<=w'.heap.size->K (a.put o.dst v') w'):if Region.wanted o (yielded ops a.tmps)=true then Oper.wp Try.prog o a wr K Q else E:=by
 obtain⟨i0,hi,hz0,hz1,hz2⟩:=info_parts Try.infoRt
 refine step_append_lies wr hgd s x 56 ho B 27 i0 _ 2 16 Try.underlying56 hi hz0 hz1 hz2 rfl (by decide) v L.length (rtCells L) hs hown ⟨b,0,none⟩ 1 1 (rtCells [e]) hx rfl (fun j u hj=>by rw [add_plain];exact hbk.cell0 j u hj) (rtCells_one [e]) (by decide) (by unfold maxLen;omega) (by omega) hB wr.heap.size rfl ?_
 intro g cap w' h1 h2 h3 _
 have lt:∀k,v.ownBlock=some k->B<=k:=fun k hk=>(World.ownsRow.lt hown k hk).1
 refine h _ w' ?_ ((Below.refl B wr).grown h2 hB lt) (fun b T cs hT hb=>?_) h2.size
 ·unfold OwnRt
  rw [List.length_append,rtCells_append]
  exact h1
 ·refine (h2.block b hb.lt (fun e2=>?_)).trans hb
  rcases hown.2 with ⟨hv, -⟩ | ⟨b2,cap,cur,hv, -,hg2, -⟩
  ·rw [hv] at e2;cases e2
  ·rw [hv] at e2
   have e3:b2=b:=by injection e2 with e2;exact e2.symm
   subst e3
   have q:some (Obj.cells cs.toArray T (0,0))=some (Obj.cells cur 27 (0,0)):=hb.symm.trans hg2
   injection q with q
   injection q with _ q2 _
   exact hT q2
theorem wpList_catRt {B:Nat} {wr:World} {rest:List Oper} {ops:Array Oper} {o:Oper} {a:Act} {Q:Exit->Act->World->Prop} (hgd:o.guard=none) (s x:Operand)
  (ho:o.op=.call { callee:=.builtin .append,args:=#[s,x],argTypes:=#[56,56] }) (v:Value) (L:List (Int×Int)) (e:Int×Int) (b:Nat) (hs:a.eval s=v) (hx:a.eval x=.slice (some ⟨b,0,none⟩) 1 1)
  (hown:OwnRt B wr v L) (hbk:BlkAt wr b 27 [.int .i64 e.1,.int .i64 e.2]) (hl:L.length<=2000000) (hB:B<=wr.heap.size)
  (h:∀v' w',OwnRt B w' v' (L++[e])->Below B wr w'->(∀b T cs,T≠27->BlkAt wr b T cs->BlkAt w' b T cs)->wr.heap.size<=w'.heap.size->wpList Try.prog ops Q rest (a.put o.dst v') w'):wpList Try.prog ops Q (o :: rest) a wr :=
 wpList_step fun _ hK=>step_catRt hgd s x ho v L e b hs hx hown hbk hl hB fun v' w' h1 h2 h3 h4=>hK _ _ (h v' w' h1 h2 h3 h4)
def fmV (s:Value) (E:Nat->Int×Int):Value:=.agg #[s,.int .i64 (E 0).1,.int .i64 (E 0).2,.int .i64 (E 1).1,.int .i64 (E 1).2,.int .i64 (E 2).1,.int .i64 (E 2).2,.int .i64 (E 3).1,.int .i64 (E 3).2,.int .i64 (E 4).1,.int .i64 (E 4).2,.int .i64 (E 5).1,.int .i64 (E 5).2,.int .i64 (E 6).1,.int .i64 (E 6).2]
def fmL (s:Value) (E:Nat->Int×Int):List Value:=[s,.int .i64 (E 0).1,.int .i64 (E 0).2,.int .i64 (E 1).1,.int .i64 (E 1).2,.int .i64 (E 2).1,.int .i64 (E 2).2,.int .i64 (E 3).1,.int .i64 (E 3).2,.int .i64 (E 4).1,.int .i64 (E 4).2,.int .i64 (E 5).1,.int .i64 (E 5).2,.int .i64 (E 6).1,.int .i64 (E 6).2]
theorem fm_val (s:Value) (E:Nat->Int×Int):fmV s E=.agg (fmL s E).toArray:=rfl
theorem fm_valU (s:Value) (E:Nat->Int×Int):(.agg #[s,.int .i64 (E 0).1,.int .i64 (E 0).2,.int .i64 (E 1).1,.int .i64 (E 1).2,.int .i64 (E 2).1,.int .i64 (E 2).2,.int .i64 (E 3).1,.int .i64 (E 3).2,.int .i64 (E 4).1,.int .i64 (E 4).2,.int .i64 (E 5).1,.int .i64 (E 5).2,.int .i64 (E 6).1,.int .i64 (E 6).2]:Value)=.agg (fmL s E).toArray:=rfl
theorem fmL_dim {s:Value} {E:Nat->Int×Int} (j:Nat) (v:Value) (h:(dimL E)[j]?=some v):(fmL s E)[1+j]?=some v:=by
 rw [Nat.add_comm]
 exact h
theorem BlkAt.fdim {w:World} {g:Nat} {T:TypeId} {E:Nat->Int×Int} {s:Value} (h:BlkAt w g T (fmL s E)):∀j v,(dimL E)[j]?=some v->w.cell? ⟨g,1+j,none⟩=some v:=fun j v hj=>h.cell (1+j) v (fmL_dim j v hj)
theorem BlkAt.fdimb {w:World} {g:Nat} {T:TypeId} {E:Nat->Int×Int} {s:Value} (h:BlkAt w g T (fmL s E)):∀W,(∃n:Behind w,W=n.W)->∀j v,(dimL E)[j]?=some v->W.cell? ⟨g,1+j,none⟩=some v:=fun W hW j v hj=>by
 obtain⟨n,rfl⟩:=hW
 exact (h.keeps n.bel).fdim j v hj
set_option maxRecDepth 4000 in
set_option maxHeartbeats 4000000 in
theorem fempty_w (n:Nat) (hn:n<=500) (w:World):Calls Try.prog 24 #[.int .i64 (n:Int)] w fun r w'=>(∃v,r=.returned (fmV v plE)/\OwnRt w.heap.size w' v (List.replicate n (0,1)))/\Below w.heap.size w w':=by
 have cp:∀W,Calls Try.prog 43 #[] W fun r w'=>r=.returned (.agg #[.int .i64 (plE 0).1,.int .i64 (plE 0).2,.int .i64 (plE 1).1,.int .i64 (plE 1).2,.int .i64 (plE 2).1,.int .i64 (plE 2).2,.int .i64 (plE 3).1,.int .i64 (plE 3).2,.int .i64 (plE 4).1,.int .i64 (plE 4).2,.int .i64 (plE 5).1,.int .i64 (plE 5).2,.int .i64 (plE 6).1,.int .i64 (plE 6).2])/\Below W.heap.size W w':=fun W=>dplain_w W
 have cw:=fun W=>dwhole_w 0 W
 obtain⟨RB,HB⟩:=blks1 w 58 [.slice none 0 0,.int .i64 0,.int .i64 0,.int .i64 0,.int .i64 0,.int .i64 0,.int .i64 0,.int .i64 0,.int .i64 0,.int .i64 0,.int .i64 0,.int .i64 0,.int .i64 0,.int .i64 0,.int .i64 0]
 go_enter Try.func24,Try.ntmps24
 go_upto_region 1 with fail
 generalize (w.alloc (.cells #[.slice none 0 0,.int .i64 0,.int .i64 0,.int .i64 0,.int .i64 0,.int .i64 0,.int .i64 0,.int .i64 0,.int .i64 0,.int .i64 0,.int .i64 0,.int .i64 0,.int .i64 0,.int .i64 0,.int .i64 0] 58))=V1 at *
 go_upto_region 3 with (first
  | (go_at_call 43;(with_reducible refine (cp _).mono ?_);rintro _ W5 ⟨rfl,hb2⟩;replace HB:=later HB hb2;replace RB:=RB.keeps hb2;clear hb2)
  | (refine wpList_storeBig (by rfl) _ _ 58 (by rfl) (blk_new _ _ _) (fmL (.slice none 0 0) plE) (by kernel_rfl) (by rfl) (by rfl) (by rfl) (by rfl) ?_;rintro V2 XR hs2 hB2 hk2))
 have XB:=XR
 have hfb:w.heap.size<W5.heap.size:=RB.lt
 have GA:=Below.alloc (Below.refl W5.heap.size W5) (Nat.le_refl _) (.cells #[.slice none 0 0,.int .i64 0,.int .i64 0,.int .i64 0,.int .i64 0,.int .i64 0,.int .i64 0,.int .i64 0,.int .i64 0,.int .i64 0,.int .i64 0,.int .i64 0,.int .i64 0,.int .i64 0,.int .i64 0] 58)
 replace RB:=hk2 _ _ _ (by omega) (RB.keeps GA)
 replace HB:=hB2 _ _ (Below.alloc HB HB.size _) HB.size
 obtain⟨fb,hfb2⟩:∃fb,fb=W5.heap.size:=⟨_,rfl⟩
 rw [<-hfb2] at XB hfb ⊢
 clear XR hB2 hk2 hs2 hfb2 GA
 try simp only [Act.put]
 go_loopg [4] n (fun T s4 wx=>∃(i:Nat) (v:Value),i+T=n/\s4=.int .i64 (i:Int)/\OwnRt (fb+1) wx v (List.replicate i (0,1))/\BlkAt wx fb 58 (fmL v plE)/\BlkAt wx w.heap.size 58 [.slice none 0 0,.int .i64 0,.int .i64 0,.int .i64 0,.int .i64 0,.int .i64 0,.int .i64 0,.int .i64 0,.int .i64 0,.int .i64 0,.int .i64 0,.int .i64 0,.int .i64 0,.int .i64 0,.int .i64 0]/\Below w.heap.size w wx)
 case atStart=>exact⟨0,.slice none 0 0,by omega,rfl,ownRt_nil _ _,XB,RB,HB⟩
 case round =>
  clear HB XB RB
  obtain⟨i,v,hi,rfl,I,XB,RB,HB⟩:=hrel
  by_cases ci:i=n
  ·subst ci
   obtain⟨A7,C7,e7, -, -, -⟩:=I.form
   rw [List.length_replicate] at e7
   subst e7
   go_wp2_with (first
    | (refine wpList_loadBig (by rfl) _ 58 (by rfl) Try.underlying58 (fmL (.slice A7 i C7) plE) (by kernel_rfl) (by rfl) (XB.cell0) (fm_val _ _) ?_)
    | (refine wpList_storeBig (by rfl) _ _ 58 (by rfl) (RB) (fmL (.slice A7 i C7) plE) (by kernel_rfl) (by rfl) (by rfl) (by rfl) (by rfl) ?_;rintro V3 XR hs2 hB2 hk2))
   have I2:=I.off RB (by decide) hk2
   exact bodyPost_ret (v:=fmV (.slice A7 i C7) plE) (results_cell_row Try.results24 _ V3 (w.heap.size) 58 (fmL (.slice A7 i C7) plE).toArray (0,0) _ (by rfl) XR Try.underlying58 (by rfl) (by kernel_rfl)) rfl ⟨⟨_,rfl,I2.base (by omega)⟩,hB2 _ _ HB (Nat.le_refl _)⟩
  ·have hlt:(i:Int)<(n:Int):=by omega
   have x0:=XB.cell 0 _ rfl
   have hfw:fb+1<=wr.heap.size:=XB.lt
   go_upto_region 5 with fail
   refine held_tail 5 (fun W=>W.cell? ⟨fb,0,none⟩=some v) (by kernel_rfl) (by kernel_rfl) x0 (fun hHeld=>?_)
   simp only [List.take_succ_cons,List.take_zero,List.drop_succ_cons,List.drop_zero]
   refine tk (v:=?_) 0 rfl ?_ hHeld ?_;rotate_left;(focus ((intro w hSw;(try dsimp only at hSw);go_simp);try with_reducible rfl));simp only[gA,gB,Act.put,gD,gE,gF];refine tk (v:=?_) 1 rfl ?_ hHeld ?_;rotate_left;(focus ((intro w hSw;(try dsimp only at hSw);go_simp);try with_reducible rfl));simp only[gA,gB,gC,Act.put,gD,gE,gF]
   have HD0:Below wr.heap.size wr wr.drew:=(Below.refl _ _).drew
   replace HB:=later HB HD0
   replace RB:=RB.keeps HD0
   replace XB:=XB.keeps HD0
   replace I:=I.keep HD0
   replace hfw:=Nat.le_trans hfw HD0.size
   clear HD0 x0
   refine rd 2 rfl (fun K hK=>?_);simp only[gA,gB,gC,Act.put,gD,gE,gF];go_simp
   go_at_call 44
   (with_reducible refine (cw _).mono ?_)
   rintro _ W6 ⟨rfl,hb1⟩
   replace HB:=later HB hb1
   replace RB:=RB.keeps hb1
   replace XB:=XB.keeps hb1
   replace I:=I.keep hb1
   replace hfw:=Nat.le_trans hfw hb1.size
   clear hb1
   dsimp only
   refine hK.out _ _ (XB.cell 0 _ rfl) (fun hHeld=>?_)
   clear hK K
   refine rd 3 rfl (fun K hK=>?_);simp only[gA,gB,gC,Act.put,gD,gE,gF];go_simp
   have nb:BlkAt (W6.alloc (.cells #[.int .i64 0,.int .i64 1] 27)) W6.heap.size 27 [.int .i64 0,.int .i64 1]:=blk_new _ _ _
   have hb1:Below W6.heap.size W6 (W6.alloc (.cells #[.int .i64 0,.int .i64 1] 27)):=Below.alloc (Below.refl _ _) (Nat.le_refl _) _
   replace HB:=later HB hb1
   replace RB:=RB.keeps hb1
   replace XB:=XB.keeps hb1
   replace I:=I.keep hb1
   replace hfw:=Nat.le_trans hfw hb1.size
   clear hb1
   refine hK.out _ _ (XB.cell 0 _ rfl) (fun hHeld=>?_)
   clear hK K
   generalize W6.alloc (.cells #[.int .i64 0,.int .i64 1] 27)=W7 at *
   generalize W6.heap.size=nbk at *
   refine rd 4 rfl (fun K hK=>?_)
   refine step_catRt (by rfl) _ _ (by rfl) v (List.replicate i (0,1)) (0,1) nbk (by rfl) (by rfl) I nb (by rw [List.length_replicate];omega) hfw ?_
   rintro v' w8 I8 hb8 hW8 hs8
   replace XB:=hW8 _ _ _ (by decide) XB
   replace RB:=hW8 _ _ _ (by decide) RB
   replace HB:=HB.trans (hb8.mono (by omega))
   refine hK.out _ _ (XB.cell 0 _ rfl) (fun _=>wpAnyH_done (by kernel_rfl) ?_ _)
   clear hK K
   have x0:=XB.cell 0 _ rfl
   have fz:=XB.froz 0
   have hxl:=XB.lt
   obtain⟨A8,C8,e8, -⟩:=I8.form
   have e9:(List.replicate i ((0:Int),(1:Int))++[(0,1)]).length=i+1:=by rw [List.length_append,List.length_replicate];rfl
   rw [e9] at e8
   subst e8
   show wpList _ _ _ _ _ _
   go_wp2_with fail
   go_roundg (n-i-1)
   case measure=>omega
   case rel =>
    refine⟨i+1,.slice A8 (i+1) C8,by omega,by go_num, ?_,XB.setCell 0 (.slice A8 (i+1) C8),RB.offCell (by omega) 0 _,Below.setCell HB (by show w.heap.size<=fb;omega) _⟩
    rw [List.replicate_succ']
    exact I8.off XB (by decide) (fun k Tk ck hne h=>h.offCell hne 0 _)
def tmV (A B:Nat->Int×Int) (pN pD:Int):Value:=if (drK A 7&&drK B 7&&rightR pN pD)=true then triedV A B pN pD else .tuple #[dimV zeE,.int .i64 1]
end Go.Proofs.Ytbejmklkicoibaa
