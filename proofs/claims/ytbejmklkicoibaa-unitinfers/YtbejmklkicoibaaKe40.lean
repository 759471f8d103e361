/- orreryref14's join over products; Finder.free; forms in slices. orreryref14's Finder: what is known while a graph is gone through. orreryref14's Finder.form: constants and time. -/
import Derived.Test.YtbejmklkicoibaaKe39
namespace Go.Proofs.Ytbejmklkicoibaa
open Go.ChangeShapes Go.WideShapes Go.ChangeAt Go.RowKit
abbrev FV:=Pro×Value
def fmLs:List FV->List Value
 | []=>[]
 | x :: L=>fmL x.2 x.1.1++fmLs L
theorem fmL_len (s:Value) (E:Nat->Int×Int):(fmL s E).length=15:=rfl
theorem fmLs_append:∀L M,fmLs (L++M)=fmLs L++fmLs M
 | [],_=>rfl
 | x :: L,M=>by simp only [List.cons_append,fmLs,fmLs_append L M,List.append_assoc]
theorem fmLs_at:∀(L:List FV) (i:Nat) (x:FV),L[i]?=some x->∀j u,(fmL x.2 x.1.1)[j]?=some u->(fmLs L)[i*15+j]?=some u
 | [],i,x,h,_,_,_=>by simp at h
 | y :: L,0,x,h,j,u,hj=>by
  have e:y=x:=by simpa using h
  subst e
  have hl:=(List.getElem?_eq_some_iff.1 hj).1
  rw [fmLs,Nat.zero_mul,Nat.zero_add,List.getElem?_append_left hl]
  exact hj
 | y :: L,i+1,x,h,j,u,hj=>by
  rw [fmLs,List.getElem?_append_right (by rw [fmL_len];omega),fmL_len,show (i+1)*15+j-15=i*15+j by omega]
  exact fmLs_at L i x (by simpa using h) j u hj
def FvOk (w:World) (n:Nat) (L:List FV):Prop:=∀x,x∈L->∃A C,x.2=.slice A n C/\RtAt w A n (fun u=>coF (u:Int) x.1.2)
theorem FvOk.keep {w W:World} {n:Nat} {L:List FV} (h:FvOk w n L) (k:Below w.heap.size w W):FvOk W n L:=fun x hx=>by
 obtain⟨A,C,e,r⟩:=h x hx
 exact⟨A,C,e,r.keep k⟩
theorem FvOk.all {w W:World} {n:Nat} {L:List FV} (h:FvOk w n L) (k:∀b cs,BlkAt w b 27 cs->BlkAt W b 27 cs):FvOk W n L:=fun x hx=>by
 obtain⟨A,C,e,r⟩:=h x hx
 exact⟨A,C,e,r.all k⟩
theorem fmLs_one {w:World} {n:Nat}:∀L,FvOk w n L->∀u,u∈fmLs L->u.oneCell'=true
 | [],_,u,h=>by cases h
 | x :: L,hp,u,h=>by
  simp only [fmLs,List.mem_append] at h
  rcases h with h | h
  ·obtain⟨A,c,e, -⟩:=hp x (List.mem_cons_self ..)
   rw [e] at h
   simp only [fmL,List.mem_cons,List.not_mem_nil,or_false] at h
   rcases h with h | h | h | h | h | h | h | h | h | h | h | h | h | h | h <;> rw [h] <;> rfl
  ·exact fmLs_one L (fun y hy=>hp y (List.mem_cons_of_mem _ hy)) u h
def OwnFr (B:Nat) (w:World) (v:Value) (L:List FV):Prop:=w.ownsRow B 58 15 v L.length (fmLs L)
theorem OwnFr.keep {B:Nat} {w w2:World} {v:Value} {L:List FV} (h:OwnFr B w v L) (hb:Below w.heap.size w w2):OwnFr B w2 v L:=own_keep h hb
theorem ownFr_nil (B:Nat) (w:World):OwnFr B w (.slice none 0 0) []:=⟨rfl,Or.inl ⟨rfl,rfl⟩⟩
theorem OwnFr.off {B:Nat} {w W:World} {v:Value} {L:List FV} (h:OwnFr B w v L) {g:Nat} {T:TypeId} {cs:List Value} (hg:BlkAt w g T cs) (hT:T≠58\/g<B) (k:∀k Tk ck,g≠k->BlkAt w k Tk ck->BlkAt W k Tk ck):OwnFr B W v L:=by
 refine⟨h.1, ?_⟩
 rcases h.2 with hn | ⟨b,cap,cur,hv,hb2,hg2,rest⟩
 ·exact .inl hn
 ·refine .inr ⟨b,cap,cur,hv,hb2, ?_,rest⟩
  have ne:g≠b:=fun e=>by
   rcases hT with hT | hT
   ·subst e
    have q:some (Obj.cells cs.toArray T (0,0))=some (Obj.cells cur 58 (0,0)):=hg.symm.trans hg2
    injection q with q
    injection q with _ q2 _
    exact hT q2
   ·omega
  have:=k b 58 cur.toList ne (by show w.heap[b]?=_;rw [hg2])
  simpa [BlkAt] using this
def FrAt (w:World) (A:Option Addr) (L:List FV):Prop:=∀(i:Nat) x,L[i]?=some x->∃b,A=some ⟨b,0,none⟩/\b<w.heap.size/\∀j u,(fmL x.2 x.1.1)[j]?=some u->w.cell? ⟨b,i*15+j,none⟩=some u
theorem FrAt.keep {w W:World} {A:Option Addr} {L:List FV} (h:FrAt w A L) (k:Below w.heap.size w W):FrAt W A L:=fun i x hi=>by
 obtain⟨b,e,l,c⟩:=h i x hi
 exact⟨b,e,Nat.lt_of_lt_of_le l k.size,fun j u hj=>keepsC k (c j u hj) l⟩
theorem OwnFr.form {B:Nat} {w:World} {v:Value} {L:List FV} (h:OwnFr B w v L):∃A C,v=.slice A L.length C/\L.length<=C/\FrAt w A L:=by
 rcases h.2 with ⟨rfl,hn⟩ | ⟨g,cap,cur,rfl, -,hg,hc, -, -,ht⟩
 ·exact⟨none,0,by rw [hn],by omega,fun i x hi=>by rw [List.eq_nil_of_length_eq_zero hn] at hi;simp at hi⟩
 ·have hb:BlkAt w g 58 cur.toList:=by show w.heap[g]?=_;rw [hg]
  refine⟨_,_,rfl,hc,fun i x hi=>⟨g,rfl,hb.lt,fun j u hj=>hb.cell _ _ ?_⟩⟩
  have q:=fmLs_at L i x hi j u hj
  rw [<-ht,List.getElem?_take] at q
  split at q
  ·exact q
  ·cases q
theorem Try.infoFr:(Try.prog.info? 58).map (fun i=>(i.zero,i.size,i.bytes))=some (some (.agg #[.slice none 0 0,.int .i64 0,.int .i64 0,.int .i64 0,.int .i64 0,.int .i64 0,.int .i64 0,.int .i64 0,.int .i64 0,.int .i64 0,.int .i64 0,.int .i64 0,.int .i64 0,.int .i64 0,.int .i64 0]),15,136):=by kernel_rfl
set_option maxRecDepth 8000 in
theorem step_catFr {B n:Nat} {wr:World} {K:Act->World->Prop} {E:Prop} {ops:Array Oper} {o:Oper} {a:Act} {Q:Exit->Act->World->Prop} (hgd:o.guard=none) (s x:Operand)
  (ho:o.op=.call { callee:=.builtin .append,args:=#[s,x],argTypes:=#[60,60] }) (v:Value) (L:List FV) (e:FV) (b:Nat) (hs:a.eval s=v) (hx:a.eval x=.slice (some ⟨b,0,none⟩) 1 1)
  (hown:OwnFr B wr v L) (hbk:BlkAt wr b 58 (fmL e.2 e.1.1)) (hok:FvOk wr n [e]) (hl:L.length<=100000) (hB:B<=wr.heap.size)
  (h:∀v' w',OwnFr B w' v' (L++[e])->Below B wr w'->(∀b T cs,T≠58->BlkAt wr b T cs->BlkAt w' b T cs)->wr.heap.size<=w'.heap.size->K (a.put o.dst v') w'):if Region.wanted o (yielded ops a.tmps)=true then Oper.wp Try.prog o a wr K Q else E:=by
 obtain⟨i0,hi,hz0,hz1,hz2⟩:=info_parts Try.infoFr
 refine step_append_lies wr hgd s x 60 ho B 58 i0 _ 15 136 Try.underlying60 hi hz0 hz1 hz2 rfl (by decide) v L.length (fmLs L) hs hown ⟨b,0,none⟩ 1 1 (fmLs [e]) hx rfl (fun j u hj=>by rw [add_plain];exact hbk.cell0 j u (by simpa [fmLs] using hj)) (fmLs_one [e] hok) (by decide) (by unfold maxLen;omega) (by omega) hB wr.heap.size rfl ?_
 intro g cap w' h1 h2 h3 _
 have lt:∀k,v.ownBlock=some k->B<=k:=fun k hk=>(World.ownsRow.lt hown k hk).1
 refine h _ w' ?_ ((Below.refl B wr).grown h2 hB lt) (fun b T cs hT hb=>?_) h2.size
 ·unfold OwnFr
  rw [List.length_append,fmLs_append]
  exact h1
 ·refine (h2.block b hb.lt (fun e2=>?_)).trans hb
  rcases hown.2 with ⟨hv, -⟩ | ⟨b2,cap,cur,hv, -,hg2, -⟩
  ·rw [hv] at e2;cases e2
  ·rw [hv] at e2
   have e3:b2=b:=by injection e2 with e2;exact e2.symm
   subst e3
   have q:some (Obj.cells cs.toArray T (0,0))=some (Obj.cells cur 58 (0,0)):=hb.symm.trans hg2
   injection q with q
   injection q with _ q2 _
   exact hT q2
theorem wpList_catFr {B n:Nat} {wr:World} {rest:List Oper} {ops:Array Oper} {o:Oper} {a:Act} {Q:Exit->Act->World->Prop} (hgd:o.guard=none) (s x:Operand)
  (ho:o.op=.call { callee:=.builtin .append,args:=#[s,x],argTypes:=#[60,60] }) (v:Value) (L:List FV) (e:FV) (b:Nat) (hs:a.eval s=v) (hx:a.eval x=.slice (some ⟨b,0,none⟩) 1 1)
  (hown:OwnFr B wr v L) (hbk:BlkAt wr b 58 (fmL e.2 e.1.1)) (hok:FvOk wr n [e]) (hl:L.length<=100000) (hB:B<=wr.heap.size)
  (h:∀v' w',OwnFr B w' v' (L++[e])->Below B wr w'->(∀b T cs,T≠58->BlkAt wr b T cs->BlkAt w' b T cs)->wr.heap.size<=w'.heap.size->wpList Try.prog ops Q rest (a.put o.dst v') w'):wpList Try.prog ops Q (o :: rest) a wr :=
 wpList_step fun _ hK=>step_catFr hgd s x ho v L e b hs hx hown hbk hok hl hB fun v' w' h1 h2 h3 h4=>hK _ _ (h v' w' h1 h2 h3 h4)
theorem fjoin_w {G:Nat->Bool} (n:Nat) (hn:n<=500) (a b:Pro) (p:Int×Int) (ha:POk (n:Int) a) (hb:POk (n:Int) b) (hg:FG G b.2) (hp:ROk p) (AA AB:Option Addr) (CA CB:Nat) (w:World) (ra:RtAt w AA n (fun u=>coF (u:Int) a.2)) (rb:RtAt w AB n (fun u=>coF (u:Int) b.2)) :
  Calls Try.prog 45 #[.agg #[.slice AA n CA,.int .i64 (a.1 0).1,.int .i64 (a.1 0).2,.int .i64 (a.1 1).1,.int .i64 (a.1 1).2,.int .i64 (a.1 2).1,.int .i64 (a.1 2).2,.int .i64 (a.1 3).1,.int .i64 (a.1 3).2,.int .i64 (a.1 4).1,.int .i64 (a.1 4).2,.int .i64 (a.1 5).1,.int .i64 (a.1 5).2,.int .i64 (a.1 6).1,.int .i64 (a.1 6).2],.agg #[.slice AB n CB,.int .i64 (b.1 0).1,.int .i64 (b.1 0).2,.int .i64 (b.1 1).1,.int .i64 (b.1 1).2,.int .i64 (b.1 2).1,.int .i64 (b.1 2).2,.int .i64 (b.1 3).1,.int .i64 (b.1 3).2,.int .i64 (b.1 4).1,.int .i64 (b.1 4).2,.int .i64 (b.1 5).1,.int .i64 (b.1 5).2,.int .i64 (b.1 6).1,.int .i64 (b.1 6).2],.agg #[.int .i64 p.1,.int .i64 p.2]] w fun r w'=>PjAns r w' n (timesP a b p)/\Below w.heap.size w w':=by
 refine (fjoin_core n AA AB CA CB a.1 b.1 (fun u=>coF (u:Int) a.2) (fun u=>coF (u:Int) b.2) p hn ha.d hb.d ha.r hb.r hp (fun u _=>coF_ok ha.f) (fun u _=>coF_ok hb.f) w ra rb).mono ?_
 rintro r w' ⟨⟨A',C',hr,hR⟩,hB⟩
 exact⟨join_ans ha hb hg hp rfl hr hR,hB⟩
set_option maxRecDepth 4000 in
set_option maxHeartbeats 4000000 in
theorem ffree_w (fb:Nat) (AN:Option Addr) (n CN:Nat) (X:Nat->Nd) (t:Nat) (ht:t<n) (hf:(X t).k=1->rightR (X t).q (X t).p=true) (w:World) (VN:Nds w AN n X) (c0:w.cell? ⟨fb,0,none⟩=some (.slice AN n CN)) :
  Calls Try.prog 46 #[.pointer (some ⟨fb,0,none⟩),.int .i64 (t:Int)] w fun r w'=>r=.returned (.bool (frB (X t)))/\w'=w:=by
 obtain⟨b,o,hA,hb,hc⟩:=VN t ht
 have n0:w.cell? ⟨b,o+t*22,none⟩=some (.int .i64 (X t).k):=hc 0 _ rfl
 have n4:=hc 4 _ rfl
 have htn:(t:Int)<(n:Int):=by omega
 subst hA
 by_cases c1:(X t).k=1
 ·by_cases c2:(X t).q=0
  ·have e:frB (X t)=true:=by
    have h1:=hf c1
    have h2:(X t).p=1:=by rw [c2] at h1;unfold rightR at h1;simp at h1;omega
    unfold frB
    rw [c1,c2,h2]
    rfl
   rw [e]
   rw [c1] at n0
   rw [c2] at n4
   clear e hc hf c1 c2
   go_enter Try.func46,Try.ntmps46
   go_wp2_with fail
   go_ret
   exact⟨rfl,rfl⟩
  ·have e:frB (X t)=false:=by
    unfold frB
    cases h:eqR ((X t).q,(X t).p) (0,1) with
    | false=>rw [Bool.and_false]
    | true=>exact absurd (congrArg Prod.fst (eqR_iff.1 h)) c2
   rw [e]
   rw [c1] at n0
   have c3:((X t).q==0)=false:=beq_eq_false_iff_ne.2 c2
   clear e hc hf c1
   go_enter Try.func46,Try.ntmps46
   go_wp2_with fail
   go_ret
   exact⟨rfl,rfl⟩
 ·have e:frB (X t)=false:=by unfold frB;rw [decide_eq_false c1,Bool.false_and]
  rw [e]
  clear e hc hf
  go_enter Try.func46,Try.ntmps46
  go_wp2_with fail
  go_ret
  exact⟨rfl,rfl⟩
def FsIn (w:World) (g n m:Nat) (K:Nat->Prop) (Q:Nat->Pro):Prop:=∃cs,BlkAt w g 58 cs/\cs.length=n*15/\∀i,K i->i<n/\∃A' c,RtAt w A' m (fun u=>coF (u:Int) (Q i).2)/\∀j u,(fmL (.slice A' m c) (Q i).1)[j]?=some u->cs[i*15+j]?=some u
theorem FsIn.keep {w W:World} {g n m:Nat} {K:Nat->Prop} {Q:Nat->Pro} (h:FsIn w g n m K Q) (k:Below w.heap.size w W):FsIn W g n m K Q:=by
 obtain⟨cs,b,l,f⟩:=h
 refine⟨cs,b.keeps k,l,fun i hi=>?_⟩
 obtain⟨h1,A',c,h3,h4⟩:=f i hi
 exact⟨h1,A',c,h3.keep k,h4⟩
theorem FsIn.grow {w W:World} {g n m:Nat} {K:Nat->Prop} {Q:Nat->Pro} (h:FsIn w g n m K Q) (b:Below (g+1) w W) (k:∀b cs,BlkAt w b 27 cs->BlkAt W b 27 cs):FsIn W g n m K Q:=by
 obtain⟨cs,bk,l,f⟩:=h
 refine⟨cs,bk.keep b (by omega),l,fun i hi=>?_⟩
 obtain⟨h1,A',c,h3,h4⟩:=f i hi
 exact⟨h1,A',c,h3.all k,h4⟩
theorem FsIn.at {w:World} {g n m:Nat} {K:Nat->Prop} {Q:Nat->Pro} (h:FsIn w g n m K Q) {i:Nat} (hi:K i):i<n/\g<w.heap.size/\∃A' c,RtAt w A' m (fun u=>coF (u:Int) (Q i).2)/\∀j u,(fmL (.slice A' m c) (Q i).1)[j]?=some u->w.cell? ⟨g,i*15+j,none⟩=some u:=by
 obtain⟨cs,b,l,f⟩:=h
 obtain⟨h1,A',c,h3,h4⟩:=f i hi
 exact⟨h1,b.lt,A',c,h3,fun j u hj=>b.cell _ _ (h4 j u hj)⟩
theorem FsIn.congr {w:World} {g n m:Nat} {K J:Nat->Prop} {Q:Nat->Pro} (h:FsIn w g n m K Q) (e:∀i,J i->K i):FsIn w g n m J Q:=by
 obtain⟨cs,b,l,f⟩:=h
 exact⟨cs,b,l,fun i hi=>f i (e i hi)⟩
theorem FsIn.set {w W:World} {g n m i:Nat} {K:Nat->Prop} {Q:Nat->Pro} {Y:Pro} {A9:Option Addr} {c9:Nat} {cs:List Value} (b:BlkAt w g 58 cs) (hl:cs.length=n*15)
  (f:∀i,K i->i<n/\∃A' c,RtAt w A' m (fun u=>coF (u:Int) (Q i).2)/\∀j u,(fmL (.slice A' m c) (Q i).1)[j]?=some u->cs[i*15+j]?=some u)
  (hi:i<n) (fy:RtAt w A9 m (fun u=>coF (u:Int) Y.2)) (bW:BlkAt W g 58 (cs.take (i*15)++fmL (.slice A9 m c9) Y.1++cs.drop (i*15+15)))
  (k:∀k Tk ck,g≠k->BlkAt w k Tk ck->BlkAt W k Tk ck):FsIn W g n m (fun j=>K j\/j=i) (fun j=>if j=i then Y else Q j):=by
 have h0:(cs.take (i*15)).length=i*15:=by rw [List.length_take];omega
 refine⟨_,bW, ?_,fun q hq=>?_⟩
 ·simp only [List.length_append,h0,fmL_len,List.length_drop]
  omega
 ·by_cases e:q=i
  ·subst e
   simp only [if_true]
   refine⟨hi,A9,c9,fy.other b (by decide) k,fun j u hj=>?_⟩
   have hj2:=(List.getElem?_eq_some_iff.1 hj).1
   rw [fmL_len] at hj2
   rw [List.append_assoc,List.getElem?_append_right (by omega),h0,show q*15+j-q*15=j by omega,List.getElem?_append_left (by rw [fmL_len];omega)]
   exact hj
  ·simp only [if_neg e]
   obtain⟨h1,A',c,h3,h4⟩:=f q (hq.resolve_right e)
   refine⟨h1,A',c,h3.other b (by decide) k,fun j u hj=>?_⟩
   have hj2:=(List.getElem?_eq_some_iff.1 hj).1
   rw [fmL_len] at hj2
   have g1:=h4 j u hj
   rcases Nat.lt_or_ge q i with c1 | c1
   ·have:q*15+j<i*15:=by omega
    rw [List.append_assoc,List.getElem?_append_left (by omega),List.getElem?_take_of_lt this]
    exact g1
   ·have:i*15+15<=q*15+j:=by omega
    rw [List.getElem?_append_right (by simp only [List.length_append,h0,fmL_len];omega)]
    simp only [List.length_append,h0,fmL_len]
    rw [List.getElem?_drop,show i*15+15+(q*15+j-(i*15+15))=q*15+j by omega]
    exact g1
def fdL (AN:Option Addr) (n CN:Nat) (A0:Option Addr) (m C0:Nat) (A1:Option Addr) (C1:Nat) (A2:Option Addr) (C2:Nat) (S:Nat->Int×Int) (g:Nat) (vr:Value):List Value:=[.slice AN n CN,.slice A0 m C0,.slice A1 m C1,.slice A2 m C2,.int .i64 (S 0).1,.int .i64 (S 0).2,.int .i64 (S 1).1,.int .i64 (S 1).2,.int .i64 (S 2).1,.int .i64 (S 2).2,.int .i64 (S 3).1,.int .i64 (S 3).2,.int .i64 (S 4).1,.int .i64 (S 4).2,.int .i64 (S 5).1,.int .i64 (S 5).2,.int .i64 (S 6).1,.int .i64 (S 6).2,.slice (some ⟨g,0,none⟩) n n,vr]
structure FSt (w0:World) (fb:Nat) (AN:Option Addr) (n CN:Nat) (A0:Option Addr) (m C0:Nat) (A1:Option Addr) (C1:Nat) (A2:Option Addr) (C2:Nat) (S:Nat->Int×Int) (g:Nat) (K:Nat->Prop) (Q:Nat->Pro) (vr:Value) (L:List FV) (w:World):Prop where
 fd:BlkAt w fb 62 (fdL AN n CN A0 m C0 A1 C1 A2 C2 S g vr)
 hb:Below w0.heap.size w0 w
 r2:RtAt w A2 m (fun _=>(0,1))
 fs:FsIn w g n m K Q
 ow:OwnFr (fb+1) w vr L
 ok:FvOk w m L
 gl:g<fb
 lo:w0.heap.size<=g
section
variable {w0 w W:World} {fb:Nat} {AN:Option Addr} {n CN:Nat} {A0:Option Addr} {m C0:Nat} {A1:Option Addr} {C1:Nat} {A2:Option Addr} {C2:Nat} {S:Nat->Int×Int} {g:Nat} {K:Nat->Prop} {Q:Nat->Pro} {vr:Value} {L:List FV}
theorem FSt.keep (h:FSt w0 fb AN n CN A0 m C0 A1 C1 A2 C2 S g K Q vr L w) (k:Below w.heap.size w W):FSt w0 fb AN n CN A0 m C0 A1 C1 A2 C2 S g K Q vr L W :=
 ⟨h.fd.keeps k,later h.hb k,h.r2.keep k,h.fs.keep k,h.ow.keep k,h.ok.keep k,h.gl,h.lo⟩
theorem FSt.rats {W':World} (h:FSt w0 fb AN n CN A0 m C0 A1 C1 A2 C2 S g K Q vr L w) (hb8:Below (fb+1) w W') (k:∀b T cs,T≠58->BlkAt w b T cs->BlkAt W' b T cs) (v':Value):∀b cs,BlkAt w b 27 cs->BlkAt (W'.setCell ⟨fb,19,none⟩ v') b 27 cs:=fun b cs hb=>by
 have fd8:=h.fd.keep hb8 (Nat.lt_succ_self fb)
 have q:=k b _ _ (by decide) hb
 refine q.offCell (fun e=>?_) 19 _
 subst e
 have q2:some (Obj.cells (fdL AN n CN A0 m C0 A1 C1 A2 C2 S g vr).toArray 62 (0,0))=some (Obj.cells cs.toArray 27 (0,0)):=fd8.symm.trans q
 injection q2 with q2
 injection q2 with _ q3 _
 exact absurd q3 (by decide)
theorem FSt.grown {W':World} {v':Value} {e:FV} (h:FSt w0 fb AN n CN A0 m C0 A1 C1 A2 C2 S g K Q vr L w) (I8:OwnFr (fb+1) W' v' (L++[e])) (hb8:Below (fb+1) w W')
  (k:∀b T cs,T≠58->BlkAt w b T cs->BlkAt W' b T cs) (he:FvOk w m [e]):FSt w0 fb AN n CN A0 m C0 A1 C1 A2 C2 S g K Q v' (L++[e]) (W'.setCell ⟨fb,19,none⟩ v'):=by
 have fd8:=h.fd.keep hb8 (Nat.lt_succ_self fb)
 have gl:=h.gl
 have lo:=h.lo
 have hset:Below fb w (W'.setCell ⟨fb,19,none⟩ v'):=Below.setCell (hb8.mono (Nat.le_succ fb)) (Nat.le_refl fb) _
 have kr:=h.rats hb8 k v'
 refine⟨fd8.setCell 19 v',h.hb.trans (hset.mono (by omega)),h.r2.all kr,h.fs.grow (hset.mono (by omega)) kr,I8.off fd8 (Or.inr (Nat.lt_succ_self fb)) (fun k Tk ck hne q=>q.offCell hne 19 _),fun x hx=>?_,h.gl,h.lo⟩
 rcases List.mem_append.1 hx with q | q
 ·obtain⟨A,C,e,r⟩:=h.ok x q
  exact⟨A,C,e,r.all kr⟩
 ·obtain⟨A,C,e,r⟩:=he x q
  exact⟨A,C,e,r.all kr⟩
end
def FmAns (w0:World) (fb:Nat) (AN:Option Addr) (n CN:Nat) (A0:Option Addr) (m C0:Nat) (A1:Option Addr) (C1:Nat) (A2:Option Addr) (C2:Nat) (S:Nat->Int×Int) (g:Nat) (K:Nat->Prop) (Q:Nat->Pro) (L:List FV) (r:Ending) (w:World):Option (Pro×List Pro)->Prop
 | some (Y,Z)=>∃A C vr M,r=.returned (.tuple #[fmV (.slice A m C) Y.1,.bool true])/\RtAt w A m (fun u=>coF (u:Int) Y.2)/\FSt w0 fb AN n CN A0 m C0 A1 C1 A2 C2 S g K Q vr (L++M) w/\M.map (·.1)=Z
 | none=>∃A C E,r=.returned (.tuple #[fmV (.slice A m C) E,.bool false])
structure FFt (w0:World) (fb bn on n CN:Nat) (A0:Option Addr) (m C0:Nat) (A1:Option Addr) (C1:Nat) (A2:Option Addr) (C2:Nat) (S:Nat->Int×Int) (g:Nat) (KN:Nat->Prop) (Q:Nat->Pro) (vr:Value) (L:List FV) (w:World) (nb eb:Nat) (x:Nd) (Ae:Option Addr) (Ce:Nat) (W:World):Prop where
 t:FSt w0 fb (some ⟨bn,on,none⟩) n CN A0 m C0 A1 C1 A2 C2 S g KN Q vr L W
 nd:BlkAt W nb 54 (ndL x)
 em:BlkAt W eb 58 (fmL (.slice Ae m Ce) plE)
 rb:BlkAt W w.heap.size 58 [.slice none 0 0,.int .i64 0,.int .i64 0,.int .i64 0,.int .i64 0,.int .i64 0,.int .i64 0,.int .i64 0,.int .i64 0,.int .i64 0,.int .i64 0,.int .i64 0,.int .i64 0,.int .i64 0,.int .i64 0]
 re:RtAt W Ae m (fun _=>(0,1))
 hw:Below w.heap.size w W
 h1:w.heap.size<nb
 h2:nb<eb
theorem FFt.keep {w0:World} {fb bn on n CN:Nat} {A0:Option Addr} {m C0:Nat} {A1:Option Addr} {C1:Nat} {A2:Option Addr} {C2:Nat} {S:Nat->Int×Int} {g:Nat} {KN:Nat->Prop} {Q:Nat->Pro} {vr:Value} {L:List FV} {w:World} {nb eb:Nat} {x:Nd} {Ae:Option Addr} {Ce:Nat} {W W':World} (h:FFt w0 fb bn on n CN A0 m C0 A1 C1 A2 C2 S g KN Q vr L w nb eb x Ae Ce W) (k:Below W.heap.size W W'):FFt w0 fb bn on n CN A0 m C0 A1 C1 A2 C2 S g KN Q vr L w nb eb x Ae Ce W' :=
 ⟨h.t.keep k,h.nd.keeps k,h.em.keeps k,h.rb.keeps k,h.re.keep k,later h.hw k,h.h1,h.h2⟩
theorem co_nil (u:Int):coF u []=(0,1):=rfl
set_option maxRecDepth 4000 in
set_option maxHeartbeats 8000000 in
theorem fform_const (w0:World) (fb bn on n CN:Nat) (A0:Option Addr) (m C0:Nat) (A1:Option Addr) (C1:Nat) (A2:Option Addr) (C2:Nat) (S:Nat->Int×Int) (g:Nat) (KN:Nat->Prop) (Q:Nat->Pro) (vr:Value) (L:List FV) (X:Nat->Nd) (x:Nd) (i:Nat) (hm:m<=500) (hi:i<n) (hx:x=X i) (w:World) (VN:Nds w0 (some ⟨bn,on,none⟩) n X) (T:FSt w0 fb (some ⟨bn,on,none⟩) n CN A0 m C0 A1 C1 A2 C2 S g KN Q vr L w) (hk:x.k=1) :
  Calls Try.prog 25 #[.pointer (some ⟨fb,0,none⟩),.int .i64 (i:Int)] w fun r w'=>FmAns w0 fb (some ⟨bn,on,none⟩) n CN A0 m C0 A1 C1 A2 C2 S g KN Q L r w' (some ((x.E,[]),[]))/\Below fb w w':=by
 have hfb:fb<w.heap.size:=T.fd.lt
 obtain⟨b,o,hA,hb, -⟩:=(VN.keep T.hb) i hi
 have hb0:bn=b:=by injection hA with hA;injection hA with hA
 subst hb0
 have xc:Hid (∀j c,(ndL x)[j]?=some c->w.cell? ⟨bn,on+i*22+j,none⟩=some c):=by rw [hx];exact ((VN.keep T.hb).at (i:=i) hi).2
 clear hA
 replace hx:Hid (x=X i):=hx
 have hlt:(i:Int)<(n:Int):=by omega
 have ce:=fun W=>fempty_w m hm W
 have T0:=T
 obtain⟨RB,HB⟩:=blks1 w 58 [.slice none 0 0,.int .i64 0,.int .i64 0,.int .i64 0,.int .i64 0,.int .i64 0,.int .i64 0,.int .i64 0,.int .i64 0,.int .i64 0,.int .i64 0,.int .i64 0,.int .i64 0,.int .i64 0,.int .i64 0]
 go_enter Try.func25,Try.ntmps25
 go_upto_region 1 with fail
 generalize (w.alloc (.cells #[.slice none 0 0,.int .i64 0,.int .i64 0,.int .i64 0,.int .i64 0,.int .i64 0,.int .i64 0,.int .i64 0,.int .i64 0,.int .i64 0,.int .i64 0,.int .i64 0,.int .i64 0,.int .i64 0,.int .i64 0] 58))=V1 at *
 replace T:=T.keep HB
 have c0:=T.fd.cell 0 _ rfl
 have hrl:w.heap.size<V1.heap.size:=RB.lt
 have xl:bn<V1.heap.size:=Nat.lt_of_lt_of_le hb HB.size
 replace xc:Hid (∀j c,(ndL x)[j]?=some c->V1.cell? ⟨bn,on+i*22+j,none⟩=some c):=fun j c hj=>keepsC HB (xc.out j c hj) hb
 go_upto_region 2 with (first
  | (refine wpList_loadBig (by rfl) _ 54 (by rfl) Try.underlying54 (ndL x) (by kernel_rfl) (by rfl) (xc.out) (nd_val x) ?_)
  | (refine wpList_storeBig (by rfl) _ _ 54 (by rfl) (blk_new _ _ _) (ndL x) (by kernel_rfl) (by rfl) (by rfl) (by rfl) (by rfl) ?_;rintro V2 XR hs2 hB2 hk2))
 have grw:Below V1.heap.size V1 V2:=hB2 _ _ (Below.alloc (Below.refl _ _) (Nat.le_refl _) _) (Nat.le_refl _)
 have XN:=XR
 obtain⟨nb,hnb⟩:∃nb,nb=V1.heap.size:=⟨_,rfl⟩
 have hnb2:w.heap.size<nb:=by omega
 rw [<-hnb] at XN ⊢
 replace T:=T.keep grw
 replace RB:=RB.keeps grw
 replace HB:=later HB grw
 clear XR hB2 hk2 hs2 grw c0 xc xl hrl hnb
 have c1:=T.fd.cell 1 _ rfl
 try simp only [Act.put]
 go_upto_region 3 with (first
  | (go_at_call 24;(with_reducible refine (ce _).mono ?_);rintro _ W3 ⟨⟨ve,rfl,Ie⟩,hb2⟩;have hw2:w.heap.size<=V2.heap.size:=HB.size;replace HB:=later HB hb2;replace RB:=RB.keeps hb2;replace XN:=XN.keeps hb2;replace T:=T.keep hb2;replace Ie:=Ie.base hw2;clear hb2 c1 hw2;obtain⟨Ae,Ce,e7, -,re,hAe⟩:=Ie.form;rw [List.length_replicate] at e7 re hAe;subst e7;clear Ie)
  | (refine wpList_storeBig (by rfl) _ _ 58 (by rfl) (blk_new _ _ _) (fmL (.slice Ae m Ce) plE) (by kernel_rfl) (by rfl) (by rfl) (by rfl) (by rfl) ?_;rintro V4 XR hs2 hB2 hk2))
 replace re:RtAt W3 Ae m (fun _=>(0,1)):=re.congr fun u hu=>by rw [List.getD_eq_getElem?_getD,List.getElem?_replicate,if_pos hu];rfl
 have grw:Below W3.heap.size W3 V4:=hB2 _ _ (Below.alloc (Below.refl _ _) (Nat.le_refl _) _) (Nat.le_refl _)
 have XE:=XR
 obtain⟨eb,heb⟩:∃eb,eb=W3.heap.size:=⟨_,rfl⟩
 have hnl:nb<W3.heap.size:=XN.lt
 have heb2:nb<eb:=by omega
 rw [<-heb] at XE ⊢
 have U:FFt w0 fb bn on n CN A0 m C0 A1 C1 A2 C2 S g KN Q vr L w nb eb x Ae Ce V4:=⟨T.keep grw,XN.keeps grw,XE,RB.keeps grw,re.keep grw,later HB grw,hnb2,heb2⟩
 clear XR hB2 hk2 hs2 grw XN XE RB T re HB heb hnb2 heb2 hnl ce
 try simp only [Act.put]
 have y0:V4.cell? ⟨nb,0,none⟩=some (.int .i64 x.k):=U.nd.cell 0 _ rfl
 rw [hk] at y0
 replace hk:Hid (x.k=1):=hk
 go_upto_region 5 with fail
 go_upto_region 6 with (first
  | (refine wpList_loadBig (by rfl) _ 30 (by rfl) Try.underlying30 (dimL x.E) (by kernel_rfl) (by rfl) ((fun j c hj=>by have q:=U.nd.cell (8+j) c (by rw [Nat.add_comm];exact hj);exact q)) (dim_valU x.E) ?_)
  | (refine wpList_storeMid (off:=1) (by rfl) _ _ 30 (by rfl) U.em (dimL x.E) (by kernel_rfl) (by rw [fmL_len,dimL_len];decide) (by rfl) (by rfl) (by rfl) ?_;rintro V5 XE5 hs3 hB3 hk3))
 have XE6:BlkAt V5 eb 58 (fmL (.slice Ae m Ce) x.E):=XE5
 have h1:=U.h1
 have h2:=U.h2
 have HB5:Below w.heap.size w V5:=hB3 _ _ U.hw (by omega)
 have RB5:=hk3 _ _ _ (by omega) U.rb
 have re5:=U.re.other U.em (by decide) hk3
 clear XE5 hB3 hs3 hk3 y0
 go_wp2_with (first
  | (refine wpList_loadBig (by rfl) _ 58 (by rfl) Try.underlying58 (fmL (.slice Ae m Ce) x.E) (by kernel_rfl) (by rfl) (XE6.cell0) (fm_val _ _) ?_)
  | (refine wpList_storeBig (by rfl) _ _ 58 (by rfl) (RB5) (fmL (.slice Ae m Ce) x.E) (by kernel_rfl) (by rfl) (by rfl) (by rfl) (by rfl) ?_;rintro V6 XR hs2 hB2 hk2))
 have HB6:=hB2 _ _ HB5 (Nat.le_refl _)
 exact bodyPost_ret (v:=.tuple #[fmV (.slice Ae m Ce) x.E,.bool true]) (results_cell_tmp Try.results25 _ V6 w.heap.size 58 (fmL (.slice Ae m Ce) x.E).toArray (0,0) _ (by rfl) XR Try.underlying58 (by rfl) (by kernel_rfl) (by rfl)) rfl ⟨⟨Ae,Ce,vr,[],rfl,(re5.other RB5 (by decide) hk2).congr (fun u _=>(co_nil u).symm),by rw [List.append_nil];exact T0.keep HB6,rfl⟩,HB6.mono (by omega)⟩
set_option maxRecDepth 4000 in
set_option maxHeartbeats 8000000 in
theorem fform_time (w0:World) (fb bn on n CN:Nat) (A0:Option Addr) (m C0:Nat) (A1:Option Addr) (C1:Nat) (A2:Option Addr) (C2:Nat) (S:Nat->Int×Int) (g:Nat) (KN:Nat->Prop) (Q:Nat->Pro) (vr:Value) (L:List FV) (X:Nat->Nd) (x:Nd) (i:Nat) (hm:m<=500) (hi:i<n) (hx:x=X i) (w:World) (VN:Nds w0 (some ⟨bn,on,none⟩) n X) (T:FSt w0 fb (some ⟨bn,on,none⟩) n CN A0 m C0 A1 C1 A2 C2 S g KN Q vr L w) (hk:x.k=15) :
  Calls Try.prog 25 #[.pointer (some ⟨fb,0,none⟩),.int .i64 (i:Int)] w fun r w'=>FmAns w0 fb (some ⟨bn,on,none⟩) n CN A0 m C0 A1 C1 A2 C2 S g KN Q L r w' (some ((S,[]),[]))/\Below fb w w':=by
 have hfb:fb<w.heap.size:=T.fd.lt
 obtain⟨b,o,hA,hb, -⟩:=(VN.keep T.hb) i hi
 have hb0:bn=b:=by injection hA with hA;injection hA with hA
 subst hb0
 have xc:Hid (∀j c,(ndL x)[j]?=some c->w.cell? ⟨bn,on+i*22+j,none⟩=some c):=by rw [hx];exact ((VN.keep T.hb).at (i:=i) hi).2
 clear hA
 replace hx:Hid (x=X i):=hx
 have hlt:(i:Int)<(n:Int):=by omega
 have ce:=fun W=>fempty_w m hm W
 have T0:=T
 obtain⟨RB,HB⟩:=blks1 w 58 [.slice none 0 0,.int .i64 0,.int .i64 0,.int .i64 0,.int .i64 0,.int .i64 0,.int .i64 0,.int .i64 0,.int .i64 0,.int .i64 0,.int .i64 0,.int .i64 0,.int .i64 0,.int .i64 0,.int .i64 0]
 go_enter Try.func25,Try.ntmps25
 go_upto_region 1 with fail
 generalize (w.alloc (.cells #[.slice none 0 0,.int .i64 0,.int .i64 0,.int .i64 0,.int .i64 0,.int .i64 0,.int .i64 0,.int .i64 0,.int .i64 0,.int .i64 0,.int .i64 0,.int .i64 0,.int .i64 0,.int .i64 0,.int .i64 0] 58))=V1 at *
 replace T:=T.keep HB
 have c0:=T.fd.cell 0 _ rfl
 have hrl:w.heap.size<V1.heap.size:=RB.lt
 have xl:bn<V1.heap.size:=Nat.lt_of_lt_of_le hb HB.size
 replace xc:Hid (∀j c,(ndL x)[j]?=some c->V1.cell? ⟨bn,on+i*22+j,none⟩=some c):=fun j c hj=>keepsC HB (xc.out j c hj) hb
 go_upto_region 2 with (first
  | (refine wpList_loadBig (by rfl) _ 54 (by rfl) Try.underlying54 (ndL x) (by kernel_rfl) (by rfl) (xc.out) (nd_val x) ?_)
  | (refine wpList_storeBig (by rfl) _ _ 54 (by rfl) (blk_new _ _ _) (ndL x) (by kernel_rfl) (by rfl) (by rfl) (by rfl) (by rfl) ?_;rintro V2 XR hs2 hB2 hk2))
 have grw:Below V1.heap.size V1 V2:=hB2 _ _ (Below.alloc (Below.refl _ _) (Nat.le_refl _) _) (Nat.le_refl _)
 have XN:=XR
 obtain⟨nb,hnb⟩:∃nb,nb=V1.heap.size:=⟨_,rfl⟩
 have hnb2:w.heap.size<nb:=by omega
 rw [<-hnb] at XN ⊢
 replace T:=T.keep grw
 replace RB:=RB.keeps grw
 replace HB:=later HB grw
 clear XR hB2 hk2 hs2 grw c0 xc xl hrl hnb
 have c1:=T.fd.cell 1 _ rfl
 try simp only [Act.put]
 go_upto_region 3 with (first
  | (go_at_call 24;(with_reducible refine (ce _).mono ?_);rintro _ W3 ⟨⟨ve,rfl,Ie⟩,hb2⟩;have hw2:w.heap.size<=V2.heap.size:=HB.size;replace HB:=later HB hb2;replace RB:=RB.keeps hb2;replace XN:=XN.keeps hb2;replace T:=T.keep hb2;replace Ie:=Ie.base hw2;clear hb2 c1 hw2;obtain⟨Ae,Ce,e7, -,re,hAe⟩:=Ie.form;rw [List.length_replicate] at e7 re hAe;subst e7;clear Ie)
  | (refine wpList_storeBig (by rfl) _ _ 58 (by rfl) (blk_new _ _ _) (fmL (.slice Ae m Ce) plE) (by kernel_rfl) (by rfl) (by rfl) (by rfl) (by rfl) ?_;rintro V4 XR hs2 hB2 hk2))
 replace re:RtAt W3 Ae m (fun _=>(0,1)):=re.congr fun u hu=>by rw [List.getD_eq_getElem?_getD,List.getElem?_replicate,if_pos hu];rfl
 have grw:Below W3.heap.size W3 V4:=hB2 _ _ (Below.alloc (Below.refl _ _) (Nat.le_refl _) _) (Nat.le_refl _)
 have XE:=XR
 obtain⟨eb,heb⟩:∃eb,eb=W3.heap.size:=⟨_,rfl⟩
 have hnl:nb<W3.heap.size:=XN.lt
 have heb2:nb<eb:=by omega
 rw [<-heb] at XE ⊢
 have U:FFt w0 fb bn on n CN A0 m C0 A1 C1 A2 C2 S g KN Q vr L w nb eb x Ae Ce V4:=⟨T.keep grw,XN.keeps grw,XE,RB.keeps grw,re.keep grw,later HB grw,hnb2,heb2⟩
 clear XR hB2 hk2 hs2 grw XN XE RB T re HB heb hnb2 heb2 hnl ce
 try simp only [Act.put]
 have y0:V4.cell? ⟨nb,0,none⟩=some (.int .i64 x.k):=U.nd.cell 0 _ rfl
 rw [hk] at y0
 replace hk:Hid (x.k=15):=hk
 have FD:=U.t.fd
 have RB5:=U.rb
 go_wp2_with (first
  | (refine wpList_loadBig (by rfl) _ 58 (by rfl) Try.underlying58 (fmL (.slice A2 m C2) S) (by kernel_rfl) (by rfl) ((fun j c hj=>by have q:=FD.cell (3+j) c (by rw [Nat.add_comm];exact List.getElem?_append_left (l₂:=[.slice (some ⟨g,0,none⟩) n n,vr]) (List.getElem?_eq_some_iff.1 hj).1 ▸ hj);exact q)) (fm_val _ _) ?_)
  | (refine wpList_storeBig (by rfl) _ _ 58 (by rfl) (RB5) (fmL (.slice A2 m C2) S) (by kernel_rfl) (by rfl) (by rfl) (by rfl) (by rfl) ?_;rintro V6 XR hs2 hB2 hk2))
 have HB6:=hB2 _ _ U.hw (Nat.le_refl _)
 exact bodyPost_ret (v:=.tuple #[fmV (.slice A2 m C2) S,.bool true]) (results_cell_tmp Try.results25 _ V6 w.heap.size 58 (fmL (.slice A2 m C2) S).toArray (0,0) _ (by rfl) XR Try.underlying58 (by rfl) (by kernel_rfl) (by rfl)) rfl ⟨⟨A2,C2,vr,[],rfl,(U.t.r2.other RB5 (by decide) hk2).congr (fun u _=>(co_nil u).symm),by rw [List.append_nil];exact T0.keep HB6,rfl⟩,HB6.mono (by omega)⟩
end Go.Proofs.Ytbejmklkicoibaa
