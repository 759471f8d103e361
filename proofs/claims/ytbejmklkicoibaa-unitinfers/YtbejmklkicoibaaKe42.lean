/- orreryref14's Finder.form: what is behind rules that grow. -/
import Derived.Test.YtbejmklkicoibaaKe40
namespace Go.Proofs.Ytbejmklkicoibaa
open Go.ChangeShapes Go.WideShapes Go.ChangeAt Go.RowKit
def ApartF (v:Value) (b:Nat):Prop:=v.ownBlock≠some b
set_option maxRecDepth 8000 in
theorem step_catFr2 {B n:Nat} {wr:World} {K:Act->World->Prop} {E:Prop} {ops:Array Oper} {o:Oper} {a:Act} {Q:Exit->Act->World->Prop} (hgd:o.guard=none) (s x:Operand)
  (ho:o.op=.call { callee:=.builtin .append,args:=#[s,x],argTypes:=#[60,60] }) (v:Value) (L:List FV) (e:FV) (b:Nat) (hs:a.eval s=v) (hx:a.eval x=.slice (some ⟨b,0,none⟩) 1 1)
  (hown:OwnFr B wr v L) (hbk:BlkAt wr b 58 (fmL e.2 e.1.1)) (hok:∃A C,e.2=.slice A n C) (hl:L.length<=100000) (hB:B<=wr.heap.size)
  (h:∀v' w',OwnFr B w' v' (L++[e])->Below B wr w'->(∀b T cs,ApartF v b->BlkAt wr b T cs->BlkAt w' b T cs)->(∀b,b<wr.heap.size->ApartF v b->ApartF v' b)->wr.heap.size<=w'.heap.size->K (a.put o.dst v') w'):if Region.wanted o (yielded ops a.tmps)=true then Oper.wp Try.prog o a wr K Q else E:=by
 obtain⟨i0,hi,hz0,hz1,hz2⟩:=info_parts Try.infoFr
 have h1:∀u,u∈fmLs [e]->u.oneCell'=true:=fun u h=>by
  obtain⟨A,c,e2⟩:=hok
  simp only [fmLs,List.append_nil] at h
  rw [e2] at h
  simp only [fmL,List.mem_cons,List.not_mem_nil,or_false] at h
  rcases h with h | h | h | h | h | h | h | h | h | h | h | h | h | h | h <;> rw [h] <;> rfl
 refine step_append_lies wr hgd s x 60 ho B 58 i0 _ 15 136 Try.underlying60 hi hz0 hz1 hz2 rfl (by decide) v L.length (fmLs L) hs hown ⟨b,0,none⟩ 1 1 (fmLs [e]) hx rfl (fun j u hj=>by rw [add_plain];exact hbk.cell0 j u (by simpa [fmLs] using hj)) h1 (by decide) (by unfold maxLen;omega) (by omega) hB wr.heap.size rfl ?_
 intro g cap w' h1 h2 h3 _
 have lt:∀k,v.ownBlock=some k->B<=k:=fun k hk=>(World.ownsRow.lt hown k hk).1
 refine h _ w' ?_ ((Below.refl B wr).grown h2 hB lt) (fun b T cs hT hb=>?_) (fun b hb hv e2=>?_) h2.size
 ·unfold OwnFr
  rw [List.length_append,fmLs_append]
  exact h1
 ·exact (h2.block b hb.lt (fun e2=>hT e2.symm)).trans hb
 ·have e3:g=b:=by
   have:(some g:Option Nat)=some b:=e2
   injection this
  subst e3
  rcases h3 with h3 | h3
  ·exact hv h3
  ·omega
theorem OwnFr.off2 {B:Nat} {w W:World} {v:Value} {L:List FV} (h:OwnFr B w v L) {g:Nat} (hg:ApartF v g) (k:∀k Tk ck,g≠k->BlkAt w k Tk ck->BlkAt W k Tk ck):OwnFr B W v L:=by
 refine⟨h.1, ?_⟩
 rcases h.2 with hn | ⟨b,cap,cur,hv,hb2,hg2,rest⟩
 ·exact .inl hn
 ·refine .inr ⟨b,cap,cur,hv,hb2, ?_,rest⟩
  have ne:g≠b:=fun e=>by
   subst e
   exact hg (by rw [hv];rfl)
  have:=k b 58 cur.toList ne (by show w.heap[b]?=_;rw [hg2])
  simpa [BlkAt] using this
theorem OwnFr.apart {B:Nat} {w:World} {v:Value} {L:List FV} (h:OwnFr B w v L) {b:Nat} (hb:w.heap.size<=b):ApartF v b:=fun e=>by
 have:=(World.ownsRow.lt h b e).2
 omega
section
variable {w0 w W:World} {fb:Nat} {AN:Option Addr} {n CN:Nat} {A0:Option Addr} {m C0:Nat} {A1:Option Addr} {C1:Nat} {A2:Option Addr} {C2:Nat} {S:Nat->Int×Int} {g:Nat} {K:Nat->Prop} {Q:Nat->Pro} {vr:Value} {L:List FV}
theorem FSt.off (h:FSt w0 fb AN n CN A0 m C0 A1 C1 A2 C2 S g K Q vr L w) {gx:Nat} {cs:List Value} (hg:BlkAt w gx 58 cs) (hx:fb<gx) (ha:ApartF vr gx) (hB:∀B w0,Below B w0 w->B<=gx->Below B w0 W) (k:∀k Tk ck,gx≠k->BlkAt w k Tk ck->BlkAt W k Tk ck):FSt w0 fb AN n CN A0 m C0 A1 C1 A2 C2 S g K Q vr L W:=by
 have gl:=h.gl
 have lo:=h.lo
 refine⟨k _ _ _ (by omega) h.fd,hB _ _ h.hb (by omega),h.r2.other hg (by decide) k, ?_,h.ow.off2 ha k,fun x hx=>?_,h.gl,h.lo⟩
 ·obtain⟨cs2,b,l,f⟩:=h.fs
  refine⟨cs2,k _ _ _ (by omega) b,l,fun i hi=>?_⟩
  obtain⟨h1,A',c,h3,h4⟩:=f i hi
  exact⟨h1,A',c,h3.other hg (by decide) k,h4⟩
 ·obtain⟨A,C,e,r⟩:=h.ok x hx
  exact⟨A,C,e,r.other hg (by decide) k⟩
end
theorem OwnFr.kinds {B:Nat} {W W':World} {v:Value} {L:List FV} (h:OwnFr B W v L) (k:∀b T cs,ApartF v b->BlkAt W b T cs->BlkAt W' b T cs):∀b T cs,T≠58->BlkAt W b T cs->BlkAt W' b T cs:=fun b T cs hT hb=>k b T cs (fun e2=>by
 rcases h.2 with ⟨hv, -⟩ | ⟨b2,cap,cur,hv, -,hg2, -⟩
 ·rw [hv] at e2;cases e2
 ·rw [hv] at e2
  have e3:b2=b:=by
   have:(some b2:Option Nat)=some b:=e2
   injection this
  subst e3
  have q:some (Obj.cells cs.toArray T (0,0))=some (Obj.cells cur 58 (0,0)):=hb.symm.trans hg2
  injection q with q
  injection q with _ q2 _
  exact hT q2) hb
theorem FFt.grown {w0:World} {fb bn on n CN:Nat} {A0:Option Addr} {m C0:Nat} {A1:Option Addr} {C1:Nat} {A2:Option Addr} {C2:Nat} {S:Nat->Int×Int} {g:Nat} {KN:Nat->Prop} {Q:Nat->Pro} {vr:Value} {L:List FV} {w:World} {nb eb:Nat} {x:Nd} {Ae:Option Addr} {Ce:Nat} {W W':World} {v':Value} (U:FFt w0 fb bn on n CN A0 m C0 A1 C1 A2 C2 S g KN Q vr L w nb eb x Ae Ce W) (hfb:fb<w.heap.size) (a0:∀b,w.heap.size<=b->ApartF vr b) (hb8:Below (fb+1) W W')
  (k:∀b T cs,ApartF vr b->BlkAt W b T cs->BlkAt W' b T cs) (ka:∀b,b<W.heap.size->ApartF vr b->ApartF v' b) :
  BlkAt (W'.setCell ⟨fb,19,none⟩ v') fb 62 (fdL (some ⟨bn,on,none⟩) n CN A0 m C0 A1 C1 A2 C2 S g v')/\BlkAt (W'.setCell ⟨fb,19,none⟩ v') eb 58 (fmL (.slice Ae m Ce) plE)/\BlkAt (W'.setCell ⟨fb,19,none⟩ v') nb 54 (ndL x)/\BlkAt (W'.setCell ⟨fb,19,none⟩ v') w.heap.size 58 [.slice none 0 0,.int .i64 0,.int .i64 0,.int .i64 0,.int .i64 0,.int .i64 0,.int .i64 0,.int .i64 0,.int .i64 0,.int .i64 0,.int .i64 0,.int .i64 0,.int .i64 0,.int .i64 0,.int .i64 0]/\RtAt (W'.setCell ⟨fb,19,none⟩ v') Ae m (fun _=>(0,1))/\Below fb w (W'.setCell ⟨fb,19,none⟩ v')/\ApartF v' w.heap.size/\∀b cs,BlkAt W b 27 cs->BlkAt (W'.setCell ⟨fb,19,none⟩ v') b 27 cs:=by
 have h1:=U.h1
 have h2:=U.h2
 have k2:=U.t.ow.kinds k
 have kr:=U.t.rats hb8 k2 v'
 refine⟨(U.t.fd.keep hb8 (Nat.lt_succ_self fb)).setCell 19 v',(k _ _ _ (a0 _ (by omega)) U.em).offCell (by omega) 19 _,(k2 _ _ _ (by decide) U.nd).offCell (by omega) 19 _,(k _ _ _ (a0 _ (Nat.le_refl _)) U.rb).offCell (by omega) 19 _,U.re.all kr, ?_,ka _ U.rb.lt (a0 _ (Nat.le_refl _)),kr⟩
 exact Below.setCell ((U.hw.mono (Nat.le_of_lt hfb)).trans (hb8.mono (Nat.le_succ fb))) (Nat.le_refl fb) _
theorem FvOk.one {w:World} {m:Nat} {A:Option Addr} {C:Nat} {Y:Pro} (r:RtAt w A m (fun u=>coF (u:Int) Y.2)):FvOk w m [(Y,.slice A m C)]:=fun x hx=>by
 rw [List.mem_singleton.1 hx]
 exact⟨A,C,rfl,r⟩
end Go.Proofs.Ytbejmklkicoibaa
