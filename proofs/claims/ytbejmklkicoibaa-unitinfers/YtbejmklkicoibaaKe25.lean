/- unit.dimensionOf and ruleOf, of any node that may be. Products in a block that is written piece by piece, and in a slice that grows. Products that may be, and what they come to, exactly. Which nodes equations need (unit.neededBy). -/
import Derived.Test.YtbejmklkicoibaaKe24
import Derived.Laws.CopyRow
import Derived.Test.YtbejmklkicoibaaKe19
namespace Go.Proofs.Ytbejmklkicoibaa
open Go.ChangeShapes Go.WideShapes Go.ChangeAt Go.RowKit
def dimF (X:Nat->Nd) (G:Nat->Bool) (D:Nat->Nat->Int×Int) (S:Nat->Int×Int) (Q:Nat->Pro) (x:Nd):Option Pro :=
 if x.k=1 then some (x.E,[]) else if x.k=2 then varP G D S x.v x.d else if x.k=15 then some (S,[])
 else if x.k=3\/x.k=4 then some (if frB (X x.a.toNat) then Q x.b.toNat else Q x.a.toNat)
 else if x.k=5 then timesP (Q x.a.toNat) (Q x.b.toNat) (1,1) else if x.k=6 then timesP (Q x.a.toNat) (Q x.b.toNat) (-1,1)
 else if x.k=7 then some (Q x.a.toNat) else if x.k=8 then powerP (Q x.a.toNat) (x.n,1) else if x.k=9 then powerP (Q x.a.toNat) (1,2) else some (plE,[])
def ruleF (X:Nat->Nd) (Q:Nat->Pro) (x:Nd):Option (List Pro) :=
 if x.k=3\/x.k=4 then (if frB (X x.a.toNat) then some [] else if frB (X x.b.toNat) then some [] else (timesP (Q x.a.toNat) (Q x.b.toNat) (-1,1)).map fun Y=>[Y])
 else if 10<=x.k/\x.k<=14 then some (if frB (X x.a.toNat) then [] else [Q x.a.toNat]) else some []
structure Fit (x:Nd) (i m:Nat):Prop where
 k:1<=x.k/\x.k<=15
 f:fieldB x=true
 o:∀j,j<x.ar->0<=x.at j/\x.at j<(i:Int)
 v:x.k=2->x.v<(m:Int)
theorem Fit.var {x:Nd} {i m:Nat} (h:Fit x i m) (hk:x.k=2):(0<=x.v/\x.v<(m:Int))/\(0<=x.d/\x.d<=6):=by
 have f:=h.f
 unfold fieldB at f
 rw [if_neg (by omega),if_pos hk] at f
 simp only [Bool.and_eq_true,decide_eq_true_eq] at f
 exact⟨⟨f.1,h.v hk⟩,f.2⟩
theorem Fit.pow {x:Nd} {i m:Nat} (h:Fit x i m) (hk:x.k=8):-64<=x.n/\x.n<=64:=by
 have f:=h.f
 unfold fieldB at f
 rw [if_neg (by omega),if_neg (by omega),if_pos hk] at f
 simpa only [Bool.and_eq_true,decide_eq_true_eq] using f
theorem Fit.const {x:Nd} {i m:Nat} (h:Fit x i m) (hk:x.k=1):drK x.E 7=true:=by
 have f:=h.f
 unfold fieldB at f
 rw [if_pos hk] at f
 exact (Bool.and_eq_true_iff.1 f).2
theorem Fit.opa {x:Nd} {i m:Nat} (h:Fit x i m) (hk:1<=arG x.k):x.a=((x.a.toNat:Nat):Int)/\x.a.toNat<i:=by
 have:=h.o 0 hk
 unfold Nd.at at this
 rw [if_pos rfl] at this
 omega
theorem Fit.opb {x:Nd} {i m:Nat} (h:Fit x i m) (hk:2<=arG x.k):x.b=((x.b.toNat:Nat):Int)/\x.b.toNat<i:=by
 have:=h.o 1 hk
 unfold Nd.at at this
 rw [if_neg (by decide)] at this
 omega
theorem udim_w (x:Nd) (i:Nat) (AN:Option Addr) (nn CN:Nat) (X:Nat->Nd) (AP:Option Addr) (np CP:Nat) (K:Nat->Prop) (Q:Nat->Pro) (A0 A1:Option Addr) (n0 C0 C1:Nat) (D:Nat->Nat->Int×Int) (G:Nat->Bool) (S:Nat->Int×Int)
  (hx:Fit x i n0) (hn:i<=nn) (hp:i<=np) (hn0:n0<=500) (hS:Dim64 S) (rS:drK S 7=true) (hD:∀v,v<n0->G v=true->Dim64 (D v)/\drK (D v) 7=true)
  (hK:∀j,j<x.ar->K (x.at j).toNat) (hQ:∀j,K j->POk n0 (Q j)) (w:World) (VN:Nds w AN nn X) (VP:PrsAt w AP K Q) (VD:Dms w A0 n0 D) (VG:Bls w A1 n0 G) :
  Calls Try.prog 38 #[x.val,.slice AN nn CN,.slice AP np CP,vrV (.slice A0 n0 C0) (.slice A1 n0 C1) S] w fun r w'=>PrAns r w' (dimF X G D S Q x)/\Below w.heap.size w w':=by
 have hk:=hx.k
 have hV:(0:Int)<=(n0:Int)/\(n0:Int)<=500:=⟨by omega,by omega⟩
 have ka:1<=arG x.k->K x.a.toNat:=fun h=>by have:=hK 0 h;unfold Nd.at at this;rwa [if_pos rfl] at this
 have kb:2<=arG x.k->K x.b.toNat:=fun h=>by have:=hK 1 h;unfold Nd.at at this;rwa [if_neg (by decide)] at this
 unfold dimF
 by_cases c1:x.k=1
 ·rw [if_pos c1];exact udim_const x AN nn CN AP np CP A0 A1 n0 C0 n0 C1 S c1 w
 rw [if_neg c1]
 by_cases c2:x.k=2
 ·rw [if_pos c2]
  obtain⟨h1,h2⟩:=hx.var c2
  exact udim_var x AN nn CN AP np CP A0 A1 n0 C0 n0 C1 S c2 D G h2 hS rS h1 rfl (by omega) (hD _ (by omega)) w VD VG
 rw [if_neg c2]
 by_cases c15:x.k=15
 ·rw [if_pos c15];exact udim_time x AN nn CN AP np CP A0 A1 n0 C0 n0 C1 S c15 w
 rw [if_neg c15]
 by_cases c3:x.k=3
 ·have ar:arG x.k=2:=by rw [c3];rfl
  obtain⟨a1,a2⟩:=hx.opa (by omega)
  obtain⟨b1,b2⟩:=hx.opb (by omega)
  rw [if_pos (Or.inl c3)]
  exact udim_add x AN nn CN AP np CP K Q A0 A1 n0 C0 n0 C1 S c3 X _ a1 (ka (by omega)) (by omega) _ b1 (kb (by omega)) (by omega) (by omega) w VP VN
 by_cases c4:x.k=4
 ·have ar:arG x.k=2:=by rw [c4];rfl
  obtain⟨a1,a2⟩:=hx.opa (by omega)
  obtain⟨b1,b2⟩:=hx.opb (by omega)
  rw [if_pos (Or.inr c4)]
  exact udim_sub x AN nn CN AP np CP K Q A0 A1 n0 C0 n0 C1 S c4 X _ a1 (ka (by omega)) (by omega) _ b1 (kb (by omega)) (by omega) (by omega) w VP VN
 rw [if_neg (by omega)]
 by_cases c5:x.k=5
 ·have ar:arG x.k=2:=by rw [c5];rfl
  obtain⟨a1,a2⟩:=hx.opa (by omega)
  obtain⟨b1,b2⟩:=hx.opb (by omega)
  rw [if_pos c5]
  exact udim_mul x AN nn CN AP np CP K Q A0 A1 n0 C0 n0 C1 S c5 _ a1 (ka (by omega)) (by omega) _ b1 (kb (by omega)) (by omega) n0 hV (hQ _ (ka (by omega))) (hQ _ (kb (by omega))) w VP
 rw [if_neg c5]
 by_cases c6:x.k=6
 ·have ar:arG x.k=2:=by rw [c6];rfl
  obtain⟨a1,a2⟩:=hx.opa (by omega)
  obtain⟨b1,b2⟩:=hx.opb (by omega)
  rw [if_pos c6]
  exact udim_div x AN nn CN AP np CP K Q A0 A1 n0 C0 n0 C1 S c6 _ a1 (ka (by omega)) (by omega) _ b1 (kb (by omega)) (by omega) n0 hV (hQ _ (ka (by omega))) (hQ _ (kb (by omega))) w VP
 rw [if_neg c6]
 by_cases c7:x.k=7
 ·have ar:arG x.k=1:=by rw [c7];rfl
  obtain⟨a1,a2⟩:=hx.opa (by omega)
  rw [if_pos c7]
  exact udim_neg x AN nn CN AP np CP K Q A0 A1 n0 C0 n0 C1 S c7 _ a1 (ka (by omega)) (by omega) w VP
 rw [if_neg c7]
 by_cases c8:x.k=8
 ·have ar:arG x.k=1:=by rw [c8];rfl
  obtain⟨a1,a2⟩:=hx.opa (by omega)
  rw [if_pos c8]
  exact udim_pow x AN nn CN AP np CP K Q A0 A1 n0 C0 n0 C1 S c8 _ a1 (ka (by omega)) (by omega) n0 hV (hQ _ (ka (by omega))) (hx.pow c8) w VP
 rw [if_neg c8]
 by_cases c9:x.k=9
 ·have ar:arG x.k=1:=by rw [c9];rfl
  obtain⟨a1,a2⟩:=hx.opa (by omega)
  rw [if_pos c9]
  exact udim_sqrt x AN nn CN AP np CP K Q A0 A1 n0 C0 n0 C1 S c9 _ a1 (ka (by omega)) (by omega) n0 hV (hQ _ (ka (by omega))) w VP
 rw [if_neg c9]
 exact udim_rest x AN nn CN AP np CP A0 A1 n0 C0 n0 C1 S ⟨by omega,by omega⟩ w
theorem urule_w (x:Nd) (i m:Nat) (AN:Option Addr) (nn CN:Nat) (X:Nat->Nd) (AP:Option Addr) (np CP:Nat) (K:Nat->Prop) (Q:Nat->Pro)
  (hx:Fit x i m) (hn:i<=nn) (hp:i<=np) (hn0:m<=500) (hK:∀j,j<x.ar->K (x.at j).toNat) (hQ:∀j,K j->POk m (Q j)) (w:World) (VN:Nds w AN nn X) (VP:PrsAt w AP K Q) :
  Calls Try.prog 39 #[x.val,.slice AN nn CN,.slice AP np CP] w fun r w'=>RlAns r w' (ruleF X Q x)/\Below w.heap.size w w':=by
 have hV:(0:Int)<=(m:Int)/\(m:Int)<=500:=⟨by omega,by omega⟩
 have ka:1<=arG x.k->K x.a.toNat:=fun h=>by have:=hK 0 h;unfold Nd.at at this;rwa [if_pos rfl] at this
 have kb:2<=arG x.k->K x.b.toNat:=fun h=>by have:=hK 1 h;unfold Nd.at at this;rwa [if_neg (by decide)] at this
 unfold ruleF
 by_cases c3:x.k=3
 ·have ar:arG x.k=2:=by rw [c3];rfl
  obtain⟨a1,a2⟩:=hx.opa (by omega)
  obtain⟨b1,b2⟩:=hx.opb (by omega)
  rw [if_pos (Or.inl c3)]
  exact urule_add x AN nn CN AP np CP c3 X K Q _ a1 (ka (by omega)) (by omega) _ b1 (kb (by omega)) (by omega) (by omega) (by omega) m hV (hQ _ (ka (by omega))) (hQ _ (kb (by omega))) w VN VP
 by_cases c4:x.k=4
 ·have ar:arG x.k=2:=by rw [c4];rfl
  obtain⟨a1,a2⟩:=hx.opa (by omega)
  obtain⟨b1,b2⟩:=hx.opb (by omega)
  rw [if_pos (Or.inr c4)]
  exact urule_sub x AN nn CN AP np CP c4 X K Q _ a1 (ka (by omega)) (by omega) _ b1 (kb (by omega)) (by omega) (by omega) (by omega) m hV (hQ _ (ka (by omega))) (hQ _ (kb (by omega))) w VN VP
 rw [if_neg (by omega)]
 by_cases c:10<=x.k/\x.k<=14
 ·rw [if_pos c]
  have ar:arG x.k=1:=by rcases (show x.k=10\/x.k=11\/x.k=12\/x.k=13\/x.k=14 by omega) with h | h | h | h | h <;> rw [h] <;> rfl
  obtain⟨a1,a2⟩:=hx.opa (by omega)
  rcases (show x.k=10\/x.k=11\/x.k=12\/x.k=13\/x.k=14 by omega) with h | h | h | h | h
  ·exact urule_one10 x AN nn CN AP np CP h X K Q _ a1 (ka (by omega)) (by omega) (by omega) w VN VP
  ·exact urule_one11 x AN nn CN AP np CP h X K Q _ a1 (ka (by omega)) (by omega) (by omega) w VN VP
  ·exact urule_one12 x AN nn CN AP np CP h X K Q _ a1 (ka (by omega)) (by omega) (by omega) w VN VP
  ·exact urule_one13 x AN nn CN AP np CP h X K Q _ a1 (ka (by omega)) (by omega) (by omega) w VN VP
  ·exact urule_one14 x AN nn CN AP np CP h X K Q _ a1 (ka (by omega)) (by omega) (by omega) w VN VP
 ·rw [if_neg c]
  exact urule_none x AN nn CN AP np CP c3 c4 c w
section
variable {P:Program} {ops:Array Oper} {Q:Exit->Act->World->Prop} {a:Act} {w:World} {rest:List Oper} {o:Oper}
theorem wpList_storeMid (hgd:Region.wanted o (yielded ops a.tmps)=true) (p v:Operand) (T:TypeId) (ho:o.op=.store T p v) {g off:Nat} {T':TypeId} {old:List Value} (hrow:BlkAt w g T' old) (cs:List Value) (hi:(P.info? T).map (·.size)=some cs.length) (ho2:off+cs.length<=old.length)
  (hp:a.eval p=.pointer (some ⟨g,off,none⟩)) (hv:a.eval v=.agg cs.toArray) (h1:cs.all (·.oneCell')=true)
  (h:∀W,BlkAt W g T' (old.take off++cs++old.drop (off+cs.length))->W.heap.size=w.heap.size->(∀B w0,Below B w0 w->B<=g->Below B w0 W)->(∀k Tk ck,g≠k->BlkAt w k Tk ck->BlkAt W k Tk ck)->wpList P ops Q rest (a.put o.dst undef) W):wpList P ops Q (o :: rest) a w:=by
 refine wpList_step fun K hK=>?_
 rw [if_pos hgd]
 unfold Oper.wp
 obtain⟨dst,op,ty,pos,after,guard⟩:=o
 simp only at ho
 subst ho
 have h1':∀u∈cs,u.oneCell'=true:=fun u hu=>List.all_eq_true.1 h1 u hu
 have hs:(storeVar T ⟨g,off,none⟩ (.agg cs.toArray)).run P w=.ok () (w.setRow g (old.take off++cs++old.drop (off+cs.length)).toArray):=by
  have:=run_storeCells_at (P:=P) g off T' cs 0 old.toArray w hrow (by simpa using ho2) h1'
  simp only [Nat.add_zero] at this
  cases hq:P.info? T with
  | none=>simp [hq] at hi
  | some i =>
   have hs:i.size=cs.length:=by simpa [hq] using hi
   simp [storeVar,sizeOf,typeInfo,hq,Value.cells,hs,this]
 have e:(Instr.storeAt T (.pointer (some ⟨g,off,none⟩)) (.agg cs.toArray)).run P w=.ok () (w.setRow g (old.take off++cs++old.drop (off+cs.length)).toArray):=by
  simp only [Instr.storeAt,Instr.sureAddr,Sem.run_bind,Sem.run_pure,Result.andThen]
  exact hs
 have e2:(execOp a.eval ⟨dst,.store T p v,ty,pos,after,guard⟩).run P w=.ok .skip (w.setRow g (old.take off++cs++old.drop (off+cs.length)).toArray):=by
  simp only [execOp,hp,hv,Sem.run_bind,e,Result.andThen,Sem.run_pure]
 rw [e2]
 exact hK _ _ (h _ hrow.set (by show (w.heap.modify g _).size=_;rw [Array.size_modify]) (fun B w0 hb hB=>below_setRow hb hB _) (fun k Tk ck hne hk=>hk.far hne _))
end
def DimsIn (w:World) (g n:Nat) (K:Nat->Prop) (Q:Nat->Pro):Prop:=∃cs,BlkAt w g 79 cs/\cs.length=n*15/\∀i,K i->i<n/\∃A' c,(Q i).2.length<=c/\FacAt w A' (Q i).2/\∀j u,(proL (Q i).1 (.slice A' (Q i).2.length c))[j]?=some u->cs[i*15+j]?=some u
theorem DimsIn.keep {w W:World} {g n:Nat} {K:Nat->Prop} {Q:Nat->Pro} (h:DimsIn w g n K Q) (k:Below w.heap.size w W):DimsIn W g n K Q:=by
 obtain⟨cs,b,l,f⟩:=h
 refine⟨cs,b.keeps k,l,fun i hi=>?_⟩
 obtain⟨h1,A',c,h2,h3,h4⟩:=f i hi
 exact⟨h1,A',c,h2,h3.keep k,h4⟩
theorem DimsIn.prs {w:World} {g n:Nat} {K:Nat->Prop} {Q:Nat->Pro} (h:DimsIn w g n K Q):PrsAt w (some ⟨g,0,none⟩) K Q:=fun i hi=>by
 obtain⟨cs,b,l,f⟩:=h
 obtain⟨h1,A',c,h2,h3,h4⟩:=f i hi
 exact⟨g,0,A',c,rfl,b.lt,h2,h3,fun j u hj=>by rw [Nat.zero_add];exact b.cell _ _ (h4 j u hj)⟩
theorem proL_len (E:Nat->Int×Int) (s:Value):(proL E s).length=15:=rfl
theorem DimsIn.set {w W:World} {g n i:Nat} {K:Nat->Prop} {Q:Nat->Pro} {Y:Pro} {A9:Option Addr} {c9:Nat} {cs:List Value} (b:BlkAt w g 79 cs) (hl:cs.length=n*15)
  (f:∀i,K i->i<n/\∃A' c,(Q i).2.length<=c/\FacAt w A' (Q i).2/\∀j u,(proL (Q i).1 (.slice A' (Q i).2.length c))[j]?=some u->cs[i*15+j]?=some u)
  (hi:i<n) (hc:Y.2.length<=c9) (fy:FacAt w A9 Y.2) (bW:BlkAt W g 79 (cs.take (i*15)++proL Y.1 (.slice A9 Y.2.length c9)++cs.drop (i*15+15)))
  (k:∀k Tk ck,g≠k->BlkAt w k Tk ck->BlkAt W k Tk ck):DimsIn W g n (fun j=>K j\/j=i) (fun j=>if j=i then Y else Q j):=by
 have h0:(cs.take (i*15)).length=i*15:=by rw [List.length_take];omega
 refine⟨_,bW, ?_,fun m hm=>?_⟩
 ·simp only [List.length_append,h0,proL_len,List.length_drop]
  omega
 ·by_cases e:m=i
  ·subst e
   simp only [if_true]
   refine⟨hi,A9,c9,hc,fy.other b (by decide) k,fun j u hj=>?_⟩
   have hj2:=(List.getElem?_eq_some_iff.1 hj).1
   rw [proL_len] at hj2
   rw [List.append_assoc,List.getElem?_append_right (by omega),h0,show m*15+j-m*15=j by omega,List.getElem?_append_left (by rw [proL_len];omega)]
   exact hj
  ·simp only [if_neg e]
   obtain⟨h1,A',c,h2,h3,h4⟩:=f m (hm.resolve_right e)
   refine⟨h1,A',c,h2,h3.other b (by decide) k,fun j u hj=>?_⟩
   have hj2:=(List.getElem?_eq_some_iff.1 hj).1
   rw [proL_len] at hj2
   have g1:=h4 j u hj
   rcases Nat.lt_or_ge m i with c1 | c1
   ·have:m*15+j<i*15:=by omega
    rw [List.append_assoc,List.getElem?_append_left (by omega),List.getElem?_take_of_lt this]
    exact g1
   ·have:i*15+15<=m*15+j:=by omega
    rw [List.getElem?_append_right (by simp only [List.length_append,h0,proL_len];omega)]
    simp only [List.length_append,h0,proL_len]
    rw [List.getElem?_drop,show i*15+15+(m*15+j-(i*15+15))=m*15+j by omega]
    exact g1
theorem Try.infoPro:(Try.prog.info? 79).map (fun i=>(i.zero,i.size,i.bytes))=some (some (.agg #[.int .i64 0,.int .i64 0,.int .i64 0,.int .i64 0,.int .i64 0,.int .i64 0,.int .i64 0,.int .i64 0,.int .i64 0,.int .i64 0,.int .i64 0,.int .i64 0,.int .i64 0,.int .i64 0,.slice none 0 0]),15,136):=by kernel_rfl
theorem wpList_makeP {w:World} {ops:Array Oper} {rest:List Oper} {o:Oper} {a:Act} {Q:Exit->Act->World->Prop} (hgd:o.guard=none) (l c:Operand)
  (ho:o.op=.makeSlice 47 l c) (n:Nat) (hl:a.eval l=.int .i64 (n:Int)) (hc:a.eval c=.int .i64 (n:Int)) (hn:n<=30000)
  (h:∀w',(∃cs,BlkAt w' w.heap.size 79 cs/\cs.length=n*15)->Below w.heap.size w w'->wpList Try.prog ops Q rest (a.put o.dst (.slice (some ⟨w.heap.size,0,none⟩) n n)) w'):wpList Try.prog ops Q (o :: rest) a w:=by
 obtain⟨i0,hi,hz0,hz1,hz2⟩:=info_parts Try.infoPro
 refine wpList_make_full w hgd l c 47 ho w.heap.size 79 i0 _ 15 Try.underlying47 hi hz0 hz1 .i64 .i64 _ _ n hl hc rfl rfl (by rw [hz2];omega) (by unfold maxLen;omega) (Nat.le_refl _) ?_
 intro w' h1 h2
 refine h w' ?_ ⟨h2.os,h2.tape,h2.output,h2.size,fun k hk=>h2.block k hk (by simp)⟩
 rcases h1.2 with ⟨e,_⟩ | ⟨g,cap,cur,e, -,hg, -, -,hs, -⟩
 ·cases e
 ·injection e with e1 e2 e3
  injection e1 with e1
  injection e1 with e1
  subst e1 e3
  exact⟨cur.toList,by show w'.heap[_]?=_;rw [hg],by rw [<-hs];simp⟩
theorem proLs_len:∀L,(proLs L).length=L.length*15
 | []=>rfl
 | x :: L=>by simp only [proLs,List.length_append,proL_len,List.length_cons,proLs_len L];omega
theorem proLs_append:∀L M,proLs (L++M)=proLs L++proLs M
 | [],_=>rfl
 | x :: L,M=>by simp only [List.cons_append,proLs,proLs_append L M,List.append_assoc]
theorem proLs_one {w:World}:∀L,PvOk w L->∀u,u∈proLs L->u.oneCell'=true
 | [],_,u,h=>by cases h
 | x :: L,hp,u,h=>by
  simp only [proLs,List.mem_append] at h
  rcases h with h | h
  ·obtain⟨A,c,e, -⟩:=hp x (List.mem_cons_self ..)
   rw [e] at h
   simp only [proL,List.mem_cons,List.not_mem_nil,or_false] at h
   rcases h with h | h | h | h | h | h | h | h | h | h | h | h | h | h | h <;> rw [h] <;> rfl
  ·exact proLs_one L (fun y hy=>hp y (List.mem_cons_of_mem _ hy)) u h
def OwnRw (B:Nat) (w:World) (v:Value) (L:List PV):Prop:=w.ownsRow B 79 15 v L.length (proLs L)
theorem OwnRw.keep {B:Nat} {w w2:World} {v:Value} {L:List PV} (h:OwnRw B w v L) (hb:Below w.heap.size w w2):OwnRw B w2 v L:=own_keep h hb
theorem ownRw_nil (B:Nat) (w:World):OwnRw B w (.slice none 0 0) []:=⟨rfl,Or.inl ⟨rfl,rfl⟩⟩
theorem OwnRw.form {B:Nat} {w:World} {v:Value} {L:List PV} (h:OwnRw B w v L):∃A C,v=.slice A L.length C/\L.length<=C:=by
 rcases h.2 with ⟨rfl,hn⟩ | ⟨g,cap,cur,rfl, -, -,hc, -⟩
 ·exact⟨none,0,by rw [hn],by omega⟩
 ·exact⟨_,_,rfl,hc⟩
theorem OwnRw.off {B:Nat} {w W:World} {v:Value} {L:List PV} (h:OwnRw B w v L) {g:Nat} (hg:g<B) (k:∀k Tk ck,g≠k->BlkAt w k Tk ck->BlkAt W k Tk ck):OwnRw B W v L:=by
 refine⟨h.1, ?_⟩
 rcases h.2 with hn | ⟨b,cap,cur,hv,hb2,hg2,rest⟩
 ·exact .inl hn
 ·refine .inr ⟨b,cap,cur,hv,hb2, ?_,rest⟩
  have:=k b 79 cur.toList (by omega) (by show w.heap[b]?=_;rw [hg2])
  simpa [BlkAt] using this
theorem OwnRw.grown {B:Nat} {w w':World} {v:Value} {L:List PV} (h:OwnRw B w v L) (hg:w.grownBy w' v.ownBlock) {b:Nat} {T:TypeId} {cs:List Value} (hb:BlkAt w b T cs) (hT:T≠79):BlkAt w' b T cs:=by
 refine (hg.block b hb.lt (fun e=>?_)).trans hb
 rcases h.2 with ⟨hv, -⟩ | ⟨b2,cap,cur,hv, -,hg2, -⟩
 ·rw [hv] at e;cases e
 ·rw [hv] at e
  have e2:b2=b:=by injection e with e;exact e.symm
  subst e2
  have q:some (Obj.cells cs.toArray T (0,0))=some (Obj.cells cur 79 (0,0)):=hb.symm.trans hg2
  injection q with q
  injection q with _ q2 _
  exact hT q2
theorem PvOk.grown {B:Nat} {w w':World} {v:Value} {L M:List PV} (h:OwnRw B w v L) (hg:w.grownBy w' v.ownBlock) (p:PvOk w M):PvOk w' M:=fun x hx=>by
 obtain⟨A,c,e,l,f⟩:=p x hx
 refine⟨A,c,e,l,fun hm=>?_⟩
 obtain⟨b,o,cs,e2,bk,c2⟩:=f hm
 exact⟨b,o,cs,e2,h.grown hg bk (by decide),c2⟩
theorem wpList_catP {B:Nat} {w:World} {ops:Array Oper} {rest:List Oper} {o:Oper} {a:Act} {Q:Exit->Act->World->Prop} (hgd:o.guard=none) (s x:Operand)
  (ho:o.op=.call { callee:=.builtin .append,args:=#[s,x],argTypes:=#[47,47] }) (v:Value) (L M:List PV) (X0:Option Addr) (m D:Nat) (hs:a.eval s=v) (hx:a.eval x=.slice X0 m D) (hm:m=M.length)
  (hown:OwnRw B w v L) (VY:M≠[]->∃b,X0=some ⟨b,0,none⟩/\BlkAt w b 79 (proLs M)) (hM:PvOk w M) (hl:L.length+M.length<=100000) (hB:B<=w.heap.size)
  (h:∀v' w',OwnRw B w' v' (L++M)->Below B w w'->w.heap.size<=w'.heap.size->(∀N,PvOk w N->PvOk w' N)->wpList Try.prog ops Q rest (a.put o.dst v') w'):wpList Try.prog ops Q (o :: rest) a w:=by
 subst hm
 refine wpList_step fun K hK=>?_
 obtain⟨i0,hi,hz0,hz1,hz2⟩:=info_parts Try.infoPro
 by_cases m0:M=[]
 ·subst m0
  obtain⟨b,c,rfl,hc⟩:=hown.form
  have hr:=fun ty=>append_none (P:=Try.prog) 47 ty 79 i0 Try.underlying47 hi b L.length c hc X0 D w
  rw [if_pos (by simp [Region.wanted,hgd])]
  unfold Oper.wp
  simp [execOp,ho,resolve,invoke,builtin,hs,hx,hr,Result.andThen]
  exact hK _ _ (h _ _ (by simpa using hown) (Below.refl _ _) (Nat.le_refl _) (fun _ k=>k))
 ·obtain⟨b,rfl,hbk⟩:=VY m0
  refine step_append_lies w hgd s x 47 ho B 79 i0 _ 15 136 Try.underlying47 hi hz0 hz1 hz2 rfl (by decide) v L.length (proLs L) hs hown ⟨b,0,none⟩ M.length D (proLs M) hx (proLs_len M) (fun j u hj=>by rw [add_plain];exact hbk.cell0 j u hj) (proLs_one M hM) (by have:0<M.length:=List.length_pos_iff.2 m0;omega) (by unfold maxLen;omega) (by omega) hB w.heap.size rfl ?_
  intro g cap w' h1 h2 h3 _
  have lt:∀k,v.ownBlock=some k->B<=k:=fun k hk=>(World.ownsRow.lt hown k hk).1
  have hb:Below B w w':=(Below.refl B w).grown h2 hB lt
  refine hK _ _ (h _ w' ?_ hb h2.size (fun N k=>k.grown hown h2))
  unfold OwnRw
  rw [proLs_append,List.length_append]
  exact h1
end Go.Proofs.Ytbejmklkicoibaa
namespace Go.Proofs.Ytbejmklkicoibaa
def evP (S:Int->Nat->Rat) (X:Pro) (e:Nat):Rat:=qP (X.1 e)+evF (fun u=>S u e) X.2
theorem qP_pl (e:Nat):qP (plE e)=0:=qP_zero
theorem timesP_some {V:Int} {a b Y:Pro} {p:Int×Int} (ha:POk V a) (hb:POk V b) (hp:ROk p) (h:timesP a b p=some Y):POk V Y/\∀S e,e<7->evP S Y e=evP S a e+qP p*evP S b e:=by
 unfold timesP at h
 by_cases z:tmF a.1 b.1 p.1 p.2 7=0
 ·rw [if_pos z] at h
  cases hm:mergedF p a.2 b.2 with
  | none=>rw [hm] at h;cases h
  | some L =>
   rw [hm] at h
   have e:=Option.some.inj h
   subst e
   obtain⟨f1,f2,f3⟩:=mergedF_some hp ha.f hb.f ha.s hb.s hm
   have ok:=tmD_ok ha.r hb.r hp.1 z
   refine⟨⟨fun i hi=>(ok i hi).2.1,drK_all 7 fun i hi=>(ok i hi).1,f1,f2⟩,fun S e he=>?_⟩
   have q:=(ok e he).2.2
   have q2:=f3 (fun u=>S u e)
   show qP (tmD a.1 b.1 p.1 p.2 7 e)+evF (fun u=>S u e) L=_
   rw [q2]
   unfold evP qP
   rw [q]
   grind
 ·rw [if_neg z] at h;cases h
theorem pOk_plain (V:Int):POk V (plE,[]):=⟨plE_ok.1,plE_ok.2,fOk_nil,trivial⟩
theorem pOk_dim {V:Int} {E:Nat->Int×Int} (h:Dim64 E) (r:drK E 7=true):POk V (E,[]):=⟨h,r,fOk_nil,trivial⟩
theorem pOk_unk {V v:Int} (h:0<=v/\v<V):POk V (plE,[(v,(1,1))]):=⟨plE_ok.1,plE_ok.2,fOk_one v,⟨h.1,h.2,trivial⟩⟩
theorem ev_dim (S:Int->Nat->Rat) (E:Nat->Int×Int) (e:Nat):evP S (E,[]) e=qP (E e):=by unfold evP;simp only [evF];grind
theorem ev_unk (S:Int->Nat->Rat) (v:Int) (e:Nat):evP S (plE,[(v,(1,1))]) e=S v e:=by
 unfold evP
 simp only [evF]
 rw [qP_pl,qP_one]
 grind
theorem powerP_some {V:Int} {b Y:Pro} {p:Int×Int} (hb:POk V b) (hp:ROk p) (h:powerP b p=some Y):POk V Y/\∀S e,e<7->evP S Y e=qP p*evP S b e:=by
 obtain⟨o,q⟩:=timesP_some (pOk_plain V) hb hp h
 refine⟨o,fun S e he=>?_⟩
 rw [q S e he,ev_dim,qP_pl]
 grind
theorem varP_some {m:Nat} {G:Nat->Bool} {D:Nat->Nat->Int×Int} {S0:Nat->Int×Int} {v k:Int} {Y:Pro} (hv:0<=v/\v<(m:Int)) (hk:0<=k/\k<=6) (hS:Dim64 S0) (rS:drK S0 7=true) (hD:G v.toNat=true->Dim64 (D v.toNat)/\drK (D v.toNat) 7=true)
  (h:varP G D S0 v k=some Y):POk m Y/\∀S e,e<7->evP S Y e=(if G v.toNat then qP (D v.toNat e) else S v e)+qP (-k,1)*qP (S0 e):=by
 unfold varP at h
 have hp:ROk (-k,1):=rok_one ⟨by omega,by omega⟩ (by omega)
 cases hG:G v.toNat with
 | true =>
  rw [hG] at h
  obtain⟨d1,d2⟩:=hD hG
  obtain⟨o,q⟩:=timesP_some (pOk_dim (V:=m) d1 d2) (pOk_dim hS rS) hp h
  exact⟨o,fun S e he=>by rw [q S e he,ev_dim,ev_dim];rfl⟩
 | false =>
  rw [hG] at h
  obtain⟨o,q⟩:=timesP_some (pOk_unk hv) (pOk_dim hS rS) hp h
  exact⟨o,fun S e he=>by rw [q S e he,ev_dim,ev_unk];rfl⟩
def evN (X:Nat->Nd) (U:Int->Nat->Rat) (S0:Nat->Int×Int) (q:Nat->Nat->Rat) (x:Nd) (e:Nat):Rat :=
 if x.k=1 then qP (x.E e) else if x.k=2 then U x.v e+qP (-x.d,1)*qP (S0 e) else if x.k=15 then qP (S0 e)
 else if x.k=3\/x.k=4 then (if frB (X x.a.toNat) then q x.b.toNat e else q x.a.toNat e)
 else if x.k=5 then q x.a.toNat e+qP (1,1)*q x.b.toNat e else if x.k=6 then q x.a.toNat e+qP (-1,1)*q x.b.toNat e
 else if x.k=7 then q x.a.toNat e else if x.k=8 then qP (x.n,1)*q x.a.toNat e else if x.k=9 then qP (1,2)*q x.a.toNat e else 0
theorem rok_half:ROk (1,2):=⟨by decide,⟨by decide,by decide⟩,⟨by decide,by decide⟩⟩
theorem rok_mone:ROk (-1,1):=rok_one ⟨by decide,by decide⟩ (by decide)
theorem rok_1:ROk (1,1):=rok_one ⟨by decide,by decide⟩ (by decide)
theorem dimF_some {X:Nat->Nd} {G:Nat->Bool} {D:Nat->Nat->Int×Int} {S0:Nat->Int×Int} {Q:Nat->Pro} {x:Nd} {i m:Nat} {Y:Pro} (hx:Fit x i m) (hxE:Dim64 x.E) (hS:Dim64 S0) (rS:drK S0 7=true) (hD:∀v,v<m->G v=true->Dim64 (D v)/\drK (D v) 7=true)
  (hQ:∀j,j<x.ar->POk m (Q (x.at j).toNat)) (h:dimF X G D S0 Q x=some Y) :
  POk m Y/\∀S e,e<7->evP S Y e=evN X (fun v e=>if G v.toNat then qP (D v.toNat e) else S v e) S0 (fun j e=>evP S (Q j) e) x e:=by
 have ka:1<=arG x.k->POk m (Q x.a.toNat):=fun h=>by have:=hQ 0 h;unfold Nd.at at this;rwa [if_pos rfl] at this
 have kb:2<=arG x.k->POk m (Q x.b.toNat):=fun h=>by have:=hQ 1 h;unfold Nd.at at this;rwa [if_neg (by decide)] at this
 have hk:=hx.k
 unfold dimF at h
 unfold evN
 by_cases c1:x.k=1
 ·simp only [if_pos c1] at h ⊢
  have e:=Option.some.inj h
  subst e
  exact⟨pOk_dim hxE (hx.const c1),fun S e _=>ev_dim S x.E e⟩
 simp only [if_neg c1] at h ⊢
 by_cases c2:x.k=2
 ·simp only [if_pos c2] at h ⊢
  obtain⟨h1,h2⟩:=hx.var c2
  exact varP_some h1 h2 hS rS (hD _ (by omega)) h
 simp only [if_neg c2] at h ⊢
 by_cases c15:x.k=15
 ·simp only [if_pos c15] at h ⊢
  have e:=Option.some.inj h
  subst e
  exact⟨pOk_dim hS rS,fun S e _=>ev_dim S S0 e⟩
 simp only [if_neg c15] at h ⊢
 by_cases c3:x.k=3\/x.k=4
 ·simp only [if_pos c3] at h ⊢
  have ar:arG x.k=2:=by rcases c3 with c | c <;> rw [c] <;> rfl
  have e:=Option.some.inj h
  subst e
  cases hf:frB (X x.a.toNat) with
  | true=>simp only [if_true];exact⟨kb (by omega),fun _ _ _=>trivial⟩
  | false=>simp only [Bool.false_eq_true,if_false];exact⟨ka (by omega),fun _ _ _=>trivial⟩
 simp only [if_neg c3] at h ⊢
 by_cases c5:x.k=5
 ·simp only [if_pos c5] at h ⊢
  have ar:arG x.k=2:=by rw [c5];rfl
  exact timesP_some (ka (by omega)) (kb (by omega)) rok_1 h
 simp only [if_neg c5] at h ⊢
 by_cases c6:x.k=6
 ·simp only [if_pos c6] at h ⊢
  have ar:arG x.k=2:=by rw [c6];rfl
  exact timesP_some (ka (by omega)) (kb (by omega)) rok_mone h
 simp only [if_neg c6] at h ⊢
 by_cases c7:x.k=7
 ·simp only [if_pos c7] at h ⊢
  have ar:arG x.k=1:=by rw [c7];rfl
  have e:=Option.some.inj h
  subst e
  exact⟨ka (by omega),fun _ _ _=>rfl⟩
 simp only [if_neg c7] at h ⊢
 by_cases c8:x.k=8
 ·simp only [if_pos c8] at h ⊢
  have ar:arG x.k=1:=by rw [c8];rfl
  obtain⟨n1,n2⟩:=hx.pow c8
  exact powerP_some (ka (by omega)) (rok_one ⟨by omega,by omega⟩ (by omega)) h
 simp only [if_neg c8] at h ⊢
 by_cases c9:x.k=9
 ·simp only [if_pos c9] at h ⊢
  have ar:arG x.k=1:=by rw [c9];rfl
  exact powerP_some (ka (by omega)) rok_half h
 simp only [if_neg c9] at h ⊢
 have e:=Option.some.inj h
 subst e
 exact⟨pOk_plain m,fun S e _=>by rw [ev_dim,qP_pl]⟩
theorem ruleF_some {X:Nat->Nd} {Q:Nat->Pro} {x:Nd} {m:Nat} {L:List Pro} (hQ:∀j,j<x.ar->POk m (Q (x.at j).toNat)) (h:ruleF X Q x=some L):(∀Y,Y∈L->POk m Y)/\L.length<=1:=by
 have ka:1<=arG x.k->POk m (Q x.a.toNat):=fun h=>by have:=hQ 0 h;unfold Nd.at at this;rwa [if_pos rfl] at this
 have kb:2<=arG x.k->POk m (Q x.b.toNat):=fun h=>by have:=hQ 1 h;unfold Nd.at at this;rwa [if_neg (by decide)] at this
 have none:(∀Y,Y∈([]:List Pro)->POk m Y)/\([]:List Pro).length<=1:=⟨fun Y hY=>(by cases hY),by simp⟩
 unfold ruleF at h
 by_cases c3:x.k=3\/x.k=4
 ·simp only [if_pos c3] at h
  have ar:arG x.k=2:=by rcases c3 with c | c <;> rw [c] <;> rfl
  cases hf:frB (X x.a.toNat) with
  | true=>rw [hf] at h;have e:=Option.some.inj h;subst e;exact none
  | false =>
   rw [hf] at h
   cases hg:frB (X x.b.toNat) with
   | true=>rw [hg] at h;have e:=Option.some.inj h;subst e;exact none
   | false =>
    rw [hg] at h
    simp only [Bool.false_eq_true,if_false] at h
    cases ht:timesP (Q x.a.toNat) (Q x.b.toNat) (-1,1) with
    | none=>rw [ht] at h;cases h
    | some Y =>
     rw [ht] at h
     have e:=Option.some.inj h
     subst e
     exact⟨fun Z hZ=>by rw [List.mem_singleton.1 hZ];exact (timesP_some (ka (by omega)) (kb (by omega)) rok_mone ht).1,by simp⟩
 ·simp only [if_neg c3] at h
  by_cases c:10<=x.k/\x.k<=14
  ·rw [if_pos c] at h
   have ar:arG x.k=1:=by rcases (show x.k=10\/x.k=11\/x.k=12\/x.k=13\/x.k=14 by omega) with h | h | h | h | h <;> rw [h] <;> rfl
   cases hf:frB (X x.a.toNat) with
   | true=>rw [hf] at h;have e:=Option.some.inj h;subst e;exact none
   | false=>rw [hf] at h;have e:=Option.some.inj h;subst e;exact⟨fun Z hZ=>(List.mem_singleton.1 hZ) ▸ (ka (by omega)),by simp⟩
  ·rw [if_neg c] at h
   have e:=Option.some.inj h
   subst e
   exact none
def stateF (X:Nat->Nd) (N:Nat->Bool) (G:Nat->Bool) (D:Nat->Nat->Int×Int) (S0:Nat->Int×Int):Nat->Option ((Nat->Pro)×List Pro)
 | 0=>some (fun _=>(plE,[]),[])
 | i+1=>(stateF X N G D S0 i).bind fun st=>if N i then (dimF X G D S0 st.1 (X i)).bind fun Y=>(ruleF X (fun j=>if j=i then Y else st.1 j) (X i)).map fun R=>((fun j=>if j=i then Y else st.1 j),st.2++R) else some st
end Go.Proofs.Ytbejmklkicoibaa
namespace Go.Proofs.Ytbejmklkicoibaa
open Go.ChangeShapes Go.WideShapes Go.ChangeAt Go.RowKit
def opH (x:Nd) (s:Nat->Bool):Nat->Nat->Bool
 | 0=>s
 | j+1=>setN (opH x s j) (x.at j).toNat
def backH (X:Nat->Nd) (n:Nat) (s:Nat->Bool):Nat->Nat->Bool
 | 0=>s
 | d+1=>if backH X n s d (n-1-d) then opH (X (n-1-d)) (backH X n s d) (X (n-1-d)).ar else backH X n s d
def needH (X:Nat->Nd) (n:Nat) (Y:Nat->Int) (m:Nat):Nat->Bool:=backH X n (outN Y m) n
set_option maxRecDepth 4000 in
set_option maxHeartbeats 2000000 in
theorem uneeded_w (A:Option Addr) (n C:Nat) (D:Option Addr) (m E:Nat) (X:Nat->Nd) (Y:Nat->Int) (hn:n<=4000) (hm:(m:Int)<=9223372036854775807)
  (hy:∀k,k<m->0<=Y k/\Y k<(n:Int)) (hx:∀i,i<n->∀j,j<(X i).ar->0<=(X i).at j/\(X i).at j<(n:Int)) (w:World) (VX:Nds w A n X) (VY:Ins w D m Y) :
  Calls Try.prog 13 #[.slice D m E,.slice A n C] w fun e w'=>∃g,w.heap.size<=g/\e=.returned (.slice (some ⟨g,0,none⟩) n n)/\Cel w' g n (fun i=>.bool (needH X n Y m i))/\Below w.heap.size w w':=by
 have HY:Hid (∀k,k<m->0<=Y k/\Y k<(n:Int)):=hy
 have HX:Hid (∀i,i<n->∀j,j<(X i).ar->0<=(X i).at j/\(X i).at j<(n:Int)):=hx
 clear hx hy
 go_enter Try.func13,Try.ntmps13
 go_wp2_with (at_make;refine wpList_makeB (by rfl) _ _ (by rfl) n (by rfl) (by rfl) (by omega) ?_;intro w3 I hb3 hS3)
 have hg2:w.heap.size<=w.heap.size:=Nat.le_refl _
 have eb:=hb3
 clear hb3
 go_loopg [16] m (fun G s16 wx=>∃i:Nat,i+G=m/\s16=.int .i64 (i:Int)/\Below w.heap.size w wx/\Cel wx w.heap.size n (fun j=>.bool (outN Y i j)))
 case atStart=>exact⟨0,by omega,rfl,eb,I⟩
 case round =>
  clear eb I hS3
  obtain⟨i,hi,rfl,HB,I⟩:=hrel
  by_cases ci:i=m
  ·subst ci
   clear VY HY
   go_wp2_with fail
   go_loopg [8] n (fun G s6 wx=>∃(d:Nat) (z:Int),d+G=n/\z=(n:Int)-1-(d:Int)/\s6=.int .i64 z/\Below w.heap.size w wx/\Cel wx w.heap.size n (fun j=>.bool (backH X n (outN Y i) d j)))
   case atStart=>exact⟨0,(n:Int)-1,by omega,by omega,by first | rfl | go_num,HB,I⟩
   case round =>
    clear HB I
    obtain⟨d,z,hd,hz,rfl,HB,I⟩:=hrel
    by_cases cd:d=n
    ·have hz0:¬(0:Int)<=z:=by omega
     rw [cd] at I
     go_wp2_with fail
     go_ret
     exact⟨w.heap.size,hg2,rfl,I,HB⟩
    ·obtain⟨t,rfl⟩:∃t:Nat,z=(t:Int):=⟨z.toNat,by omega⟩
     have ht:t=n-1-d:=by omega
     have htn:(t:Int)<(n:Int):=by omega
     have hz0:(0:Int)<=(t:Int):=by omega
     obtain⟨c0, -⟩:=I.2 t (by omega)
     dsimp only at c0
     have gl:=I.1
     have hstep:Hid (backH X n (outN Y i) (d+1)=if backH X n (outN Y i) d t then opH (X t) (backH X n (outN Y i) d) (X t).ar else backH X n (outN Y i) d):=by rw [ht];exact Eq.refl _
     have HZ:Hid ((t:Int)=(n:Int)-1-(d:Int)):=hz
     clear ht hz
     have hcase:backH X n (outN Y i) d t=true\/backH X n (outN Y i) d t=false:=by cases backH X n (outN Y i) d t <;> simp
     rcases hcase with hq | hq
     ·rw [hq] at c0
      have hst:Hid (backH X n (outN Y i) (d+1)=opH (X t) (backH X n (outN Y i) d) (X t).ar):=Eq.trans hstep (if_pos hq)
      obtain⟨b,o,hA,hb, -⟩:=(VX.keep HB) t (by omega)
      subst hA
      obtain⟨x,hx⟩:∃x,x=X t:=⟨_,rfl⟩
      have xc:Hid (∀j c,(ndL x)[j]?=some c->wr.cell? ⟨b,o+t*22+j,none⟩=some c):=by rw [hx];exact ((VX.keep HB).at (i:=t) (by omega)).2
      have hop:=HX t (by omega)
      rw [<-hx] at hst hop
      have co:=fun W=>uoperands_w x W
      clear hq hstep
      have hL2:x.ar<=2:=arG_le x.k
      have HO:Hid (∀j,j<x.ar->0<=x.at j/\x.at j<(n:Int)):=hop
      clear hop
      obtain⟨s0,hs0⟩:∃s0,s0=backH X n (outN Y i) d:=⟨_,rfl⟩
      rw [<-hs0] at I hst
      clear hs0 hx
      generalize hL:x.ar=L at *
      go_wp2_with (first
       | (refine wpList_loadBig (by rfl) _ 54 (by rfl) Try.underlying54 (ndL x) (by kernel_rfl) (by rfl) xc.out (nd_val x) ?_)
       | (go_at_call 31;with_reducible refine (co _).mono ?_;rintro _ w4 ⟨⟨A4,C4,rfl,kk⟩,hb4⟩;replace I:=I.keep hb4;replace HB:=later HB hb4;have sz:=hb4.size))
      replace kk:Hid (∀q,q<L->∃B,A4=some ⟨B,0,none⟩/\w.heap.size<B/\B<w4.heap.size/\w4.cell? ⟨B,q,none⟩=some (.int .i64 (x.at q))):=fun q hq=>by
       obtain⟨B,h1,h2,h3,h4⟩:=kk q hq
       exact⟨B,h1,by omega,h3,h4⟩
      clear co hb4 c0 xc
      go_loopg [42] L (fun G s44 wy=>∃j:Nat,j+G=L/\s44=.int .i64 (j:Int)/\Below w.heap.size w wy/\Cel wy w.heap.size n (fun q=>.bool (opH x s0 j q))/\Hid (∀q,q<L->∃B,A4=some ⟨B,0,none⟩/\w.heap.size<B/\B<wy.heap.size/\wy.cell? ⟨B,q,none⟩=some (.int .i64 (x.at q))))
      case atStart=>exact⟨0,by omega,rfl,HB,I,kk⟩
      case round =>
       clear HB I kk
       obtain⟨j,hj,rfl,HB,I,kk⟩:=hrel
       by_cases cj:j=L
       ·rw [cj] at I
        subst cj
        go_wp2_with fail
        go_roundg (n-d-1)
        case measure=>omega
        case rel=>exact⟨d+1,(t:Int)-1,by omega,by have hz:(t:Int)=(n:Int)-1-(d:Int):=HZ;omega,by first | rfl | go_num,HB,by rw [show backH X n (outN Y i) (d+1)=_ from hst];exact I⟩
       ·have hlt:(j:Int)<(L:Int):=by omega
        obtain⟨B,hA4,gB,hBs,kj⟩:=kk.out j (by omega)
        subst hA4
        obtain⟨y0,y1⟩:=HO j (by omega)
        obtain⟨c0,c1⟩:=I.2 (x.at j).toNat (by omega)
        have gl:=I.1
        go_wp2_with fail
        go_roundg (L-j-1)
        case measure=>omega
        case rel =>
         refine⟨j+1,by omega,by go_num,Below.setCell HB hg2 _, ?_, ?_⟩
         ·refine (I.set (x.at j).toNat (.bool true) (by omega)).congr fun q hq=>?_
          show (if q=(x.at j).toNat then Value.bool true else Value.bool (opH x s0 j q))=Value.bool (setN (opH x s0 j) (x.at j).toNat q)
          unfold setN
          split <;> rfl
         ·exact fun q hq=>by
           obtain⟨B',h1,h2,h3,h4⟩:=kk.out q hq
           exact⟨B',h1,h2,by simp only [World.size_setCell];exact h3,(World.cell?_setCell_far _ _ _ _ (show w.heap.size≠B' by omega)).trans h4⟩
     ·rw [hq] at c0
      have hst:Hid (backH X n (outN Y i) (d+1)=backH X n (outN Y i) d):=Eq.trans hstep (if_neg (by rw [hq];simp))
      clear hq hstep
      go_wp2_with fail
      go_roundg (n-d-1)
      case measure=>omega
      case rel=>exact⟨d+1,(t:Int)-1,by omega,by have hz:(t:Int)=(n:Int)-1-(d:Int):=HZ;omega,by first | rfl | go_num,HB,by rw [show backH X n (outN Y i) (d+1)=_ from hst];exact I⟩
  ·have hlt:(i:Int)<(m:Int):=by omega
   obtain⟨b,o,hA,hb,x0⟩:=(VY.keep HB) i (by omega)
   obtain⟨y0,y1⟩:=HY i (by omega)
   obtain⟨c0,c1⟩:=I.2 (Y i).toNat (by omega)
   have gl:=I.1
   subst hA
   go_wp2_with fail
   go_roundg (m-i-1)
   case measure=>omega
   case rel =>
    refine⟨i+1,by omega,by go_num,Below.setCell HB hg2 _, ?_⟩
    refine (I.set (Y i).toNat (.bool true) (by omega)).congr fun q hq=>?_
    show (if q=(Y i).toNat then Value.bool true else Value.bool (outN Y i q))=Value.bool (setN (outN Y i) (Y i).toNat q)
    unfold setN
    split <;> rfl
end Go.Proofs.Ytbejmklkicoibaa
