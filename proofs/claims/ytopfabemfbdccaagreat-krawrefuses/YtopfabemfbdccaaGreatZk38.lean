/- A tape's slopes as functions of words; what a trimmed tape tells. Rows of slopes beside values, both appended to: what is kept. Slopes: slices.Clone of a row; slopesAtOuts. -/
import Derived.Test.YtopfabemfbdccaaGreatZk37
import Derived.Maps.Own
import Derived.Deep.AppendLies
import Derived.Deep.RegionHeld3
import Derived.Deep.RegionLaw
import Derived.Handy
import Derived.Test.YtopfabemfbdccaaGreatZk16
import Derived.WideKeyRuns
import Derived.Test.YtopfabemfbdccaaGreatZk22
import Derived.Test.YtopfabemfbdccaaGreatZk27
namespace Go.Proofs.YtopfabemfbdccaaGreat
open Go.ChangeShapes Go.WideShapes Go.ChangeAt Go.RowKit
def slQ (o:Opw) (v a b:Nat×Nat) (da db:Nat->Nat×Nat) (j:Nat):Nat×Nat :=
 if o.k=1 then ptQ 0 else if o.k=2 then (if (j:Int)=o.n then ptQ 4607182418800017408 else ptQ 0) else if o.k=3 then addQ (da j) (db j) else if o.k=4 then subQ (da j) (db j) else if o.k=5 then addQ (mulQ (da j) b) (mulQ a (db j)) else if o.k=6 then divQ (subQ (da j) (mulQ v (db j))) b else if o.k=7 then negQ (da j)
 else if o.k=8 then (if o.n=0 then ptQ 0 else mulQ (mulQ (ptQ (floatOfInt .f64 o.n)) (powQ a (o.n-1))) (da j)) else if o.k=9 then divQ (da j) (mulQ (ptQ 4611686018427387904) v) else if o.k=10 then mulQ v (da j) else if o.k=11 then divQ (da j) a else if o.k=12 then mulQ (cosQ a) (da j) else if o.k=13 then negQ (mulQ (sinQ a) (da j)) else divQ (da j) (addQ (ptQ 4607182418800017408) (sqrQ a))
def zrow:Nat->Nat×Nat:=fun _=>zz
def rowA (o:Opw) (D:Nat->Nat->Nat×Nat):Nat->Nat×Nat:=if 1<=arI o.k then D o.a.toNat else zrow
def rowB (o:Opw) (D:Nat->Nat->Nat×Nat):Nat->Nat×Nat:=if arI o.k=2 then D o.b.toNat else zrow
def dsL (O:Nat->Opw) (X:Nat->Nat×Nat):Nat->List (Nat->Nat×Nat)
 | 0=>[]
 | i+1=>dsL O X i++[slQ (O i) (valI O X i) (argA (O i) (vAt O X i)) (argB (O i) (vAt O X i)) (rowA (O i) (fun j=>(dsL O X i).getD j zrow)) (rowB (O i) (fun j=>(dsL O X i).getD j zrow))]
def dAt (O:Nat->Opw) (X:Nat->Nat×Nat) (i:Nat):Nat->Nat->Nat×Nat:=fun j=>(dsL O X i).getD j zrow
def rowI (O:Nat->Opw) (X:Nat->Nat×Nat) (i:Nat):Nat->Nat×Nat:=slQ (O i) (valI O X i) (argA (O i) (vAt O X i)) (argB (O i) (vAt O X i)) (rowA (O i) (dAt O X i)) (rowB (O i) (dAt O X i))
def errD (k:Int) (v:Nat×Nat) (vars:Nat) (r:Nat->Nat×Nat):Int:=if 0<vars/\k=9/\hasB v.1 v.2 0=true then 51 else if (List.range vars).all (fun j=>bndB (r j)) then 0 else 5
def errS (O:Nat->Opw) (X:Nat->Nat×Nat) (vars i:Nat):Int:=errD (O i).k (valI O X i) vars (rowI O X i)
def errG (O:Nat->Opw) (X:Nat->Nat×Nat) (vars i:Nat):Int:=if errI O X i=0 then errS O X vars i else errI O X i
theorem dsL_step (O:Nat->Opw) (X:Nat->Nat×Nat) (i:Nat):dsL O X (i+1)=dsL O X i++[rowI O X i]:=rfl
theorem dsL_len (O:Nat->Opw) (X:Nat->Nat×Nat) (i:Nat):(dsL O X i).length=i:=by
 induction i with
 | zero=>rfl
 | succ i ih=>rw [dsL_step,List.length_append,ih];rfl
theorem vAt_val (O:Nat->Opw) (X:Nat->Nat×Nat) {j:Nat}:∀{i},j<i->vAt O X i j=valI O X j
 | i+1,h=>by
  unfold vAt
  rw [vsL_step,List.getD_eq_getElem?_getD]
  rcases Nat.lt_or_ge j i with c | c
  ·rw [List.getElem?_append_left (by rw [vsL_len];exact c),<-List.getD_eq_getElem?_getD]
   exact vAt_val O X c
  ·have e:j=i:=by omega
   subst e
   rw [List.getElem?_append_right (by rw [vsL_len];omega),vsL_len]
   simp
theorem dAt_row (O:Nat->Opw) (X:Nat->Nat×Nat) {j:Nat}:∀{i},j<i->dAt O X i j=rowI O X j
 | i+1,h=>by
  unfold dAt
  rw [dsL_step,List.getD_eq_getElem?_getD]
  rcases Nat.lt_or_ge j i with c | c
  ·rw [List.getElem?_append_left (by rw [dsL_len];exact c),<-List.getD_eq_getElem?_getD]
   exact dAt_row O X c
  ·have e:j=i:=by omega
   subst e
   rw [List.getElem?_append_right (by rw [dsL_len];omega),dsL_len]
   simp
structure Grew (w w':World) (v v':Value):Prop where
 size:w.heap.size<=w'.heap.size
 block:∀b,b<w.heap.size->v.ownBlock≠some b->w'.heap[b]?=w.heap[b]?
 own:∀b,v'.ownBlock=some b->v.ownBlock=some b\/w.heap.size<=b
theorem wpList_pushI3 {B g0:Nat} {w:World} {ops:Array Oper} {rest:List Oper} {o:Oper} {a:Act} {Q:Exit->Act->World->Prop} (hgd:o.guard=none) (s x:Operand)
  (ho:o.op=.call { callee:=.builtin .append,args:=#[s,x],argTypes:=#[46,46] }) (v:Value) (xs:List (Nat×Nat)) (p q:Nat) (hs:a.eval s=v) (hx:a.eval x=.slice (some ⟨g0,0,none⟩) 1 1)
  (hc0:w.cell? ⟨g0,0,none⟩=some (.float .f64 p)) (hc1:w.cell? ⟨g0,1,none⟩=some (.float .f64 q)) (hown:OwnI B w v xs) (hl:xs.length<=2000000) (hB:B<=w.heap.size)
  (h:∀qa c w',OwnI B w' (.slice qa (xs.length+1) c) (xs++[(p,q)])->Below B w w'->Grew w w' v (.slice qa (xs.length+1) c)->wpList Tryz.prog ops Q rest (a.put o.dst (.slice qa (xs.length+1) c)) w'):wpList Tryz.prog ops Q (o :: rest) a w:=by
 obtain⟨i0,hi,hz0,hz1,hz2⟩:=info_parts Tryz.infoIval
 refine wpList_append_lies w hgd s x 46 ho B 24 i0 (.agg #[.float .f64 0,.float .f64 0]) 2 16 Tryz.underlying46 hi hz0 hz1 hz2 rfl (by decide) v xs.length _ hs hown ⟨g0,0,none⟩ 1 1 [.float .f64 p,.float .f64 q] hx rfl ?_ ?_ (by omega) (by unfold maxLen;omega) (by omega) hB w.heap.size rfl ?_
 ·intro j u hj
  match j,hj with
  | 0,hj=>simp at hj;subst hj;simpa [Addr.add] using hc0
  | 1,hj=>simp at hj;subst hj;simpa [Addr.add] using hc1
 ·intro u hu
  simp at hu
  rcases hu with rfl | rfl <;> rfl
 ·intro g cap w' h1 h2 h3 _
  have lt:∀k,v.ownBlock=some k->B<=k:=fun k hk=>(World.ownsRow.lt hown k hk).1
  refine h _ _ w' ?_ ((Below.refl B w).grown h2 hB lt) ⟨h2.size,fun b hb hne=>h2.block b hb (fun e=>hne e.symm),fun b hb=>?_⟩
  ·unfold OwnI
   rw [List.length_append]
   have e:ivCells (xs++[(p,q)])=ivCells xs++[.float .f64 p,.float .f64 q]:=by simp [ivCells]
   rw [e]
   exact h1
  ·have e:g=b:=by simpa [Value.ownBlock] using hb
   subst e
   rcases h3 with c | c
   ·exact .inl c
   ·exact .inr (by omega)
theorem wpList_pushR3 {B g0:Nat} {w:World} {ops:Array Oper} {rest:List Oper} {o:Oper} {a:Act} {Q:Exit->Act->World->Prop} (hgd:o.guard=none) (s x:Operand)
  (ho:o.op=.call { callee:=.builtin .append,args:=#[s,x],argTypes:=#[52,52] }) (v:Value) (vs:List Value) (A:Option Addr) (n c:Nat) (hs:a.eval s=v) (hx:a.eval x=.slice (some ⟨g0,0,none⟩) 1 1)
  (hc0:w.cell? ⟨g0,0,none⟩=some (.slice A n c)) (hown:OwnR B w v vs) (hl:vs.length<=2000000) (hB:B<=w.heap.size)
  (h:∀qa c' w',OwnR B w' (.slice qa (vs.length+1) c') (vs++[.slice A n c])->Below B w w'->Grew w w' v (.slice qa (vs.length+1) c')->wpList Tryz.prog ops Q rest (a.put o.dst (.slice qa (vs.length+1) c')) w'):wpList Tryz.prog ops Q (o :: rest) a w:=by
 obtain⟨i0,hi,hz0,hz1,hz2⟩:=info_parts Tryz.infoRow
 refine wpList_append_lies w hgd s x 52 ho B 46 i0 (.slice none 0 0) 1 24 Tryz.underlying52 hi hz0 hz1 hz2 rfl (by decide) v vs.length _ hs hown ⟨g0,0,none⟩ 1 1 [.slice A n c] hx rfl ?_ ?_ (by omega) (by unfold maxLen;omega) (by omega) hB w.heap.size rfl ?_
 ·intro j u hj
  match j,hj with
  | 0,hj=>simp at hj;subst hj;simpa [Addr.add] using hc0
 ·intro u hu
  simp at hu
  rw [hu]
  rfl
 ·intro g cap w' h1 h2 h3 _
  have lt:∀k,v.ownBlock=some k->B<=k:=fun k hk=>(World.ownsRow.lt hown k hk).1
  refine h _ _ w' ?_ ((Below.refl B w).grown h2 hB lt) ⟨h2.size,fun b hb hne=>h2.block b hb (fun e=>hne e.symm),fun b hb=>?_⟩
  ·unfold OwnR
   rw [List.length_append]
   exact h1
  ·have e:g=b:=by simpa [Value.ownBlock] using hb
   subst e
   rcases h3 with c | c
   ·exact .inl c
   ·exact .inr (by omega)
def Kp (w w':World) (va sa va' sa':Value):Prop:=w.heap.size<=w'.heap.size/\∀g,g<w.heap.size->va.ownBlock≠some g->sa.ownBlock≠some g->w'.heap[g]?=w.heap[g]?/\va'.ownBlock≠some g/\sa'.ownBlock≠some g
theorem Kp.trans {w1 w2 w3:World} {a1 b1 a2 b2 a3 b3:Value} (h:Kp w1 w2 a1 b1 a2 b2) (k:Kp w2 w3 a2 b2 a3 b3):Kp w1 w3 a1 b1 a3 b3 :=
 ⟨Nat.le_trans h.1 k.1,fun g hg ha hb=>by
  obtain⟨e1,p1,q1⟩:=h.2 g hg ha hb
  obtain⟨e2,p2,q2⟩:=k.2 g (Nat.lt_of_lt_of_le hg h.1) p1 q1
  exact⟨e2.trans e1,p2,q2⟩⟩
theorem Kp.below {w w':World} (va sa:Value) (hb:Below w.heap.size w w'):Kp w w' va sa va sa:=⟨hb.size,fun g hg ha hs=>⟨hb.block g hg,ha,hs⟩⟩
theorem Grew.kpI {w w':World} {va va':Value} (sa:Value) (h:Grew w w' va va'):Kp w w' va sa va' sa:=⟨h.size,fun g hg ha hs=>⟨h.block g hg ha,fun e=>by
 rcases h.own g e with c | c
 ·exact ha c
 ·omega,hs⟩⟩
theorem Grew.kpR {w w':World} {sa sa':Value} (va:Value) (h:Grew w w' sa sa'):Kp w w' va sa va sa':=⟨h.size,fun g hg ha hs=>⟨h.block g hg hs,ha,fun e=>by
 rcases h.own g e with c | c
 ·exact hs c
 ·omega⟩⟩
theorem Img.block {w w':World} {g N:Nat} {xs:Nat->Nat×Nat} (h:Img w g N xs) (hs:w.heap.size<=w'.heap.size) (e:w'.heap[g]?=w.heap[g]?):Img w' g N xs:=by
 refine⟨Nat.lt_of_lt_of_le h.1 hs,fun i hi=>?_⟩
 obtain⟨a,b,c,d⟩:=h.2 i hi
 refine⟨(World.cell?_of_block (w:=w) e).trans a,(World.cell?_of_block (w:=w) e).trans b, ?_, ?_⟩
 ·have:=c
  unfold World.frozen? at *
  simp only [e]
  exact this
 ·have:=d
  unfold World.frozen? at *
  simp only [e]
  exact this
theorem OwnR.grew {B:Nat} {w w':World} {v v' u:Value} {vs:List Value} {xs:List (Nat×Nat)} (h:OwnR B w u vs) (hi:OwnI B w v xs) (k:Grew w w' v v'):OwnR B w' u vs:=by
 have ap:=own_apart hi h
 refine⟨h.1, ?_⟩
 rcases h.2 with hn | ⟨g,cap,cur,hv,hb2,hg,rest⟩
 ·exact .inl hn
 ·have hlt:g<w.heap.size:=(Array.getElem?_eq_some_iff.1 hg).1
  refine .inr ⟨g,cap,cur,hv,hb2, ?_,rest⟩
  rw [k.block g hlt ?_]
  ·exact hg
  ·intro c
   rcases ap with e | e
   ·rw [e] at c;cases c
   ·rw [hv] at e;exact e c
theorem OwnI.grew {B:Nat} {w w':World} {v v' u:Value} {vs:List Value} {xs:List (Nat×Nat)} (h:OwnI B w u xs) (hi:OwnR B w v vs) (k:Grew w w' v v'):OwnI B w' u xs:=by
 have ap:=own_apart h hi
 have h':w.ownsRow B 24 2 u xs.length (ivCells xs):=h
 refine⟨h'.1, ?_⟩
 rcases h'.2 with hn | ⟨g,cap,cur,hv,hb2,hg,rest⟩
 ·exact .inl hn
 ·have hlt:g<w.heap.size:=(Array.getElem?_eq_some_iff.1 hg).1
  refine .inr ⟨g,cap,cur,hv,hb2, ?_,rest⟩
  rw [k.block g hlt ?_]
  ·exact hg
  ·intro c
   rcases ap with e | e
   ·rw [hv] at e;cases e
   ·rw [hv] at e;exact e c.symm
theorem OwnR.low {B B':Nat} {w:World} {v:Value} {vs:List Value} (h:OwnR B w v vs) (hb:B'<=B):OwnR B' w v vs:=by
 refine⟨h.1, ?_⟩
 rcases h.2 with hn | ⟨g,cap,cur,hv,hb2,rest⟩
 ·exact .inl hn
 ·exact .inr ⟨g,cap,cur,hv,Nat.le_trans hb hb2,rest⟩
theorem wpList_makeR0 {w:World} {ops:Array Oper} {rest:List Oper} {o:Oper} {a:Act} {Q:Exit->Act->World->Prop} (hgd:o.guard=none) (l c:Operand)
  (ho:o.op=.makeSlice 52 l c) (n:Nat) (hl:a.eval l=.int .i64 0) (hc:a.eval c=.int .i64 (n:Int)) (hn:n<=3000000)
  (h:∀w',OwnR w.heap.size w' (.slice (some ⟨w.heap.size,0,none⟩) 0 n) []->Below w.heap.size w w'->wpList Tryz.prog ops Q rest (a.put o.dst (.slice (some ⟨w.heap.size,0,none⟩) 0 n)) w'):wpList Tryz.prog ops Q (o :: rest) a w:=by
 obtain⟨i0,hi,hz0,hz1,hz2⟩:=info_parts Tryz.infoRow
 refine wpList_make_own w hgd l c 52 ho w.heap.size 46 i0 (.slice none 0 0) 1 Tryz.underlying52 hi hz0 hz1 .i64 .i64 _ n hl hc rfl (by rw [hz2];omega) (by unfold maxLen;omega) (Nat.le_refl _) ?_
 intro w' h1 h2
 exact h w' h1 ⟨h2.os,h2.tape,h2.output,h2.size,fun k hk=>h2.block k hk (by simp)⟩
structure GSt (O:Nat->Opw) (X:Nat->Nat×Nat) (mx B:Nat) (w:World) (va sa:Value) (vs:List Value) (k:Nat):Prop where
 vals:OwnI B w va (vsL O X k)
 rows:OwnR B w sa vs
 len:vs.length=k
 each:∀r,r<k->∃g,vs[r]?=some (.slice (some ⟨g,0,none⟩) mx mx)/\va.ownBlock≠some g/\sa.ownBlock≠some g/\Img w g mx (rowI O X r)
theorem GSt.keep {O:Nat->Opw} {X:Nat->Nat×Nat} {mx B:Nat} {w w2:World} {va sa:Value} {vs:List Value} {k:Nat} (h:GSt O X mx B w va sa vs k) (hb:Below w.heap.size w w2):GSt O X mx B w2 va sa vs k :=
 ⟨OwnI.keep h.vals hb,OwnR.keep h.rows hb,h.len,fun r hr=>by obtain⟨g,e1,e2,e3,i⟩:=h.each r hr;exact⟨g,e1,e2,e3,i.keep hb⟩⟩
theorem GSt.push {O:Nat->Opw} {X:Nat->Nat×Nat} {mx B:Nat} {w w2:World} {va sa va' sa':Value} {vs:List Value} {k g0:Nat} (h:GSt O X mx B w va sa vs k) (hk:Kp w w2 va sa va' sa') (hv:OwnI B w2 va' (vsL O X (k+1))) (hr:OwnR B w2 sa' (vs++[.slice (some ⟨g0,0,none⟩) mx mx])) (g1:va.ownBlock≠some g0) (g2:sa.ownBlock≠some g0) (hi:Img w g0 mx (rowI O X k)) :
  GSt O X mx B w2 va' sa' (vs++[.slice (some ⟨g0,0,none⟩) mx mx]) (k+1):=by
 refine⟨hv,hr,by rw [List.length_append,h.len];rfl,fun r hr=>?_⟩
 rcases Nat.lt_or_ge r k with c | c
 ·obtain⟨g,e1,e2,e3,i⟩:=h.each r c
  obtain⟨q1,q2,q3⟩:=hk.2 g i.1 e2 e3
  exact⟨g,by rw [List.getElem?_append_left (by rw [h.len];exact c)];exact e1,q2,q3,i.block hk.1 q1⟩
 ·have e:r=k:=by omega
  subst e
  obtain⟨q1,q2,q3⟩:=hk.2 g0 hi.1 g1 g2
  exact⟨g0,by rw [List.getElem?_append_right (by rw [h.len];omega),h.len,Nat.sub_self];rfl,q2,q3,hi.block hk.1 q1⟩
theorem GSt.rws {O:Nat->Opw} {X:Nat->Nat×Nat} {mx B:Nat} {w:World} {va sa:Value} {vs:List Value} {k:Nat} (h:GSt O X mx B w va sa vs k) (hm:mx<=64) (hw:∀r,r<k->∀j,j<mx->W2 (rowI O X r j)):∃A C RA RC,sa=.slice A k C/\Rws w A k RA (fun _=>mx) RC (dAt O X k)/\∀r,r<k->∃b,RA r=some ⟨b,0,none⟩:=by
 have h':w.ownsRow B 46 1 sa vs.length vs:=h.rows
 rw [h.len] at h'
 rcases h'.2 with ⟨rfl,hn⟩ | ⟨g,cap,cur,rfl, -⟩
 ·rw [hn]
  exact⟨none,0,fun _=>none,fun _=>0,rfl,fun j hj=>by omega,fun j hj=>by omega⟩
 ·have hl:=(World.ownsRow.lt h' g rfl).2
  obtain⟨G,hG⟩:=Classical.axiomOfChoice (r:=fun (r:Nat) (q:Nat)=>r<k->vs[r]?=some (.slice (some ⟨q,0,none⟩) mx mx)/\Img w q mx (rowI O X r)) (fun r=>by
   by_cases c:r<k
   ·obtain⟨q,e1, -, -,i⟩:=h.each r c
    exact⟨q,fun _=>⟨e1,i⟩⟩
   ·exact⟨0,fun d=>absurd d c⟩)
  refine⟨_,cap,fun r=>some ⟨G r,0,none⟩,fun _=>mx,rfl,fun r hr=>⟨g,0,rfl,hl, ?_,by show mx<=_;omega, ?_⟩,fun r _=>⟨G r,rfl⟩⟩
  ·rw [Nat.zero_add,World.ownsRow.cellAt h' r (by omega)]
   exact (hG r hr).1
  ·rw [dAt_row O X hr]
   exact (hG r hr).2.ivs (fun j hj=>hw r hr j hj)
structure SlO (B:Nat) (w:World) (g m mx:Nat) (SA:Nat->Option Addr) (SC:Nat->Nat):Prop where
 out:Out w g m (fun i=>.slice (SA i) mx (SC i))
 new:B<=g
 cap:∀i,i<m->mx<=SC i
 off:∀i,i<m->Off (SA i) mx g
theorem SlO.low {B B':Nat} {w:World} {g m mx:Nat} {SA:Nat->Option Addr} {SC:Nat->Nat} (h:SlO B w g m mx SA SC) (hb:B'<=B):SlO B' w g m mx SA SC:=⟨h.out,Nat.le_trans hb h.new,h.cap,h.off⟩
set_option maxHeartbeats 2000000 in
theorem sOuts_new (v:Int) (A:Option Addr) (n C:Nat) (D:Option Addr) (m E:Nat) (Y:Nat->Int) (B:Option Addr) (k F mx:Nat) (RA:Nat->Option Addr) (RC:Nat->Nat) (R:Nat->Nat->Nat×Nat) (hr:∀r,r<k->∃b,RA r=some ⟨b,0,none⟩) (hx:mx<=64) (hm:m<=400) (hY:∀i,i<m->0<=Y i/\Y i<(k:Int)) (w:World) (U:Rws w B k RA (fun _=>mx) RC R) (VY:Ins w D m Y) :
  Calls Tryz.prog 73 #[tapeV v A n C D m E,.slice B k F] w fun e w'=>(∃g SA SC,e=.returned (.slice (some ⟨g,0,none⟩) m m)/\Rws w' (some ⟨g,0,none⟩) m SA (fun _=>mx) SC (fun i=>R (Y i).toNat)/\SlO w.heap.size w' g m mx SA SC)/\Below w.heap.size w w':=by
 have HY:Hid (∀i,i<m->0<=Y i/\Y i<(k:Int)):=hY
 have HR:Hid (∀r,r<k->∃b,RA r=some ⟨b,0,none⟩):=hr
 clear hY hr
 unfold tapeV at *
 have T:=hasT_new w v A n C D m E
 have HB:Below w.heap.size w (w.alloc (.cells #[.int .i64 v,.slice A n C,.slice D m E] 45)):=by go_grown
 go_enter Tryz.func73,Tryz.ntmps73
 go_upto_region 1 with fail
 generalize (w.alloc (.cells #[.int .i64 v,.slice A n C,.slice D m E] 45))=V1 at *
 obtain⟨t0,t1,t2,tl⟩:=id T
 go_wp2_with (at_make;refine wpList_makeR (by rfl) _ _ (by rfl) m (by rfl) (by rfl) (by omega) ?_;intro w3 hI hb3 hS3;replace T:=T.keep hb3;clear t0 t1 t2 tl;obtain⟨t0,t1,t2,tl⟩:=id T)
 clear t0 t1 t2 tl T
 have hg:w.heap.size<=V1.heap.size:=HB.size
 replace HB:=later HB hb3
 clear hb3
 generalize V1.heap.size=g at *
 go_loopg [15] m (fun G s15 wx=>Below w.heap.size w wx/\g<wx.heap.size/\∃(r:Nat) (f:Nat->Value),r+G=m/\s15=.int .i64 (r:Int)/\Out wx g m f/\Hid (∀i,i<r->∃A' C',f i=.slice A' mx C'/\Ivs wx A' mx (R (Y i).toNat)/\Off A' mx g/\mx<=C'))
 case atStart=>exact⟨HB,hS3,0,_,by omega,rfl,hI,fun i hi=>absurd hi (by omega)⟩
 case round =>
  clear HB hI hS3
  obtain⟨HB,hS,r,f,hr,rfl,hI,hall⟩:=hrel
  by_cases cr:r=m
  ·subst cr
   go_wp2_with fail
   go_ret
   obtain⟨SA,hSA⟩:=Classical.axiomOfChoice (r:=fun (i:Nat) (q:Option Addr×Nat)=>i<r->f i=.slice q.1 mx q.2/\Ivs wr q.1 mx (R (Y i).toNat)/\Off q.1 mx g/\mx<=q.2) (fun i=>by
    by_cases c:i<r
    ·obtain⟨A',C',e1,e2,e3⟩:=hall.out i c
     exact⟨(A',C'),fun _=>⟨e1,e2,e3⟩⟩
    ·exact⟨(none,0),fun d=>absurd d c⟩)
   refine⟨⟨g,fun i=>(SA i).1,fun i=>(SA i).2,rfl,fun i hi=>⟨g,0,rfl,hI.1, ?_,by show mx<=_;omega,(hSA i hi).2.1⟩,⟨hI.congr fun i hi=>(hSA i hi).1,hg,fun i hi=>(hSA i hi).2.2.2,fun i hi=>(hSA i hi).2.2.1⟩⟩,HB⟩
   rw [Nat.zero_add,(hI.2 i hi).1,(hSA i hi).1]
  ·have hlt:(r:Int)<(m:Int):=by omega
   obtain⟨b',o',hA,hb',y0⟩:=(VY.keep HB) r (by omega)
   obtain⟨j,hj⟩:∃j:Nat,Y r=(j:Int):=⟨(Y r).toNat,by have:=HY r (by omega);omega⟩
   have hjk:(j:Int)<(k:Int):=by have:=HY r (by omega);omega
   obtain⟨xb,xo,hB,hxb,x0, -,I⟩:=(U.keep HB) j (by omega)
   obtain⟨rb,hrb⟩:=HR j (by omega)
   rw [hrb] at x0 I
   have cc:=clone_wide rb 0 mx (RC j) (R j) hx wr I
   have ej:R (Y r).toNat=R j:=by rw [hj];rfl
   rw [hj] at y0
   subst hA
   subst hB
   go_wp2_with (go_at_call 127;refine cc.mono ?_;rintro _ w4 ⟨⟨A4,C4,rfl,I4,off4,cap4⟩,hb4⟩;replace hI:=hI.keep hb4;replace HB:=later HB hb4;obtain⟨i0,f0⟩:=id (hI.2 r (by omega)))
   have kx:Bex g w4 (w4.setCell ⟨g,r,none⟩ (.slice A4 mx C4)):=Bex.set ⟨Nat.le_refl _,fun _ _ _=>rfl⟩ r _
   have o4:=off4 g hS
   have hall2:Hid (∀i,i<r+1->∃A' C',(if i=r then Value.slice A4 mx C4 else f i)=.slice A' mx C'/\Ivs (w4.setCell ⟨g,r,none⟩ (.slice A4 mx C4)) A' mx (R (Y i).toNat)/\Off A' mx g/\mx<=C'):=fun i hi=>by
    by_cases e:i=r
    ·rw [if_pos e,e,ej]
     exact⟨A4,C4,rfl,I4.ex kx o4,o4,cap4⟩
    ·rw [if_neg e]
     obtain⟨A',C',e1,e2,e3⟩:=hall.out i (by omega)
     exact⟨A',C',e1,(e2.keep hb4).ex kx e3.1,e3⟩
   have hs4:=hb4.size
   go_roundg (m-r-1)
   case measure=>omega
   case rel =>
    refine⟨?_,by rw [World.size_setCell];omega,r+1,_,by omega,by go_num,hI.set r _ (by omega),hall2⟩
    repeat' (first | (with_reducible exact HB) | (with_reducible refine Below.setCell ?_ ?_ _) | go_size | omega)
end Go.Proofs.YtopfabemfbdccaaGreat
