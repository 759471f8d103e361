/- orreryref14's Needed. Dimensions in slices that grow. UnitInfers' walk, over what the reference's Infer answers. A region that draws the order of its first operations and then has others one by one: the first ones are walked under a condition that the others may break. -/
import Derived.Test.YtbejmklkicoibaaKe33
import Derived.Test.YtbejmklkicoibaaKe25
import Derived.Test.YtbejmklkicoibaaKe31
import Derived.Test.YtbejmklkicoibaaKe32
import Derived.Test.YtbejmklkicoibaaKe02
import Derived.Deep.RegionHeld3
namespace Go.Proofs.Ytbejmklkicoibaa
open Go.ChangeShapes Go.WideShapes Go.ChangeAt Go.RowKit
def nI (b:Bool):Int:=if b then 1 else 0
theorem nI_set {f:Nat->Bool} {k q:Nat}:(if q=k then Value.int .i64 1 else Value.int .i64 (nI (f q)))=Value.int .i64 (nI (setN f k q)):=by
 unfold setN nI
 by_cases h:q=k
 ·rw [if_pos h,if_pos h];rfl
 ·rw [if_neg h,if_neg h]
set_option maxRecDepth 4000 in
set_option maxHeartbeats 4000000 in
theorem fneeded_w (A:Option Addr) (n C:Nat) (D:Option Addr) (m E:Nat) (X:Nat->Nd) (Y:Nat->Int) (hn:n<=4000) (hm:(m:Int)<=9223372036854775807)
  (hy:∀k,k<m->0<=Y k/\Y k<(n:Int)) (hx:∀i,i<n->∀j,j<(X i).ar->0<=(X i).at j/\(X i).at j<(n:Int)) (hkd:∀i,i<n->kindB (X i).k=true) (w:World) (VX:Nds w A n X) (VY:Ins w D m Y) :
  Calls Try.prog 23 #[.slice A n C,.slice D m E] w fun e w'=>∃g,w.heap.size<=g/\e=.returned (.slice (some ⟨g,0,none⟩) n n)/\Cel w' g n (fun i=>.int .i64 (nI (needH X n Y m i)))/\Below w.heap.size w w':=by
 have HY:Hid (∀k,k<m->0<=Y k/\Y k<(n:Int)):=hy
 have HX:Hid (∀i,i<n->∀j,j<(X i).ar->0<=(X i).at j/\(X i).at j<(n:Int)):=hx
 have HK:Hid (∀i,i<n->kindB (X i).k=true):=hkd
 clear hx hy hkd
 go_enter Try.func23,Try.ntmps23
 go_wp2_with (at_make;refine wpList_makeN (by rfl) _ _ (by rfl) n (by rfl) (by rfl) (by omega) ?_;intro w3 I hb3 hS3)
 have hg2:w.heap.size<=w.heap.size:=Nat.le_refl _
 have eb:=hb3
 clear hb3
 go_loopg [15] m (fun G s16 wx=>∃i:Nat,i+G=m/\s16=.int .i64 (i:Int)/\Below w.heap.size w wx/\Cel wx w.heap.size n (fun j=>.int .i64 (nI (outN Y i j))))
 case atStart=>exact⟨0,by omega,rfl,eb,I⟩
 case round =>
  clear eb I hS3
  obtain⟨i,hi,rfl,HB,I⟩:=hrel
  by_cases ci:i=m
  ·subst ci
   clear VY HY
   go_wp2_with fail
   go_loopg [8] n (fun G s6 wx=>∃(d:Nat) (z:Int),d+G=n/\z=(n:Int)-1-(d:Int)/\s6=.int .i64 z/\Below w.heap.size w wx/\Cel wx w.heap.size n (fun j=>.int .i64 (nI (backH X n (outN Y i) d j))))
   case atStart=>exact⟨0,(n:Int)-1,by omega,by omega,by first | rfl | go_num,HB,I⟩
   case round =>
    clear HB I
    obtain⟨d,z,hd,hz,rfl,HB,I⟩:=hrel
    by_cases cd:d=n
    ·have hz0:¬(0:Int)<=z:=by omega
     rw [cd] at I
     go_wp2_with fail
     go_ret
     exact⟨w.heap.size,hg2,rfl,I,HB⟩
    ·obtain⟨t,rfl⟩:∃t:Nat,z=(t:Int):=⟨z.toNat,by omega⟩
     have ht:t=n-1-d:=by omega
     have htn:(t:Int)<(n:Int):=by omega
     have hz0:(0:Int)<=(t:Int):=by omega
     obtain⟨c0,c0f⟩:=I.2 t (by omega)
     dsimp only at c0 c0f
     have gl:=I.1
     have hstep:Hid (backH X n (outN Y i) (d+1)=if backH X n (outN Y i) d t then opH (X t) (backH X n (outN Y i) d) (X t).ar else backH X n (outN Y i) d):=by rw [ht];exact Eq.refl _
     have HZ:Hid ((t:Int)=(n:Int)-1-(d:Int)):=hz
     clear ht hz
     obtain⟨b,o,hA,hb, -⟩:=VX t (by omega)
     subst hA
     obtain⟨x,hx⟩:∃x,x=X t:=⟨_,rfl⟩
     have xc:Hid (∀j c,(ndL x)[j]?=some c->wr.cell? ⟨b,o+t*22+j,none⟩=some c):=by rw [hx];exact ((VX.keep HB).at (i:=t) (by omega)).2
     have hop:=HX.out t (by omega)
     have hkx:=HK.out t (by omega)
     rw [<-hx] at hstep hop hkx
     have x0:wr.cell? ⟨b,o+t*22,none⟩=some (.int .i64 x.k):=xc.out 0 _ rfl
     have hbr:b<wr.heap.size:=Nat.lt_of_lt_of_le hb HB.size
     have hne:w.heap.size≠b:=by omega
     have x1:=xc.out 1 _ rfl
     have x2:=xc.out 2 _ rfl
     obtain⟨s0,hs0⟩:∃s0,s0=backH X n (outN Y i) d:=⟨_,rfl⟩
     rw [<-hs0] at I hstep c0
     have HO:Hid (∀j,j<x.ar->0<=x.at j/\x.at j<(n:Int)):=hop
     have ca:∀W,Calls Try.prog 41 #[.int .i64 x.k] W fun r w'=>r=.returned (.int .i64 (arG x.k:Int))/\W=w':=fun W=>by
      rw [<-arR_yes hkx]
      exact fargs_w x.k W
     clear hs0 hx hop hkx xc
     have hdone:∀s1:Nat->Bool,Hid (backH X n (outN Y i) (d+1)=s1)->∀W,Cel W w.heap.size n (fun j=>.int .i64 (nI (s1 j)))->Cel W w.heap.size n (fun j=>.int .i64 (nI (backH X n (outN Y i) (d+1) j))):=fun s1 e W h=>by rw [e.out];exact h
     cases hq:s0 t with
     | false =>
      have hst:Hid (backH X n (outN Y i) (d+1)=s0):=Eq.trans hstep.out (if_neg (by rw [hq];simp))
      rw [hq] at c0
      replace c0:wr.cell? ⟨w.heap.size,t,none⟩=some (.int .i64 0):=c0
      clear hstep
      go_wp2_with (go_at_call 41;(with_reducible refine (ca _).mono ?_);rintro _ W5 ⟨rfl,hW5⟩;rw [<-hW5];clear hW5)
      go_roundg (n-d-1)
      case measure=>omega
      case rel=>exact⟨d+1,(t:Int)-1,by omega,by have hz:(t:Int)=(n:Int)-1-(d:Int):=HZ;omega,by first | rfl | go_num,HB,hdone _ hst _ I⟩
     | true =>
      have hst:Hid (backH X n (outN Y i) (d+1)=opH x s0 (arG x.k)):=Eq.trans hstep.out (if_pos hq)
      rw [hq] at c0
      replace c0:wr.cell? ⟨w.heap.size,t,none⟩=some (.int .i64 1):=c0
      clear hstep
      have HO2:Hid (∀j,j<arG x.k->0<=x.at j/\x.at j<(n:Int)):=HO
      clear HO
      have h3:=arG_le x.k
      generalize arG x.k=ar at *
      rcases (by omega:ar=0\/ar=1\/ar=2) with c | c | c
      ·subst c
       clear h3
       go_wp2_with (go_at_call 41;(with_reducible refine (ca _).mono ?_);rintro _ W5 ⟨rfl,hW5⟩;rw [<-hW5];clear hW5)
       go_roundg (n-d-1)
       case measure=>omega
       case rel=>exact⟨d+1,(t:Int)-1,by omega,by have hz:(t:Int)=(n:Int)-1-(d:Int):=HZ;omega,by first | rfl | go_num,HB,hdone _ hst _ I⟩
      ·subst c
       clear h3
       obtain⟨a0,a1⟩:0<=x.a/\x.a<(n:Int):=HO2.out 0 (by omega)
       obtain⟨ta,hta⟩:∃ta:Nat,x.a=(ta:Int):=⟨x.a.toNat,by omega⟩
       have e1:Hid (opH x s0 1=setN s0 ta):=by show setN s0 (x.at 0).toNat=_;unfold Nd.at;rw [if_pos rfl,hta];rfl
       rw [hta] at x1 a0 a1
       clear hta
       obtain⟨d0,d1⟩:=I.2 ta (by omega)
       dsimp only at d0
       have I2:Cel (wr.setCell ⟨w.heap.size,ta,none⟩ (.int .i64 1)) w.heap.size n (fun j=>.int .i64 (nI (setN s0 ta j))):=(I.set ta (.int .i64 1) (by omega)).congr fun q _=>nI_set
       have f0:(wr.setCell ⟨w.heap.size,ta,none⟩ (.int .i64 1)).cell? ⟨w.heap.size,t,none⟩=some (.int .i64 1):=by
        have hs:setN s0 ta t=true:=by unfold setN;split <;> first | rfl | exact hq
        have q:=(I2.2 t (by omega)).1
        dsimp only at q
        rw [hs] at q
        exact q
       go_wp2_with (go_at_call 41;(with_reducible refine (ca _).mono ?_);rintro _ W5 ⟨rfl,hW5⟩;rw [<-hW5];clear hW5)
       go_roundg (n-d-1)
       case measure=>omega
       case rel=>exact⟨d+1,(t:Int)-1,by omega,by have hz:(t:Int)=(n:Int)-1-(d:Int):=HZ;omega,by first | rfl | go_num,Below.setCell HB hg2 _,hdone _ (Eq.trans hst.out e1.out) _ I2⟩
      ·subst c
       clear h3
       obtain⟨a0,a1⟩:0<=x.a/\x.a<(n:Int):=HO2.out 0 (by omega)
       obtain⟨b0,b1⟩:0<=x.b/\x.b<(n:Int):=HO2.out 1 (by omega)
       obtain⟨ta,hta⟩:∃ta:Nat,x.a=(ta:Int):=⟨x.a.toNat,by omega⟩
       obtain⟨tb,htb⟩:∃tb:Nat,x.b=(tb:Int):=⟨x.b.toNat,by omega⟩
       have e1:Hid (opH x s0 2=setN (setN s0 ta) tb):=by show setN (setN s0 (x.at 0).toNat) (x.at 1).toNat=_;unfold Nd.at;rw [if_pos rfl,if_neg (by decide),hta,htb];rfl
       rw [hta] at x1 a0 a1
       rw [htb] at x2 b0 b1
       clear hta htb
       obtain⟨d0,d1⟩:=I.2 ta (by omega)
       dsimp only at d0
       have I2:Cel (wr.setCell ⟨w.heap.size,ta,none⟩ (.int .i64 1)) w.heap.size n (fun j=>.int .i64 (nI (setN s0 ta j))):=(I.set ta (.int .i64 1) (by omega)).congr fun q _=>nI_set
       have f0:(wr.setCell ⟨w.heap.size,ta,none⟩ (.int .i64 1)).cell? ⟨w.heap.size,t,none⟩=some (.int .i64 1):=by
        have hs:setN s0 ta t=true:=by unfold setN;split <;> first | rfl | exact hq
        have q:=(I2.2 t (by omega)).1
        dsimp only at q
        rw [hs] at q
        exact q
       obtain⟨g0,g1⟩:=I2.2 tb (by omega)
       dsimp only at g0
       have x3:(wr.setCell ⟨w.heap.size,ta,none⟩ (.int .i64 1)).cell? ⟨b,o+t*22+2,none⟩=some (.int .i64 (tb:Int)):=(World.cell?_setCell_far _ _ _ _ hne).trans x2
       have I3:Cel ((wr.setCell ⟨w.heap.size,ta,none⟩ (.int .i64 1)).setCell ⟨w.heap.size,tb,none⟩ (.int .i64 1)) w.heap.size n (fun j=>.int .i64 (nI (setN (setN s0 ta) tb j))):=(I2.set tb (.int .i64 1) (by omega)).congr fun q _=>nI_set
       go_wp2_with (go_at_call 41;(with_reducible refine (ca _).mono ?_);rintro _ W5 ⟨rfl,hW5⟩;rw [<-hW5];clear hW5)
       go_roundg (n-d-1)
       case measure=>omega
       case rel=>exact⟨d+1,(t:Int)-1,by omega,by have hz:(t:Int)=(n:Int)-1-(d:Int):=HZ;omega,by first | rfl | go_num,Below.setCell (Below.setCell HB hg2 _) hg2 _,hdone _ (Eq.trans hst.out e1.out) _ I3⟩
  ·have hlt:(i:Int)<(m:Int):=by omega
   obtain⟨b,o,hA,hb,x0⟩:=(VY.keep HB) i (by omega)
   obtain⟨y0,y1⟩:=HY.out i (by omega)
   obtain⟨c0,c1⟩:=I.2 (Y i).toNat (by omega)
   have gl:=I.1
   subst hA
   go_wp2_with fail
   go_roundg (m-i-1)
   case measure=>omega
   case rel =>
    refine⟨i+1,by omega,by go_num,Below.setCell HB hg2 _, ?_⟩
    exact (I.set (Y i).toNat (.int .i64 1) (by omega)).congr fun q hq=>nI_set
def dgL:List (Nat->Int×Int)->List Value
 | []=>[]
 | E :: L=>dimL E++dgL L
theorem dgL_len:∀L,(dgL L).length=L.length*14
 | []=>rfl
 | E :: L=>by simp only [dgL,List.length_append,dimL_len,List.length_cons,dgL_len L];omega
theorem dgL_append:∀L M,dgL (L++M)=dgL L++dgL M
 | [],_=>rfl
 | x :: L,M=>by simp only [List.cons_append,dgL,dgL_append L M,List.append_assoc]
theorem dgL_at:∀(L:List (Nat->Int×Int)) (i:Nat) (E:Nat->Int×Int),L[i]?=some E->∀j u,(dimL E)[j]?=some u->(dgL L)[i*14+j]?=some u
 | [],i,x,h,_,_,_=>by simp at h
 | y :: L,0,x,h,j,u,hj=>by
  have e:y=x:=by simpa using h
  subst e
  have hl:=(List.getElem?_eq_some_iff.1 hj).1
  rw [dgL,Nat.zero_mul,Nat.zero_add,List.getElem?_append_left hl]
  exact hj
 | y :: L,i+1,x,h,j,u,hj=>by
  rw [dgL,List.getElem?_append_right (by rw [dimL_len];omega),dimL_len,show (i+1)*14+j-14=i*14+j by omega]
  exact dgL_at L i x (by simpa using h) j u hj
theorem dgL_one:∀L,∀u,u∈dgL L->u.oneCell'=true
 | [],u,h=>by cases h
 | E :: L,u,h=>by
  simp only [dgL,List.mem_append] at h
  rcases h with h | h
  ·simp only [dimL,List.mem_cons,List.not_mem_nil,or_false] at h
   rcases h with h | h | h | h | h | h | h | h | h | h | h | h | h | h <;> rw [h] <;> rfl
  ·exact dgL_one L u h
def DgAt (w:World) (g n:Nat) (D:Nat->Nat->Int×Int):Prop:=∃cs,BlkAt w g 30 cs/\n*14<=cs.length/\∀v,v<n->∀j u,(dimL (D v))[j]?=some u->cs[v*14+j]?=some u
theorem DgAt.keep {w W:World} {g n:Nat} {D:Nat->Nat->Int×Int} (h:DgAt w g n D) (k:Below w.heap.size w W):DgAt W g n D:=by
 obtain⟨cs,b,r⟩:=h
 exact⟨cs,b.keeps k,r⟩
theorem DgAt.dms {w:World} {g n:Nat} {D:Nat->Nat->Int×Int} (h:DgAt w g n D):Dms w (some ⟨g,0,none⟩) n D:=fun i hi=>by
 obtain⟨cs,b, -,f⟩:=h
 exact⟨g,0,rfl,b.lt,fun j u hj=>by rw [Nat.zero_add];exact b.cell _ _ (f i hi j u hj)⟩
theorem DgAt.set {W:World} {g n t:Nat} {D:Nat->Nat->Int×Int} {E:Nat->Int×Int} {cs:List Value} (hl:n*14<=cs.length) (f:∀v,v<n->∀j u,(dimL (D v))[j]?=some u->cs[v*14+j]?=some u) (ht:t<n)
  (bW:BlkAt W g 30 (cs.take (t*14)++dimL E++cs.drop (t*14+14))):DgAt W g n (fun v=>if v=t then E else D v):=by
 have h0:(cs.take (t*14)).length=t*14:=by rw [List.length_take];omega
 refine⟨_,bW, ?_,fun q hq j u hj=>?_⟩
 ·simp only [List.length_append,h0,dimL_len,List.length_drop]
  omega
 ·have hj2:=(List.getElem?_eq_some_iff.1 hj).1
  rw [dimL_len] at hj2
  by_cases e:q=t
  ·subst e
   simp only [if_true] at hj
   rw [List.append_assoc,List.getElem?_append_right (by omega),h0,show q*14+j-q*14=j by omega,List.getElem?_append_left (by rw [dimL_len];omega)]
   exact hj
  ·simp only [if_neg e] at hj
   have g1:=f q hq j u hj
   rcases Nat.lt_or_ge q t with c1 | c1
   ·have:q*14+j<t*14:=by omega
    rw [List.append_assoc,List.getElem?_append_left (by omega),List.getElem?_take_of_lt this]
    exact g1
   ·have:t*14+14<=q*14+j:=by omega
    rw [List.getElem?_append_right (by simp only [List.length_append,h0,dimL_len];omega)]
    simp only [List.length_append,h0,dimL_len]
    rw [List.getElem?_drop,show t*14+14+(q*14+j-(t*14+14))=q*14+j by omega]
    exact g1
def OwnDg (B:Nat) (w:World) (v:Value) (L:List (Nat->Int×Int)):Prop:=w.ownsRow B 30 14 v L.length (dgL L)
theorem OwnDg.keep {B:Nat} {w w2:World} {v:Value} {L:List (Nat->Int×Int)} (h:OwnDg B w v L) (hb:Below w.heap.size w w2):OwnDg B w2 v L:=own_keep h hb
theorem OwnDg.form {B:Nat} {w:World} {v:Value} {L:List (Nat->Int×Int)} (h:OwnDg B w v L):∃A C,v=.slice A L.length C/\L.length<=C/\(0<L.length->∃b,A=some ⟨b,0,none⟩/\B<=b/\DgAt w b L.length (fun i=>L.getD i plE)):=by
 rcases h.2 with ⟨rfl,hn⟩ | ⟨g,cap,cur,rfl,hB,hg,hc, -,hlen,ht⟩
 ·exact⟨none,0,by rw [hn],by omega,fun hm=>by omega⟩
 ·have hb:BlkAt w g 30 cur.toList:=by show w.heap[g]?=_;rw [hg]
  refine⟨_,_,rfl,hc,fun _=>⟨g,rfl,hB,cur.toList,hb, ?_,fun v hv j u hj=>?_⟩⟩
  ·have q:=congrArg List.length ht
   rw [List.length_take,dgL_len] at q
   omega
  ·have q:=dgL_at L v (L.getD v plE) (by rw [List.getD_eq_getElem?_getD,List.getElem?_eq_getElem hv];rfl) j u hj
   rw [<-ht,List.getElem?_take] at q
   split at q
   ·exact q
   ·cases q
set_option maxRecDepth 8000 in
theorem wpList_catDg {B:Nat} {wr:World} {rest:List Oper} {ops:Array Oper} {o:Oper} {a:Act} {Q:Exit->Act->World->Prop} (hgd:o.guard=none) (s x:Operand)
  (ho:o.op=.call { callee:=.builtin .append,args:=#[s,x],argTypes:=#[24,24] }) (v:Value) (L:List (Nat->Int×Int)) (e:Nat->Int×Int) (b:Nat) (hs:a.eval s=v) (hx:a.eval x=.slice (some ⟨b,0,none⟩) 1 1)
  (hown:OwnDg B wr v L) (hbk:BlkAt wr b 30 (dimL e)) (hl:L.length<=100000) (hB:B<=wr.heap.size)
  (h:∀v' w',OwnDg B w' v' (L++[e])->Below B wr w'->(∀b T cs,T≠30->BlkAt wr b T cs->BlkAt w' b T cs)->wr.heap.size<=w'.heap.size->wpList Try.prog ops Q rest (a.put o.dst v') w'):wpList Try.prog ops Q (o :: rest) a wr:=by
 refine wpList_step fun _ hK=>?_
 obtain⟨i0,hi,hz0,hz1,hz2⟩:=info_parts Try.infoDim
 refine step_append_lies wr hgd s x 24 ho B 30 i0 _ 14 112 Try.underlying24 hi hz0 hz1 hz2 rfl (by decide) v L.length (dgL L) hs hown ⟨b,0,none⟩ 1 1 (dgL [e]) hx rfl (fun j u hj=>by rw [add_plain];exact hbk.cell0 j u (by simpa [dgL] using hj)) (dgL_one [e]) (by decide) (by unfold maxLen;omega) (by omega) hB wr.heap.size rfl ?_
 intro g cap w' h1 h2 h3 _
 have lt:∀k,v.ownBlock=some k->B<=k:=fun k hk=>(World.ownsRow.lt hown k hk).1
 refine hK _ _ (h _ w' ?_ ((Below.refl B wr).grown h2 hB lt) (fun b T cs hT hb=>?_) h2.size)
 ·unfold OwnDg
  rw [List.length_append,dgL_append]
  exact h1
 ·refine (h2.block b hb.lt (fun e2=>?_)).trans hb
  rcases hown.2 with ⟨hv, -⟩ | ⟨b2,cap,cur,hv, -,hg2, -⟩
  ·rw [hv] at e2;cases e2
  ·rw [hv] at e2
   have e3:b2=b:=by injection e2 with e2;exact e2.symm
   subst e3
   have q:some (Obj.cells cs.toArray T (0,0))=some (Obj.cells cur 30 (0,0)):=hb.symm.trans hg2
   injection q with q
   injection q with _ q2 _
   exact hT q2
def SlAns (r:Ending) (w:World) (m:Nat):Except Int (Nat->Nat->Int×Int)->Prop
 | .ok Y=>∃A C,r=.returned (.tuple #[.slice A m C,.int .i64 0])/\Dms w A m Y
 | .error e=>r=.returned (.tuple #[.slice none 0 0,.int .i64 e])
theorem like_self (n:Nat) (Z:Nat->Nat->Int×Int):likeB n Z n Z=true:=by
 unfold likeB
 rw [beq_self_eq_true,Bool.true_and]
 exact all_upto2.2 fun j _=>eqD_self _
theorem dms_none (w:World) (A:Option Addr) (Z:Nat->Nat->Int×Int):Dms w A 0 Z:=fun i hi=>absurd hi (by omega)
set_option maxRecDepth 4000 in
set_option maxHeartbeats 4000000 in
theorem unitInfers_w (AN:Option Addr) (n CN:Nat) (X:Nat->Nd) (AQ:Option Addr) (m CQ:Nat) (Y:Nat->Int) (A0 A1:Option Addr) (n0 C0 n1 C1:Nat) (D:Nat->Nat->Int×Int) (G:Nat->Bool) (S:Nat->Int×Int)
  (hm:(m:Int)<=9223372036854775807) (hn1:(n1:Int)<=9223372036854775807) (hX:∀i,i<n->(X i).Ok) (hS:Dim64 S) (hD:∀v,v<n0->Dim64 (D v)) (w:World) (VN:Nds w AN n X) (VQ:Ins w AQ m Y) (VD:Dms w A0 n0 D) (VG:Bls w A1 n1 G)
  (cr:n<=60->n0<=12->∀W,Nds W AN n X->Ins W AQ m Y->Dms W A0 n0 D->Bls W A1 n1 G->Calls Try.prog 7 #[.slice AN n CN,.slice AQ m CQ,.slice A0 n0 C0,.slice A1 n1 C1,dimV S] W fun r w'=>SlAns r w' n0 (inferR X n Y m n0 n1 G D S)/\Below W.heap.size W w') :
  Calls Try.prog 3 #[.slice AN n CN,.slice AQ m CQ,.slice A0 n0 C0,.slice A1 n1 C1,dimV S] w fun r w'=>r=.returned (.bool true)/\Below w.heap.size w w':=by
 show Calls Try.prog _ #[_,_,_,_,.agg #[.int .i64 (S 0).1,.int .i64 (S 0).2,.int .i64 (S 1).1,.int .i64 (S 1).2,.int .i64 (S 2).1,.int .i64 (S 2).2,.int .i64 (S 3).1,.int .i64 (S 3).2,.int .i64 (S 4).1,.int .i64 (S 4).2,.int .i64 (S 5).1,.int .i64 (S 5).2,.int .i64 (S 6).1,.int .i64 (S 6).2]] w _
 have cz:=fun W=>usmall_w AN n CN A0 n0 C0 W
 obtain⟨XS,HB⟩:=blks1 w 30 [.int .i64 (S 0).1,.int .i64 (S 0).2,.int .i64 (S 1).1,.int .i64 (S 1).2,.int .i64 (S 2).1,.int .i64 (S 2).2,.int .i64 (S 3).1,.int .i64 (S 3).2,.int .i64 (S 4).1,.int .i64 (S 4).2,.int .i64 (S 5).1,.int .i64 (S 5).2,.int .i64 (S 6).1,.int .i64 (S 6).2]
 go_enter Try.func3,Try.ntmps3
 go_upto_region 1 with fail
 generalize (w.alloc (.cells #[.int .i64 (S 0).1,.int .i64 (S 0).2,.int .i64 (S 1).1,.int .i64 (S 1).2,.int .i64 (S 2).1,.int .i64 (S 2).2,.int .i64 (S 3).1,.int .i64 (S 3).2,.int .i64 (S 4).1,.int .i64 (S 4).2,.int .i64 (S 5).1,.int .i64 (S 5).2,.int .i64 (S 6).1,.int .i64 (S 6).2] 30))=V1 at *
 cases hz:(decide (n<=60)&&decide (n0<=12)) with
 | false =>
  rw [hz] at cz
  clear hz
  go_wp2_with (go_at_call 5;refine (cz _).mono ?_;rintro _ _ ⟨rfl,rfl⟩)
  go_ret
  exact⟨rfl,HB⟩
 | true =>
  rw [hz] at cz
  simp only [Bool.and_eq_true,decide_eq_true_eq] at hz
  obtain⟨hn,hn0⟩:=hz
  obtain⟨R,hR⟩:∃R,Hid (inferR X n Y m n0 n1 G D S=R):=⟨_,rfl⟩
  have ci:∀W,Nds W AN n X->Ins W AQ m Y->Dms W A0 n0 D->Bls W A1 n1 G->Calls Try.prog 6 #[.slice AN n CN,.slice AQ m CQ,.slice A0 n0 C0,.slice A1 n1 C1,dimV S] W fun r w'=>TrAns W.heap.size r w' n0 R/\Below W.heap.size W w':=by
   rw [<-hR.out]
   exact fun W vn vq vd vg=>uInfer_w AN n CN X AQ m CQ Y A0 A1 n0 C0 n1 C1 D G S (by omega) hm (by omega) hn1 hX hS hD W vn vq vd vg
  replace cr:=cr hn hn0
  rw [hR.out] at cr
  cases R with
  | error e =>
   clear hR
   have cl:=fun W=>uLike_w none none 0 0 0 0 D D (by omega) W (dms_none W none D) (dms_none W none D)
   rw [like_self] at cl
   go_wp2_with (first
    | (refine wpList_loadBig (by rfl) _ 30 (by rfl) Try.underlying30 (dimL S) (by kernel_rfl) (by rfl) (XS.cell0) (dim_val S) ?_)
    | (go_at_call 5;refine (cz _).mono ?_;rintro _ _ ⟨rfl,rfl⟩)
    | (go_at_call 6;(with_reducible refine (ci _ (VN.keep HB) (VQ.keep HB) (VD.keep HB) (VG.keep HB)).mono ?_);rintro r W2 ⟨hM,hb2⟩;replace hM:r=.returned (.tuple #[.slice none 0 0,.int .i64 e]):=hM;subst hM;replace HB:=later HB hb2;replace XS:=XS.keeps hb2;clear hb2)
    | (go_at_call 7;(with_reducible refine (cr _ (VN.keep HB) (VQ.keep HB) (VD.keep HB) (VG.keep HB)).mono ?_);rintro r W3 ⟨hM,hb2⟩;replace hM:r=.returned (.tuple #[.slice none 0 0,.int .i64 e]):=hM;subst hM;replace HB:=later HB hb2;clear hb2)
    | (go_at_call 8;(with_reducible refine (cl _).mono ?_);rintro _ W4 ⟨rfl,hb2⟩;replace HB:=later HB hb2;clear hb2))
   go_ret
   exact⟨rfl,HB⟩
  | ok Z =>
   clear hR
   have cl:∀W A2 C2 A3 C3,Dms W A2 n0 Z->Dms W A3 n0 Z->Calls Try.prog 8 #[.slice A2 n0 C2,.slice A3 n0 C3] W fun r w'=>r=.returned (.bool true)/\Below W.heap.size W w':=fun W A2 C2 A3 C3 v2 v3=>by
    have q:=uLike_w A2 A3 n0 C2 n0 C3 Z Z (by omega) W v2 v3
    rwa [like_self] at q
   go_wp2_with (first
    | (refine wpList_loadBig (by rfl) _ 30 (by rfl) Try.underlying30 (dimL S) (by kernel_rfl) (by rfl) (XS.cell0) (dim_val S) ?_)
    | (go_at_call 5;refine (cz _).mono ?_;rintro _ _ ⟨rfl,rfl⟩)
    | (go_at_call 6;(with_reducible refine (ci _ (VN.keep HB) (VQ.keep HB) (VD.keep HB) (VG.keep HB)).mono ?_);rintro r W2 ⟨hM,hb2⟩;obtain⟨v,rfl,DV⟩:=hM;replace HB:=later HB hb2;replace XS:=XS.keeps hb2;clear hb2;obtain⟨gD,CD,rfl,lD,DD⟩:=DV;have DP:=DD.dms;clear DD)
    | (go_at_call 7;(with_reducible refine (cr _ (VN.keep HB) (VQ.keep HB) (VD.keep HB) (VG.keep HB)).mono ?_);rintro r W3 ⟨hM,hb2⟩;obtain⟨A9,C9,rfl,DR⟩:=hM;replace HB:=later HB hb2;replace DP:=DP.keep hb2;clear hb2)
    | (go_at_call 8;(with_reducible refine (cl _ _ _ _ _ DP DR).mono ?_);rintro _ W4 ⟨rfl,hb2⟩;replace HB:=later HB hb2;clear hb2))
   go_ret
   exact⟨rfl,HB⟩
section
variable {P:Program} {ops hd:Array Oper}
def HeadQ (N:Act->World->Prop) (Q:Exit->Act->World->Prop):Exit->Act->World->Prop
 | .normal,a,w=>N a w
 | e,a,w=>Q e a w
theorem letsOut_head {N:Act->World->Prop} {Q:Exit->Act->World->Prop} (h:LetsOut (HeadQ N Q)):LetsOut Q:=h
theorem operWp_head {o:Oper} {N:Act->World->Prop} {Q:Exit->Act->World->Prop} {K K':Act->World->Prop} {a:Act} {w:World} (hK:∀a w,K a w->K' a w)
  (h:o.wp P a w K (HeadQ N Q)):o.wp P a w K' Q:=by
 unfold Oper.wp at *
 generalize (execOp a.eval o).run P w=r at *
 cases r with
 | ok n w' =>
  cases n <;> simp only [Oper.upon] at h ⊢ <;>
   first
    | exact hK _ _ h
    | exact Calls.mono h (fun e w'' he=>by cases e <;> first | exact hK _ _ he | exact he)
    | exact Rows.mono h (fun _ _ he=>hK _ _ he)
 | halt x w'=>cases x <;> simp only [Oper.upon] at h ⊢ <;> exact h
theorem wpOp_head {md:Region.Mode} {n j:Nat} {N:Act->World->Prop} {Q:Exit->Act->World->Prop} {K K':Act->World->Prop} {a:Act} {w:World} (H:Heads md ops hd n) (hj:j<n) (hK:∀a w,K a w->K' a w)
  (h:wpOp P hd (HeadQ N Q) j K a w):wpOp P ops Q j K' a w:=by
 have e:=H.same j hj
 unfold wpOp at *
 rw [e] at h
 cases ho:ops[j]? with
 | none=>rw [ho] at h;exact hK _ _ h
 | some o =>
  rw [ho] at h
  simp only at h ⊢
  rw [head_wanted H hj ho] at h
  split
  ·rename_i hw;simp only [hw,if_true] at h;exact h.imp (operWp_head hK) (fun q=>⟨q.1,letsOut_head q.2⟩)
  ·rename_i hw;simp only [hw] at h;exact hK _ _ h
theorem head_splitA {md:Region.Mode} {n g:Nat} {Q:Exit->Act->World->Prop} {N:Act->World->Prop} (H:Heads md ops hd n) (hs:Region.sinkB md ops n=true) (hc:Region.chainB md ops n=true)
  (hT:∀listed a w,HeadInv md ops n listed->(∀j,j<n->listed.getD j true=true)->N a w->wpAny P md ops Q g listed a w) :
  ∀(f:Nat) (lh listed:Array Bool) (a:Act) (w:World),HeadInv md ops n listed->lh.size=n->(∀j,j<n->lh.getD j true=listed.getD j true)->wpAny P md hd (HeadQ N Q) f lh a w->wpAny P md ops Q (f+g) listed a w:=by
 have up:∀(lh listed:Array Bool),HeadInv md ops n listed->lh.size=n->(∀j,j<n->lh.getD j true=listed.getD j true)->∀j,j<n->(j∈Region.ready md hd lh↔j∈Region.ready md ops listed):=fun lh listed inv hsz ag j hj=>by
  have hn:=H.lt
  rw [mem_ready,mem_ready,ag j hj,H.same j hj]
  have key:∀o,ops[j]?=some o->∀e∈o.after,Region.binds md e=true->lh.getD e.on false=listed.getD e.on false:=fun o ho e he hb=>by
   have hl:=H.low j o hj ho e he hb
   rw [getD_any (l:=lh) (by omega) false true,getD_any (l:=listed) (by rw [inv.size];omega) false true]
   exact ag e.on (by omega)
  refine and_congr_right fun _=>⟨fun ⟨o,ho,h⟩=>⟨o,ho,fun e he hb=>?_⟩,fun ⟨o,ho,h⟩=>⟨o,ho,fun e he hb=>?_⟩⟩
  ·rw [<-key o ho e he hb];exact h e he hb
  ·rw [key o ho e he hb];exact h e he hb
 have full:∀(lh listed:Array Bool),HeadInv md ops n listed->lh.size=n->(∀j,j<n->lh.getD j true=listed.getD j true)->Region.ready md hd lh=[]->∀j,j<n->listed.getD j true=true:=fun lh listed inv hsz ag hr j=>by
  induction j using Nat.strongRecOn with
  | _ j ih =>
   intro hj
   cases hl:listed.getD j true with
   | true=>rfl
   | false =>
    have hn:=H.lt
    have:j∈Region.ready md hd lh:=by
     rw [up lh listed inv hsz ag j hj,mem_ready]
     refine⟨hl,ops[j]'(by omega),by simp,fun e he hb=>?_⟩
     have lw:=H.low j (ops[j]'(by omega)) hj (by simp) e he hb
     rw [getD_any (l:=listed) (by rw [inv.size];omega) false true]
     exact ih e.on lw (by omega)
    rw [hr] at this
    cases this
 intro f
 induction f with
 | zero =>
  intro lh listed a w inv hsz ag h
  rw [Nat.zero_add]
  exact hT listed a w inv (full lh listed inv hsz ag h.1) h.2
 | succ f ih =>
  intro lh listed a w inv hsz ag h
  by_cases hr:Region.ready md hd lh=[]
  ·exact any_more' (hT listed a w inv (full lh listed inv hsz ag hr) (h.1 hr)) _
  ·obtain⟨i,hi⟩:=List.exists_mem_of_ne_nil _ hr
   have hin:i<n:=by
    obtain⟨_,o,ho,_⟩:=mem_ready.1 hi
    have:=(Array.getElem?_eq_some_iff.1 ho).1
    rw [H.size] at this
    exact this
   have hi':=(up lh listed inv hsz ag i hin).1 hi
   rw [show f+1+g=(f+g)+1 by omega]
   refine⟨fun h0=>(by rw [h0] at hi';cases hi'),fun j hj=>?_⟩
   have hjn:j<n:=by
    rcases Nat.lt_or_ge j n with c | c
    ·exact c
    ·exact absurd hj (tail_waits hs hc H.lt inv _ i rfl hin (mem_ready.1 hi').1 j c)
   refine wpOp_head H hjn (fun a' w' hK=>ih (lh.setIfInBounds j true) (listed.setIfInBounds j true) a' w' (inv.set hj hjn) (by simp [hsz]) (fun k hk=>?_) hK) (h.2 j ((up lh listed inv hsz ag j hjn).2 hj))
   by_cases hjk:j=k
   ·subst hjk
    have:=H.lt
    simp [hsz,hk,inv.size,show j<ops.size by omega]
   ·rw [Go.getD_set_ne true hjk,Go.getD_set_ne true hjk]
    exact ag k hk
def tailA (l:List Oper) (n:Nat):Bool:=decide (n<l.length)&&Region.sinkB .any l.toArray n&&Region.chainB .any l.toArray n&&lowB l n&&Region.seqB .any l.toArray (l.length-n) n (List.replicate n true++List.replicate (l.length-n) false).toArray
theorem held_tail {id:Nat} {Q:Exit->Act->World->Prop} {a:Act} {w:World} {l:List Oper} (n:Nat) (S:World->Prop) (hm:P.follows .mixedOrders=true) (hB:tailA l n=true) (hS:S w.drew)
  (h:S w.drew->wpAnyH P .any (l.take n).toArray (HeadQ (fun a' w'=>wpList P l.toArray Q (l.drop n) a' w') Q) S n (Array.replicate n false) a w.drew):(Code.region id l.toArray true).wp P Q a w:=by
 simp only [tailA,Bool.and_eq_true,decide_eq_true_eq] at hB
 obtain⟨⟨⟨⟨hn,hs⟩,hc⟩,hlow⟩,hseq⟩:=hB
 have H:=heads_of hn hlow
 have q:=wpAny_of_held _ _ _ _ (h hS)
 refine wp_region_any hm ?_
 have:=head_splitA (P:=P) (Q:=Q) (g:=l.length-n) H hs hc (fun listed a' w' inv full hq=>by
  have e:listed=(List.replicate n true++List.replicate (l.length-n) false).toArray:=by
   have sz:=inv.size
   refine Array.ext (by simp [sz];omega) fun i h1 h2=>?_
   have hi:i<l.length:=by rw [sz] at h1;simpa using h1
   rcases Nat.lt_or_ge i n with c | c
   ·have:=full i c
    simp [h1] at this
    simp [this,c]
   ·have:=inv.tail i c (by simpa using hi)
    simp [h1] at this
    rw [this]
    simp [c]
  have s:=wpAny_of_seq (P:=P) (md:=.any) (Q':=Q) (l.drop n) n listed a' w' (fun j=>by simp [List.getElem?_drop]) (by rw [e,List.length_drop];exact hseq) hq
  rwa [List.length_drop] at s) n (Array.replicate n false) (Array.replicate l.toArray.size false) a w.drew
  ⟨by simp,fun j oj _ hl=>(by rw [getD_replicate_false] at hl;cases hl),fun t _ ht=>getD_in (by simpa using ht) (getD_replicate_false _ _)⟩ (by simp) (fun j hj=>?_) q
 ·rw [show n+(l.length-n)=l.toArray.size by simp;omega] at this
  exact this
 ·have hj':j<l.length:=by omega
  simp [hj,hj']
end
end Go.Proofs.Ytbejmklkicoibaa
