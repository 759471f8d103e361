/- A tape as an argument: opened. Nodes, dimensions and truth values in slices, as arguments: opened. -/
import Derived.Deep.Slices
import Derived.WideKeyArgs
import Derived.Test.YtbejmklkicoibaaKe19
import Derived.Test.YtbejmklkicoibaaKe02
import Derived.ChangeSame
import Derived.JoinedOf
import Derived.JoinedAt
import Derived.RowKit3
import Derived.Test.YtbejmklkicoibaaKe38
import Derived.Test.YtbejmklkicoibaaKe32
namespace Go.Proofs.Ytbejmklkicoibaa
open Go.ChangeShapes Go.WideShapes Go.ChangeAt Go.RowKit Go.Deep
theorem Try.laidT:laidOutB Try.prog=true:=by kernel_rfl
theorem cellsInt:Try.prog.cellsOf 3=1:=by kernel_rfl
theorem addr_addT (b o j:Nat):(⟨b,o,none⟩:Addr).add j=⟨b,o+j,none⟩:=by
 first
  | rfl
  | (unfold Addr.add;rfl)
  | simp [Addr.add]
  | (unfold Addr.add;split <;> simp_all)
theorem open_ins {H:Type} {enc:TypeId×Value->H} {W:World} {fuel:Nat} {cs:List Value} {x:DataW H×List MemPlace} (h:DataW.trod enc Try.prog W 0 (fun _=>true) true fuel 23 cs=some x) :
  ∃A n C Y,cs=[.slice A n C]/\n<=9223372036854775807/\Ins W A n Y:=by
 rcases open_slice1 Try.underlying23 cellsInt h with ⟨e, -⟩ | ⟨a,len,cap,m,f,V,D,Pl,e, -,hl,hm,hmm, -,hc⟩
 ·exact⟨none,0,0,fun _=>0,e,by omega,fun i hi=>absurd hi (by omega)⟩
 ·simp only [if_true] at hmm
  subst hmm
  obtain⟨Y,hY⟩:=Classical.axiomOfChoice (fun i=>(show ∃p:Int,i<len->W.cell? (a.add i)=some (.int .i64 p) by
   by_cases hi:i<len
   ·obtain⟨c0,t0⟩:=hc i (by omega)
    obtain⟨p,e0, -⟩:=DataW.trod_int Try.underlying3 t0
    simp only [List.cons.injEq,and_true] at e0
    rw [e0] at c0
    exact⟨p,fun _=>c0⟩
   ·exact⟨0,fun q=>absurd q hi⟩))
  refine⟨some a,len,_,Y,e,by unfold maxLen at hm;omega,fun i hi=>?_⟩
  have c0:=hY i hi
  obtain⟨b,o,sp⟩:=a
  have hs:sp=none:=by
   have q:=World.cell?_spot (hY 0 (by omega))
   simpa [Addr.add] using q
  subst hs
  rw [addr_addT] at c0
  exact⟨b,o,rfl,World.block_lt_of_cell? _ _ c0,c0⟩
theorem cellsNode:Try.prog.cellsOf 54=22:=by kernel_rfl
theorem cellsKey:Try.prog.cellsOf 52=2:=by kernel_rfl
theorem cellsBoolU:Try.prog.cellsOf 4=1:=by kernel_rfl
set_option maxRecDepth 100000 in
set_option maxHeartbeats 1000000 in
theorem trod_dimC {H:Type} {enc:TypeId×Value->H} {W:World} {base:Nat} {sp:Nat->Bool} {held:Bool} {fuel:Nat} {cs:List Value} {x:DataW H×List MemPlace} (h:DataW.trod enc Try.prog W base sp held fuel 30 cs=some x) :
  ∃E:Nat->Int×Int,cs=dimL E/\DimWf E:=by
 obtain⟨ys,fu, -, -,hsz,hyl,hy⟩:=DataW.trod_struct Try.underlying30 h
 rw [cellsDim] at hsz
 match cs,hsz with
 | [c0,c1,c2,c3,c4,c5,c6,c7,c8,c9,c10,c11,c12,c13],_ =>
 match ys,hyl with
 | [y],_ =>
 have h1:=hy 0 _ rfl
 simp [cellsArr] at h1
 obtain⟨xs,m, -,hx, -,hl,hel⟩:=DataW.trod_array Try.underlying28 h1
 match xs,hl with
 | [x0,x1,x2,x3,x4,x5,x6],_ =>
 have g0:=hel 0 (by decide)
 have g1:=hel 1 (by decide)
 have g2:=hel 2 (by decide)
 have g3:=hel 3 (by decide)
 have g4:=hel 4 (by decide)
 have g5:=hel 5 (by decide)
 have g6:=hel 6 (by decide)
 simp [cellsRat] at g0 g1 g2 g3 g4 g5 g6
 obtain⟨n0,m0,rfl,rfl,rfl,w0,v0⟩:=trod_rat g0
 obtain⟨n1,m1,rfl,rfl,rfl,w1,v1⟩:=trod_rat g1
 obtain⟨n2,m2,rfl,rfl,rfl,w2,v2⟩:=trod_rat g2
 obtain⟨n3,m3,rfl,rfl,rfl,w3,v3⟩:=trod_rat g3
 obtain⟨n4,m4,rfl,rfl,rfl,w4,v4⟩:=trod_rat g4
 obtain⟨n5,m5,rfl,rfl,rfl,w5,v5⟩:=trod_rat g5
 obtain⟨n6,m6,rfl,rfl,rfl,w6,v6⟩:=trod_rat g6
 refine⟨sevE (n0,m0) (n1,m1) (n2,m2) (n3,m3) (n4,m4) (n5,m5) (n6,m6),rfl,fun i hi=>?_⟩
 match i,hi with
 | 0,_=>exact⟨w0,v0⟩
 | 1,_=>exact⟨w1,v1⟩
 | 2,_=>exact⟨w2,v2⟩
 | 3,_=>exact⟨w3,v3⟩
 | 4,_=>exact⟨w4,v4⟩
 | 5,_=>exact⟨w5,v5⟩
 | 6,_=>exact⟨w6,v6⟩
set_option maxRecDepth 100000 in
set_option maxHeartbeats 1000000 in
theorem open_node {H:Type} {enc:TypeId×Value->H} {W:World} {fuel:Nat} {cs:List Value} {x:DataW H×List MemPlace} (h:DataW.trod enc Try.prog W 0 (fun _=>true) true fuel 54 cs=some x) :
  ∃o:Nd,cs=ndL o/\o.Ok:=by
 obtain⟨xs,k, -, -,hl,hx,hf⟩:=DataW.trod_struct Try.underlying54 h
 rw [cellsNode] at hl
 match xs,hx,cs,hl with
 | [z0,z1,z2,z3,z4,z5,z6],_,[c0,c1,c2,c3,c4,c5,c6,c7,c8,c9,c10,c11,c12,c13,c14,c15,c16,c17,c18,c19,c20,c21],_ =>
 have g0:=hf 0 _ rfl
 have g1:=hf 1 _ rfl
 have g2:=hf 2 _ rfl
 have g3:=hf 3 _ rfl
 have g4:=hf 4 _ rfl
 have g5:=hf 5 _ rfl
 have g6:=hf 6 _ rfl
 simp [cellsInt] at g0 g1 g2 g3
 simp [cellsRat] at g4
 simp [cellsKey] at g5
 simp [cellsDim] at g6
 obtain⟨p0,e0, -,w0⟩:=DataW.trod_int Try.underlying3 g0
 obtain⟨p1,e1, -,w1⟩:=DataW.trod_int Try.underlying3 g1
 obtain⟨p2,e2, -,w2⟩:=DataW.trod_int Try.underlying3 g2
 obtain⟨p3,e3, -,w3⟩:=DataW.trod_int Try.underlying3 g3
 obtain⟨q,p,rfl,rfl, -,w4,w5⟩:=trod_rat g4
 obtain⟨y0,y1,n, -, -,h0,h1⟩:=trod_struct2 Try.underlying52 g5
 simp [cellsInt] at h0 h1
 obtain⟨v,e6, -,w6⟩:=DataW.trod_int Try.underlying3 h0
 obtain⟨d,e7, -,w7⟩:=DataW.trod_int Try.underlying3 h1
 obtain⟨E,eE,wE⟩:=trod_dimC g6
 simp only [List.cons.injEq,and_true] at e0 e1 e2 e3 e6 e7
 subst e0 e1 e2 e3 e6 e7
 refine⟨⟨p0,p1,p2,p3,q,p,v,d,E⟩, ?_,⟨i64_wfI w0,i64_wfI w1,i64_wfI w2,i64_wfI w3,i64_wfI w4,i64_wfI w5,i64_wfI w6,i64_wfI w7,wE.out⟩⟩
 exact congrArg (fun L=>[.int .i64 p0,.int .i64 p1,.int .i64 p2,.int .i64 p3,.int .i64 q,.int .i64 p,.int .i64 v,.int .i64 d]++L) eE
theorem nd0_ok:(⟨0,0,0,0,0,0,0,0,plE⟩:Nd).Ok:=by
 have h:I64 0:=⟨by decide,by decide⟩
 exact⟨h,h,h,h,h,h,h,h,plE_ok.1⟩
theorem open_nodes {H:Type} {enc:TypeId×Value->H} {W:World} {fuel:Nat} {cs:List Value} {x:DataW H×List MemPlace} (h:DataW.trod enc Try.prog W 0 (fun _=>true) true fuel 22 cs=some x) :
  ∃A n C X,cs=[.slice A n C]/\n<=9223372036854775807/\Nds W A n X/\∀i,(X i).Ok:=by
 rcases open_slice Try.underlying22 h with ⟨e, -⟩ | ⟨a,len,cap,m,f,D,Pl,e, -,hl,hm,hmm, -,hc⟩
 ·exact⟨none,0,0,fun _=>⟨0,0,0,0,0,0,0,0,plE⟩,e,by omega,fun i hi=>absurd hi (by omega),fun _=>nd0_ok⟩
 ·simp only [if_true] at hmm
  subst hmm
  obtain⟨X,hX⟩:=Classical.axiomOfChoice (fun i=>(show ∃o:Nd,(i<len->∀j c,(ndL o)[j]?=some c->W.cell? (a.add (i*22+j))=some c)/\o.Ok by
   by_cases hi:i<len
   ·obtain⟨cs',q1,q2⟩:=hc i (by omega)
    rw [cellsNode] at q1
    obtain⟨o,rfl,ok⟩:=open_node q2
    obtain⟨_,hlen,hcell⟩:=World.cells?_some q1
    refine⟨o,fun _ j c hj=>?_,ok⟩
    have e0:=hcell j (by have:=(List.getElem?_eq_some_iff.1 hj).1;exact this)
    rw [add_add] at e0
    rw [e0]
    exact hj
   ·exact⟨⟨0,0,0,0,0,0,0,0,plE⟩,fun q=>absurd q hi,nd0_ok⟩))
  refine⟨some a,len,_,X,e,by unfold maxLen at hm;omega,fun i hi=>?_,fun i=>(hX i).2⟩
  have hx:=(hX i).1 hi
  obtain⟨b,o,sp⟩:=a
  have hs:sp=none:=by
   have q:=World.cell?_spot ((hX 0).1 (by omega) 0 _ rfl)
   simpa [Addr.add] using q
  subst hs
  have q0:=hx 0 _ rfl
  rw [addr_addT] at q0
  exact⟨b,o,rfl,World.block_lt_of_cell? _ _ q0,fun j c hj=>by have q:=hx j c hj;rw [addr_addT,<-Nat.add_assoc] at q;exact q⟩
theorem open_dims {H:Type} {enc:TypeId×Value->H} {W:World} {fuel:Nat} {cs:List Value} {x:DataW H×List MemPlace} (h:DataW.trod enc Try.prog W 0 (fun _=>true) true fuel 24 cs=some x) :
  ∃A n C D,cs=[.slice A n C]/\n<=9223372036854775807/\Dms W A n D/\∀i,Dim64 (D i):=by
 rcases open_slice Try.underlying24 h with ⟨e, -⟩ | ⟨a,len,cap,m,f,D,Pl,e, -,hl,hm,hmm, -,hc⟩
 ·exact⟨none,0,0,fun _=>plE,e,by omega,fun i hi=>absurd hi (by omega),fun _=>plE_ok.1⟩
 ·simp only [if_true] at hmm
  subst hmm
  obtain⟨X,hX⟩:=Classical.axiomOfChoice (fun i=>(show ∃o:Nat->Int×Int,(i<len->∀j c,(dimL o)[j]?=some c->W.cell? (a.add (i*14+j))=some c)/\Dim64 o by
   by_cases hi:i<len
   ·obtain⟨cs',q1,q2⟩:=hc i (by omega)
    rw [cellsDim] at q1
    obtain⟨o,rfl,ok⟩:=trod_dimC q2
    obtain⟨_,hlen,hcell⟩:=World.cells?_some q1
    refine⟨o,fun _ j c hj=>?_,ok.out⟩
    have e0:=hcell j (by have:=(List.getElem?_eq_some_iff.1 hj).1;exact this)
    rw [add_add] at e0
    rw [e0]
    exact hj
   ·exact⟨plE,fun q=>absurd q hi,plE_ok.1⟩))
  refine⟨some a,len,_,X,e,by unfold maxLen at hm;omega,fun i hi=>?_,fun i=>(hX i).2⟩
  have hx:=(hX i).1 hi
  obtain⟨b,o,sp⟩:=a
  have hs:sp=none:=by
   have q:=World.cell?_spot ((hX 0).1 (by omega) 0 _ rfl)
   simpa [Addr.add] using q
  subst hs
  have q0:=hx 0 _ rfl
  rw [addr_addT] at q0
  exact⟨b,o,rfl,World.block_lt_of_cell? _ _ q0,fun j c hj=>by have q:=hx j c hj;rw [addr_addT,<-Nat.add_assoc] at q;exact q⟩
theorem open_bls {H:Type} {enc:TypeId×Value->H} {W:World} {fuel:Nat} {cs:List Value} {x:DataW H×List MemPlace} (h:DataW.trod enc Try.prog W 0 (fun _=>true) true fuel 25 cs=some x) :
  ∃A n C G,cs=[.slice A n C]/\n<=9223372036854775807/\Bls W A n G:=by
 rcases open_slice1 Try.underlying25 cellsBoolU h with ⟨e, -⟩ | ⟨a,len,cap,m,f,V,D,Pl,e, -,hl,hm,hmm, -,hc⟩
 ·exact⟨none,0,0,fun _=>false,e,by omega,fun i hi=>absurd hi (by omega)⟩
 ·simp only [if_true] at hmm
  subst hmm
  obtain⟨Y,hY⟩:=Classical.axiomOfChoice (fun i=>(show ∃p:Bool,i<len->W.cell? (a.add i)=some (.bool p) by
   by_cases hi:i<len
   ·obtain⟨c0,t0⟩:=hc i (by omega)
    obtain⟨p,e0, -⟩:=DataW.trod_bool Try.underlying4 t0
    simp only [List.cons.injEq,and_true] at e0
    rw [e0] at c0
    exact⟨p,fun _=>c0⟩
   ·exact⟨false,fun q=>absurd q hi⟩))
  refine⟨some a,len,_,Y,e,by unfold maxLen at hm;omega,fun i hi=>?_⟩
  have c0:=hY i hi
  obtain⟨b,o,sp⟩:=a
  have hs:sp=none:=by
   have q:=World.cell?_spot (hY 0 (by omega))
   simpa [Addr.add] using q
  subst hs
  rw [addr_addT] at c0
  exact⟨b,o,rfl,World.block_lt_of_cell? _ _ c0,c0⟩
end Go.Proofs.Ytbejmklkicoibaa
