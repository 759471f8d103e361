/- A dimension as an argument, opened and shut. -/
import Derived.Test.YtdnpoacjamkhkaaJt35
import Derived.Test.YtdnpoacjamkhkaaJt37
import Derived.OpenShut
namespace Go.Proofs.Ytdnpoacjamkhkaa
open Go.ChangeShapes Go.WideShapes Go.ChangeAt Go.RowKit
theorem cellsDim:Try.prog.cellsOf 43=14:=by kernel_rfl
theorem cellsArr:Try.prog.cellsOf 41=14:=by kernel_rfl
def dimD {H:Type} (E:Nat→Int×Int):DataW H:=.agg [.agg [.agg [.lit (.int .i64 (E 0).1),.lit (.int .i64 (E 0).2)],.agg [.lit (.int .i64 (E 1).1),.lit (.int .i64 (E 1).2)],.agg [.lit (.int .i64 (E 2).1),.lit (.int .i64 (E 2).2)],.agg [.lit (.int .i64 (E 3).1),.lit (.int .i64 (E 3).2)],.agg [.lit (.int .i64 (E 4).1),.lit (.int .i64 (E 4).2)],.agg [.lit (.int .i64 (E 5).1),.lit (.int .i64 (E 5).2)],.agg [.lit (.int .i64 (E 6).1),.lit (.int .i64 (E 6).2)]]]
def DimWf (E:Nat→Int×Int):Prop:=∀i,i<7→(Lit.int .i64 (E i).1).wf=true∧(Lit.int .i64 (E i).2).wf=true
theorem DimWf.out {E:Nat→Int×Int} (h:DimWf E):Dim64 E:=fun i hi=>⟨i64_wfI (h i hi).1,i64_wfI (h i hi).2⟩
theorem trod_rat {H:Type} {enc:TypeId×Value→H} {W:World} {base:Nat} {sp:Nat→Bool} {held:Bool} {fuel:Nat} {c0 c1:Value} {x:DataW H×List MemPlace} (h:DataW.trod enc Try.prog W base sp held fuel 23 [c0,c1]=some x) :
   ∃n m:Int,c0=.int .i64 n∧c1=.int .i64 m∧x=(.agg [.lit (.int .i64 n),.lit (.int .i64 m)],[])∧(Lit.int .i64 n).wf=true∧(Lit.int .i64 m).wf=true:=by
 obtain⟨y0,y1,m,hx,_,hy0,hy1⟩:=trod_struct2 Try.underlying23 h
 simp only [cellsI64r] at hy0 hy1
 obtain⟨lo,rfl,rfl,w0⟩:=trod_i64 hy0
 obtain⟨hi,rfl,rfl,w1⟩:=trod_i64 hy1
 exact⟨lo,hi,rfl,rfl,hx,w0,w1⟩
def sevE (p0 p1 p2 p3 p4 p5 p6:Int×Int):Nat→Int×Int
 | 0=>p0 | 1=>p1 | 2=>p2 | 3=>p3 | 4=>p4 | 5=>p5 | _=>p6
set_option maxRecDepth 100000 in
set_option maxHeartbeats 1000000 in
theorem open_dim {H:Type} {enc:TypeId×Value→H} {W:World} {base:Nat} {sp:Nat→Bool} {held:Bool} {r:Reach} {b0:Nat} {v:Value} {d:DataW H} {ps:List MemPlace} (hval:Value.okWide Try.prog W r b0 43 v)
   (hd:DataW.Trod enc Try.prog W base sp held 43 v d ps):∃E:Nat→Int×Int,v=dimV E∧d=dimD E∧ps=[]∧DimWf E:=by
 obtain⟨cs,rfl,hsz⟩:=okWide_struct Try.underlying43 hval
 rw [cellsDim] at hsz
 obtain⟨l⟩:=cs
 match l,hsz with
 | [c0,c1,c2,c3,c4,c5,c6,c7,c8,c9,c10,c11,c12,c13],_ =>
 obtain⟨fuel,hf⟩:=hd
 obtain⟨ys,fu, -,hd, -,hyl,hy⟩:=DataW.trod_struct Try.underlying43 hf
 match ys,hyl with
 | [y],_ =>
 have h1:=hy 0 _ rfl
 simp [cellsArr,Value.cells] at h1
 simp only [Prod.mk.injEq] at hd
 obtain⟨rfl,rfl⟩:=hd
 obtain⟨xs,m, -,hx, -,hl,hel⟩:=DataW.trod_array Try.underlying41 h1
 match xs,hl with
 | [x0,x1,x2,x3,x4,x5,x6],_ =>
 have g0:=hel 0 (by decide)
 have g1:=hel 1 (by decide)
 have g2:=hel 2 (by decide)
 have g3:=hel 3 (by decide)
 have g4:=hel 4 (by decide)
 have g5:=hel 5 (by decide)
 have g6:=hel 6 (by decide)
 simp [cellsRat] at g0 g1 g2 g3 g4 g5 g6
 obtain⟨n0,m0,rfl,rfl,rfl,w0,v0⟩:=trod_rat g0
 obtain⟨n1,m1,rfl,rfl,rfl,w1,v1⟩:=trod_rat g1
 obtain⟨n2,m2,rfl,rfl,rfl,w2,v2⟩:=trod_rat g2
 obtain⟨n3,m3,rfl,rfl,rfl,w3,v3⟩:=trod_rat g3
 obtain⟨n4,m4,rfl,rfl,rfl,w4,v4⟩:=trod_rat g4
 obtain⟨n5,m5,rfl,rfl,rfl,w5,v5⟩:=trod_rat g5
 obtain⟨n6,m6,rfl,rfl,rfl,w6,v6⟩:=trod_rat g6
 subst hx
 refine⟨sevE (n0,m0) (n1,m1) (n2,m2) (n3,m3) (n4,m4) (n5,m5) (n6,m6),rfl,rfl,rfl,fun i hi=>?_⟩
 match i,hi with
 | 0,_=>exact⟨w0,v0⟩
 | 1,_=>exact⟨w1,v1⟩
 | 2,_=>exact⟨w2,v2⟩
 | 3,_=>exact⟨w3,v3⟩
 | 4,_=>exact⟨w4,v4⟩
 | 5,_=>exact⟨w5,v5⟩
 | 6,_=>exact⟨w6,v6⟩
theorem trod_rat_mk {H:Type} {enc:TypeId×Value→H} {W:World} {base:Nat} {sp:Nat→Bool} {held:Bool} {n m:Int} (hl:(Lit.int .i64 n).wf=true) (hh:(Lit.int .i64 m).wf=true) :
   DataW.trod enc Try.prog W base sp held 2 23 [.int .i64 n,.int .i64 m]=some (.agg [.lit (.int .i64 n),.lit (.int .i64 m)],[]):=by
 have f0:DataW.trod enc Try.prog W base sp held 1 2 [.int .i64 n]=some (.lit (.int .i64 n),[]):=by simp [DataW.trod,Try.underlying2,hl]
 have f1:DataW.trod enc Try.prog W base sp held 1 2 [.int .i64 m]=some (.lit (.int .i64 m),[]):=by simp [DataW.trod,Try.underlying2,hh]
 have:=trod_struct2_mk (enc:=enc) (w:=W) (base:=base) (spare:=sp) (held:=held) (n:=1) (cs:=[.int .i64 n,.int .i64 m]) Try.underlying23 (by simp [cellsRat]) (by simpa [cellsI64r] using f0) (by simpa [cellsI64r] using f1)
 simpa using this
set_option maxRecDepth 100000 in
set_option maxHeartbeats 1000000 in
theorem shut_dim {H:Type} {enc:TypeId×Value→H} {W:World} {sp:Nat→Bool} {held:Bool} {base:Nat} {E:Nat→Int×Int} (hE:DimWf E) :
   DataW.Trod enc Try.prog W base sp held 43 (dimV E) (dimD E) []:=⟨4,by
 have g:=fun i hi=>trod_rat_mk (enc:=enc) (W:=W) (base:=base) (sp:=sp) (held:=held) (hE i hi).1 (hE i hi).2
 have g0:=g 0 (by decide)
 have g1:=g 1 (by decide)
 have g2:=g 2 (by decide)
 have g3:=g 3 (by decide)
 have g4:=g 4 (by decide)
 have g5:=g 5 (by decide)
 have g6:=g 6 (by decide)
 have ha:DataW.trod enc Try.prog W base sp held 3 41 [.int .i64 (E 0).1,.int .i64 (E 0).2,.int .i64 (E 1).1,.int .i64 (E 1).2,.int .i64 (E 2).1,.int .i64 (E 2).2,.int .i64 (E 3).1,.int .i64 (E 3).2,.int .i64 (E 4).1,.int .i64 (E 4).2,.int .i64 (E 5).1,.int .i64 (E 5).2,.int .i64 (E 6).1,.int .i64 (E 6).2]=some (.agg [.agg [.lit (.int .i64 (E 0).1),.lit (.int .i64 (E 0).2)],.agg [.lit (.int .i64 (E 1).1),.lit (.int .i64 (E 1).2)],.agg [.lit (.int .i64 (E 2).1),.lit (.int .i64 (E 2).2)],.agg [.lit (.int .i64 (E 3).1),.lit (.int .i64 (E 3).2)],.agg [.lit (.int .i64 (E 4).1),.lit (.int .i64 (E 4).2)],.agg [.lit (.int .i64 (E 5).1),.lit (.int .i64 (E 5).2)],.agg [.lit (.int .i64 (E 6).1),.lit (.int .i64 (E 6).2)]],[]):=by
   unfold DataW.trod
   rw [Try.underlying41]
   have r7:List.range 7=[0,1,2,3,4,5,6]:=rfl
   simp [cellsArr,cellsRat,r7,g0,g1,g2,g3,g4,g5,g6]
 unfold DataW.trod
 rw [Try.underlying43]
 simp [cellsDim,cellsArr,Value.cells,dimV,ha,dimD]⟩
end Go.Proofs.Ytdnpoacjamkhkaa
