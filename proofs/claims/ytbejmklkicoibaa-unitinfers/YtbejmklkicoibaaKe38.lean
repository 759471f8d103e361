/- orreryref14.join: a form, and another one to a power. The walks of the statements on quotients: RatMakes, RatCounts, RatPowers. A quotient as an argument: opened and shut. A dimension as an argument, opened and shut. -/
import Derived.Test.YtbejmklkicoibaaKe35
import Derived.Test.YtbejmklkicoibaaKe37
import Derived.Test.YtbejmklkicoibaaKe15
import Derived.ChangeSame
import Derived.JoinedOf
import Derived.JoinedAt
import Derived.RowKit3
import Derived.Test.YtbejmklkicoibaaKe17
import Derived.OpenShut
namespace Go.Proofs.Ytbejmklkicoibaa
open Go.ChangeShapes Go.WideShapes Go.ChangeAt Go.RowKit
def jE (a b:Nat->Int×Int) (p:Int×Int) (u:Nat):Int×Int:=if (b u).1=0 then a u else ((addV11 (a u).1 (a u).2 (mulV11 (b u).1 (b u).2 p.1 p.2).1 (mulV11 (b u).1 (b u).2 p.1 p.2).2.1).1,(addV11 (a u).1 (a u).2 (mulV11 (b u).1 (b u).2 p.1 p.2).1 (mulV11 (b u).1 (b u).2 p.1 p.2).2.1).2.1)
def jB (a b:Nat->Int×Int) (p:Int×Int) (u:Nat):Bool:=(b u).1==0 || ((mulV11 (b u).1 (b u).2 p.1 p.2).2.2==0&&(addV11 (a u).1 (a u).2 (mulV11 (b u).1 (b u).2 p.1 p.2).1 (mulV11 (b u).1 (b u).2 p.1 p.2).2.1).2.2==0)
structure JSt (w:World) (n ob:Nat) (AA AB:Option Addr) (CA CB:Nat) (A B E1:Nat->Int×Int) (p:Int×Int) (v:Value) (L:List (Int×Int)) (W:World):Prop where
 xa:BlkAt W w.heap.size 58 (fmL (.slice AA n CA) A)
 xb:BlkAt W (w.heap.size+1) 58 (fmL (.slice AB n CB) B)
 xp:BlkAt W (w.heap.size+1+1) 27 [.int .i64 p.1,.int .i64 p.2]
 rb:BlkAt W (w.heap.size+1+1+1) 58 [.slice none 0 0,.int .i64 0,.int .i64 0,.int .i64 0,.int .i64 0,.int .i64 0,.int .i64 0,.int .i64 0,.int .i64 0,.int .i64 0,.int .i64 0,.int .i64 0,.int .i64 0,.int .i64 0,.int .i64 0]
 xo:BlkAt W ob 58 (fmL v E1)
 ow:OwnRt (ob+1) W v L
 hb:Below w.heap.size w W
 lo:w.heap.size+1+1+1<ob
section
variable {w:World} {n ob:Nat} {AA AB:Option Addr} {CA CB:Nat} {A B E1:Nat->Int×Int} {p:Int×Int} {v:Value} {L:List (Int×Int)} {W:World}
theorem JSt.keep {W':World} (h:JSt w n ob AA AB CA CB A B E1 p v L W) (k:Below W.heap.size W W'):JSt w n ob AA AB CA CB A B E1 p v L W' :=
 ⟨h.xa.keeps k,h.xb.keeps k,h.xp.keeps k,h.rb.keeps k,h.xo.keeps k,h.ow.keep k,later h.hb k,h.lo⟩
theorem JSt.grown {W':World} {v':Value} {e:Int×Int} (h:JSt w n ob AA AB CA CB A B E1 p v L W) (I8:OwnRt (ob+1) W' v' (L++[e])) (hb8:Below (ob+1) W W') :
  JSt w n ob AA AB CA CB A B E1 p v' (L++[e]) (W'.setCell ⟨ob,0,none⟩ v'):=by
 have lo:=h.lo
 have hob:=h.xo.lt
 have xo8:=h.xo.keep hb8 (Nat.lt_succ_self ob)
 have hB:Below w.heap.size w W':=h.hb.trans (hb8.mono (by omega))
 refine⟨(h.xa.keep hb8 (by omega)).offCell (by omega) 0 _,(h.xb.keep hb8 (by omega)).offCell (by omega) 0 _,(h.xp.keep hb8 (by omega)).offCell (by omega) 0 _,(h.rb.keep hb8 (by omega)).offCell (by omega) 0 _,xo8.setCell 0 v',I8.off xo8 (by decide) (fun k Tk ck hne q=>q.offCell hne 0 _),Below.setCell hB (by show w.heap.size<=ob;omega) _,h.lo⟩
end
def PjAns (r:Ending) (w:World) (n:Nat):Option Pro->Prop
 | some Y=>∃A C,r=.returned (.tuple #[fmV (.slice A n C) Y.1,.bool true])/\RtAt w A n (fun u=>coF (u:Int) Y.2)
 | none=>∃A C E,r=.returned (.tuple #[fmV (.slice A n C) E,.bool false])
def jD (A B:Nat->Int×Int) (p:Int×Int):Nat->Int×Int:=if tmF A B p.1 p.2 7=0 then tmD A B p.1 p.2 7 else zeE
theorem tmV_jD {A B:Nat->Int×Int} {p:Int×Int} (hA:drK A 7=true) (hB:drK B 7=true) (hp:rightR p.1 p.2=true):tmV A B p.1 p.2=.tuple #[dimV (jD A B p),.int .i64 (tmF A B p.1 p.2 7)]:=by
 unfold tmV triedV jD
 rw [hA,hB,hp,Bool.and_self,Bool.and_self,if_pos rfl]
 by_cases z:tmF A B p.1 p.2 7=0
 ·rw [if_pos z,if_pos z,z]
 ·rw [if_neg z,if_neg z]
theorem join_ans {V:Int} {G:Nat->Bool} {n:Nat} {a b:Pro} {p:Int×Int} (ha:POk V a) (hb:POk V b) (hg:FG G b.2) (hp:ROk p) (hn:V=(n:Int)) {r:Ending} {W:World} {A:Option Addr} {C:Nat}
  (hr:r=.returned (.tuple #[fmV (.slice A n C) (jD a.1 b.1 p),.bool (tmF a.1 b.1 p.1 p.2 7==0&&(List.range n).all (jB (fun u=>coF (u:Int) a.2) (fun u=>coF (u:Int) b.2) p))])) (hR:RtAt W A n (jE (fun u=>coF (u:Int) a.2) (fun u=>coF (u:Int) b.2) p)):PjAns r W n (timesP a b p):=by
 have stepIs:∀u:Nat,(coF (u:Int) b.2).1≠0->(jB (fun u=>coF (u:Int) a.2) (fun u=>coF (u:Int) b.2) p u=true↔stepD p (coF (u:Int) a.2) (coF (u:Int) b.2)≠none)/\(∀m,stepD p (coF (u:Int) a.2) (coF (u:Int) b.2)=some m->jE (fun u=>coF (u:Int) a.2) (fun u=>coF (u:Int) b.2) p u=m):=fun u hu=>by
  unfold jB jE stepD
  dsimp only
  rw [if_neg hu,beq_eq_false_iff_ne.2 hu,Bool.false_or]
  rcases mulO_cases (coF_ok hb.f) hp with ⟨m,hm,hm2⟩ | ⟨hm,hm2⟩
  ·rw [hm,hm2]
   simp only [Option.bind_some]
   obtain⟨rm, -⟩:=mulO_some (coF_ok hb.f) hp hm
   rcases addO_cases (coF_ok ha.f) rm with ⟨k,hk,hk2⟩ | ⟨hk,hk2⟩
   ·rw [hk,hk2]
    exact⟨⟨fun _ h=>(by cases h),fun _=>rfl⟩,fun x hx=>Option.some.inj hx⟩
   ·rw [hk,hk2]
    exact⟨⟨fun h=>(by cases h),fun h=>absurd rfl h⟩,fun x hx=>(by cases hx)⟩
  ·rw [hm,hm2]
   exact⟨⟨fun h=>(by cases h),fun h=>absurd rfl h⟩,fun x hx=>(by cases hx)⟩
 cases hT:timesP a b p with
 | none =>
  have hf:(tmF a.1 b.1 p.1 p.2 7==0&&(List.range n).all (jB (fun u=>coF (u:Int) a.2) (fun u=>coF (u:Int) b.2) p))=false:=by
   rcases join_none hb hg hp hT with z | ⟨u,hu,h1,h2⟩
   ·rw [beq_eq_false_iff_ne.2 z,Bool.false_and]
   ·have q:jB (fun u=>coF (u:Int) a.2) (fun u=>coF (u:Int) b.2) p u=false:=by
     cases hj:jB (fun u=>coF (u:Int) a.2) (fun u=>coF (u:Int) b.2) p u with
     | false=>rfl
     | true=>exact absurd h2 ((stepIs u h1).1.1 hj)
    rw [all_not2 (i:=u) (by omega) q,Bool.and_false]
  rw [hf] at hr
  exact⟨A,C,_,hr⟩
 | some Y =>
  obtain⟨z,hY,hu⟩:=join_some ha hb hp hT
  have ht:(List.range n).all (jB (fun u=>coF (u:Int) a.2) (fun u=>coF (u:Int) b.2) p)=true:=all_upto2.2 fun u _=>by
   by_cases c:(coF (u:Int) b.2).1=0
   ·unfold jB;dsimp only;rw [c];rfl
   ·exact (stepIs u c).1.2 (by rw [(hu u).2 c];exact fun h=>by cases h)
  rw [z,ht] at hr
  refine⟨A,C, ?_,hR.congr fun u _=>?_⟩
  ·rw [hr,hY]
   unfold jD
   rw [if_pos z]
   rfl
  ·by_cases c:(coF (u:Int) b.2).1=0
   ·unfold jE;dsimp only;rw [if_pos c,(hu u).1 c]
   ·exact (stepIs u c).2 _ ((hu u).2 c)
theorem cellsRat:Try.prog.cellsOf 27=2:=by kernel_rfl
theorem cellsI64r:Try.prog.cellsOf 2=1:=by kernel_rfl
theorem i64_wfI {n:Int} (h:(Lit.int .i64 n).wf=true):I64 n:=by
 have h:IntKind.i64.min<=n/\n<=IntKind.i64.max:=by simpa [Lit.wf] using h
 have e1:IntKind.i64.min=-9223372036854775808:=by decide
 have e2:IntKind.i64.max=9223372036854775807:=by decide
 exact⟨by omega,by omega⟩
theorem trod_i64 {H:Type} {enc:TypeId×Value->H} {W:World} {base:Nat} {sp:Nat->Bool} {held:Bool} {m:Nat} {c:Value} {y:DataW H×List MemPlace} (h:DataW.trod enc Try.prog W base sp held m 2 [c]=some y) :
  ∃n,c=.int .i64 n/\y=(.lit (.int .i64 n),[])/\(Lit.int .i64 n).wf=true:=by
 have ht:=Try.underlying2
 cases m with
 | zero=>simp [DataW.trod] at h
 | succ n =>
  cases c <;> simp [DataW.trod,ht] at h
  rename_i k b
  obtain⟨⟨rfl,h1⟩,h2⟩:=h
  exact⟨b,rfl,h2.symm,h1⟩
theorem cellsDim:Try.prog.cellsOf 30=14:=by kernel_rfl
theorem cellsArr:Try.prog.cellsOf 28=14:=by kernel_rfl
def dimD {H:Type} (E:Nat->Int×Int):DataW H:=.agg [.agg [.agg [.lit (.int .i64 (E 0).1),.lit (.int .i64 (E 0).2)],.agg [.lit (.int .i64 (E 1).1),.lit (.int .i64 (E 1).2)],.agg [.lit (.int .i64 (E 2).1),.lit (.int .i64 (E 2).2)],.agg [.lit (.int .i64 (E 3).1),.lit (.int .i64 (E 3).2)],.agg [.lit (.int .i64 (E 4).1),.lit (.int .i64 (E 4).2)],.agg [.lit (.int .i64 (E 5).1),.lit (.int .i64 (E 5).2)],.agg [.lit (.int .i64 (E 6).1),.lit (.int .i64 (E 6).2)]]]
def DimWf (E:Nat->Int×Int):Prop:=∀i,i<7->(Lit.int .i64 (E i).1).wf=true/\(Lit.int .i64 (E i).2).wf=true
theorem DimWf.out {E:Nat->Int×Int} (h:DimWf E):Dim64 E:=fun i hi=>⟨i64_wfI (h i hi).1,i64_wfI (h i hi).2⟩
theorem trod_rat {H:Type} {enc:TypeId×Value->H} {W:World} {base:Nat} {sp:Nat->Bool} {held:Bool} {fuel:Nat} {c0 c1:Value} {x:DataW H×List MemPlace} (h:DataW.trod enc Try.prog W base sp held fuel 27 [c0,c1]=some x) :
  ∃n m:Int,c0=.int .i64 n/\c1=.int .i64 m/\x=(.agg [.lit (.int .i64 n),.lit (.int .i64 m)],[])/\(Lit.int .i64 n).wf=true/\(Lit.int .i64 m).wf=true:=by
 obtain⟨y0,y1,m,hx,_,hy0,hy1⟩:=trod_struct2 Try.underlying27 h
 simp only [cellsI64r] at hy0 hy1
 obtain⟨lo,rfl,rfl,w0⟩:=trod_i64 hy0
 obtain⟨hi,rfl,rfl,w1⟩:=trod_i64 hy1
 exact⟨lo,hi,rfl,rfl,hx,w0,w1⟩
def sevE (p0 p1 p2 p3 p4 p5 p6:Int×Int):Nat->Int×Int
 | 0=>p0 | 1=>p1 | 2=>p2 | 3=>p3 | 4=>p4 | 5=>p5 | _=>p6
set_option maxRecDepth 100000 in
set_option maxHeartbeats 1000000 in
theorem open_dim {H:Type} {enc:TypeId×Value->H} {W:World} {base:Nat} {sp:Nat->Bool} {held:Bool} {r:Reach} {b0:Nat} {v:Value} {d:DataW H} {ps:List MemPlace} (hval:Value.okWide Try.prog W r b0 30 v)
  (hd:DataW.Trod enc Try.prog W base sp held 30 v d ps):∃E:Nat->Int×Int,v=dimV E/\d=dimD E/\ps=[]/\DimWf E:=by
 obtain⟨cs,rfl,hsz⟩:=okWide_struct Try.underlying30 hval
 rw [cellsDim] at hsz
 obtain⟨l⟩:=cs
 match l,hsz with
 | [c0,c1,c2,c3,c4,c5,c6,c7,c8,c9,c10,c11,c12,c13],_ =>
 obtain⟨fuel,hf⟩:=hd
 obtain⟨ys,fu, -,hd, -,hyl,hy⟩:=DataW.trod_struct Try.underlying30 hf
 match ys,hyl with
 | [y],_ =>
 have h1:=hy 0 _ rfl
 simp [cellsArr,Value.cells] at h1
 simp only [Prod.mk.injEq] at hd
 obtain⟨rfl,rfl⟩:=hd
 obtain⟨xs,m, -,hx, -,hl,hel⟩:=DataW.trod_array Try.underlying28 h1
 match xs,hl with
 | [x0,x1,x2,x3,x4,x5,x6],_ =>
 have g0:=hel 0 (by decide)
 have g1:=hel 1 (by decide)
 have g2:=hel 2 (by decide)
 have g3:=hel 3 (by decide)
 have g4:=hel 4 (by decide)
 have g5:=hel 5 (by decide)
 have g6:=hel 6 (by decide)
 simp [cellsRat] at g0 g1 g2 g3 g4 g5 g6
 obtain⟨n0,m0,rfl,rfl,rfl,w0,v0⟩:=trod_rat g0
 obtain⟨n1,m1,rfl,rfl,rfl,w1,v1⟩:=trod_rat g1
 obtain⟨n2,m2,rfl,rfl,rfl,w2,v2⟩:=trod_rat g2
 obtain⟨n3,m3,rfl,rfl,rfl,w3,v3⟩:=trod_rat g3
 obtain⟨n4,m4,rfl,rfl,rfl,w4,v4⟩:=trod_rat g4
 obtain⟨n5,m5,rfl,rfl,rfl,w5,v5⟩:=trod_rat g5
 obtain⟨n6,m6,rfl,rfl,rfl,w6,v6⟩:=trod_rat g6
 subst hx
 refine⟨sevE (n0,m0) (n1,m1) (n2,m2) (n3,m3) (n4,m4) (n5,m5) (n6,m6),rfl,rfl,rfl,fun i hi=>?_⟩
 match i,hi with
 | 0,_=>exact⟨w0,v0⟩
 | 1,_=>exact⟨w1,v1⟩
 | 2,_=>exact⟨w2,v2⟩
 | 3,_=>exact⟨w3,v3⟩
 | 4,_=>exact⟨w4,v4⟩
 | 5,_=>exact⟨w5,v5⟩
 | 6,_=>exact⟨w6,v6⟩
theorem trod_rat_mk {H:Type} {enc:TypeId×Value->H} {W:World} {base:Nat} {sp:Nat->Bool} {held:Bool} {n m:Int} (hl:(Lit.int .i64 n).wf=true) (hh:(Lit.int .i64 m).wf=true) :
  DataW.trod enc Try.prog W base sp held 2 27 [.int .i64 n,.int .i64 m]=some (.agg [.lit (.int .i64 n),.lit (.int .i64 m)],[]):=by
 have f0:DataW.trod enc Try.prog W base sp held 1 2 [.int .i64 n]=some (.lit (.int .i64 n),[]):=by simp [DataW.trod,Try.underlying2,hl]
 have f1:DataW.trod enc Try.prog W base sp held 1 2 [.int .i64 m]=some (.lit (.int .i64 m),[]):=by simp [DataW.trod,Try.underlying2,hh]
 have:=trod_struct2_mk (enc:=enc) (w:=W) (base:=base) (spare:=sp) (held:=held) (n:=1) (cs:=[.int .i64 n,.int .i64 m]) Try.underlying27 (by simp [cellsRat]) (by simpa [cellsI64r] using f0) (by simpa [cellsI64r] using f1)
 simpa using this
set_option maxRecDepth 100000 in
set_option maxHeartbeats 1000000 in
theorem shut_dim {H:Type} {enc:TypeId×Value->H} {W:World} {sp:Nat->Bool} {held:Bool} {base:Nat} {E:Nat->Int×Int} (hE:DimWf E) :
  DataW.Trod enc Try.prog W base sp held 30 (dimV E) (dimD E) []:=⟨4,by
 have g:=fun i hi=>trod_rat_mk (enc:=enc) (W:=W) (base:=base) (sp:=sp) (held:=held) (hE i hi).1 (hE i hi).2
 have g0:=g 0 (by decide)
 have g1:=g 1 (by decide)
 have g2:=g 2 (by decide)
 have g3:=g 3 (by decide)
 have g4:=g 4 (by decide)
 have g5:=g 5 (by decide)
 have g6:=g 6 (by decide)
 have ha:DataW.trod enc Try.prog W base sp held 3 28 [.int .i64 (E 0).1,.int .i64 (E 0).2,.int .i64 (E 1).1,.int .i64 (E 1).2,.int .i64 (E 2).1,.int .i64 (E 2).2,.int .i64 (E 3).1,.int .i64 (E 3).2,.int .i64 (E 4).1,.int .i64 (E 4).2,.int .i64 (E 5).1,.int .i64 (E 5).2,.int .i64 (E 6).1,.int .i64 (E 6).2]=some (.agg [.agg [.lit (.int .i64 (E 0).1),.lit (.int .i64 (E 0).2)],.agg [.lit (.int .i64 (E 1).1),.lit (.int .i64 (E 1).2)],.agg [.lit (.int .i64 (E 2).1),.lit (.int .i64 (E 2).2)],.agg [.lit (.int .i64 (E 3).1),.lit (.int .i64 (E 3).2)],.agg [.lit (.int .i64 (E 4).1),.lit (.int .i64 (E 4).2)],.agg [.lit (.int .i64 (E 5).1),.lit (.int .i64 (E 5).2)],.agg [.lit (.int .i64 (E 6).1),.lit (.int .i64 (E 6).2)]],[]):=by
  unfold DataW.trod
  rw [Try.underlying28]
  have r7:List.range 7=[0,1,2,3,4,5,6]:=rfl
  simp [cellsArr,cellsRat,r7,g0,g1,g2,g3,g4,g5,g6]
 unfold DataW.trod
 rw [Try.underlying30]
 simp [cellsDim,cellsArr,Value.cells,dimV,ha,dimD]⟩
end Go.Proofs.Ytbejmklkicoibaa
