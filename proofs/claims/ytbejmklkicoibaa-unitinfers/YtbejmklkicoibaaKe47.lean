/- orreryref14's Finder.form, of any node that may be. What a Finder is begun with, and what is written into it. -/
import Derived.Test.YtbejmklkicoibaaKe46
import Derived.Test.YtbejmklkicoibaaKe34
namespace Go.Proofs.Ytbejmklkicoibaa
open Go.ChangeShapes Go.WideShapes Go.ChangeAt Go.RowKit
def formF (X:Nat->Nd) (G:Nat->Bool) (D:Nat->Nat->Int×Int) (S:Nat->Int×Int) (Q:Nat->Pro) (x:Nd):Option (Pro×List Pro):=(dimF X G D S Q x).bind fun Y=>(ruleF X Q x).map fun Z=>(Y,Z)
theorem fform_w {G:Nat->Bool} {D:Nat->Nat->Int×Int} (w0:World) (fb bn on n CN:Nat) (A0:Option Addr) (m C0:Nat) (A1:Option Addr) (C1:Nat) (A2:Option Addr) (C2:Nat) (S:Nat->Int×Int) (g:Nat) (KN:Nat->Prop) (Q:Nat->Pro) (vr:Value) (L:List FV) (X:Nat->Nd) (x:Nd) (i:Nat) (hm:m<=500) (hi:i<n) (hx:x=X i) (w:World) (VN:Nds w0 (some ⟨bn,on,none⟩) n X) (T:FSt w0 fb (some ⟨bn,on,none⟩) n CN A0 m C0 A1 C1 A2 C2 S g KN Q vr L w) (hf:Fit x i m) (hS:Dim64 S) (rS:drK S 7=true) (hD:∀v,v<m->G v=true->Dim64 (D v)/\drK (D v) 7=true)
  (hK:∀j,j<x.ar->KN (x.at j).toNat) (hQ:∀j,KN j->POk (m:Int) (Q j)/\FG G (Q j).2) (hr:∀j,j<n->(X j).k=1->rightR (X j).q (X j).p=true) (hL:L.length<=100000) (VD:Dms w0 A0 m D) (VG:Bls w0 A1 m G) :
  Calls Try.prog 25 #[.pointer (some ⟨fb,0,none⟩),.int .i64 (i:Int)] w fun r w'=>FmAns w0 fb (some ⟨bn,on,none⟩) n CN A0 m C0 A1 C1 A2 C2 S g KN Q L r w' (formF X G D S Q x)/\Below fb w w':=by
 have hk:=hf.k
 have ka:1<=arG x.k->KN x.a.toNat/\0<=x.a:=fun h=>⟨by have:=hK 0 h;unfold Nd.at at this;rwa [if_pos rfl] at this,by have:=hf.opa h;omega⟩
 have kb:2<=arG x.k->KN x.b.toNat/\0<=x.b:=fun h=>⟨by have:=hK 1 h;unfold Nd.at at this;rwa [if_neg (by decide)] at this,by have:=hf.opb h;omega⟩
 have la:1<=arG x.k->x.a.toNat<n:=fun h=>by have:=hf.opa h;omega
 have lb:2<=arG x.k->x.b.toNat<n:=fun h=>by have:=hf.opb h;omega
 unfold formF dimF ruleF
 by_cases c1:x.k=1
 ·simp only [c1,if_true]
  exact fform_const w0 fb bn on n CN A0 m C0 A1 C1 A2 C2 S g KN Q vr L X x i hm hi hx w VN T c1
 by_cases c2:x.k=2
 ·obtain⟨h1,h2⟩:=hf.var c2
  have q:=fform_var w0 fb bn on n CN A0 m C0 A1 C1 A2 C2 S g KN Q vr L X x i hm hi hx w VN T c2 h1 h2 hS rS (hD _ (by omega)) VD VG
  simp only [c2]
  cases hv:varP G D S x.v x.d with
  | none=>rw [hv] at q;exact q
  | some Y=>rw [hv] at q;exact q
 by_cases c15:x.k=15
 ·simp only [c15]
  exact fform_time w0 fb bn on n CN A0 m C0 A1 C1 A2 C2 S g KN Q vr L X x i hm hi hx w VN T c15
 by_cases c3:x.k=3
 ·have e1:arG x.k=2:=by rw [c3];rfl
  have qa:=ka (by omega)
  have qb:=kb (by omega)
  simp only [c3]
  cases h1:frB (X x.a.toNat) with
  | true=>exact fform_adda w0 fb bn on n CN A0 m C0 A1 C1 A2 C2 S g KN Q vr L X x i hm hi hx w VN T c3 qa.1 qb.1 qa.2 qb.2 (hr _ (la (by omega))) (hr _ (lb (by omega))) h1
  | false =>
   cases h2:frB (X x.b.toNat) with
   | true=>exact fform_addb w0 fb bn on n CN A0 m C0 A1 C1 A2 C2 S g KN Q vr L X x i hm hi hx w VN T c3 qa.1 qb.1 qa.2 qb.2 (hr _ (la (by omega))) (hr _ (lb (by omega))) h1 h2
   | false =>
    have q:=fform_addj (G:=G) w0 fb bn on n CN A0 m C0 A1 C1 A2 C2 S g KN Q vr L X x i hm hi hx w VN T c3 qa.1 qb.1 qa.2 qb.2 (hr _ (la (by omega))) (hr _ (lb (by omega))) (hQ _ qa.1).1 (hQ _ qb.1).1 (hQ _ qb.1).2 h1 h2 hL
    cases hv:timesP (Q x.a.toNat) (Q x.b.toNat) (-1,1) with
    | none=>rw [hv] at q;exact q
    | some Y=>rw [hv] at q;exact q
 by_cases c4:x.k=4
 ·have e1:arG x.k=2:=by rw [c4];rfl
  have qa:=ka (by omega)
  have qb:=kb (by omega)
  simp only [c4]
  cases h1:frB (X x.a.toNat) with
  | true=>exact fform_suba w0 fb bn on n CN A0 m C0 A1 C1 A2 C2 S g KN Q vr L X x i hm hi hx w VN T c4 qa.1 qb.1 qa.2 qb.2 (hr _ (la (by omega))) (hr _ (lb (by omega))) h1
  | false =>
   cases h2:frB (X x.b.toNat) with
   | true=>exact fform_subb w0 fb bn on n CN A0 m C0 A1 C1 A2 C2 S g KN Q vr L X x i hm hi hx w VN T c4 qa.1 qb.1 qa.2 qb.2 (hr _ (la (by omega))) (hr _ (lb (by omega))) h1 h2
   | false =>
    have q:=fform_subj (G:=G) w0 fb bn on n CN A0 m C0 A1 C1 A2 C2 S g KN Q vr L X x i hm hi hx w VN T c4 qa.1 qb.1 qa.2 qb.2 (hr _ (la (by omega))) (hr _ (lb (by omega))) (hQ _ qa.1).1 (hQ _ qb.1).1 (hQ _ qb.1).2 h1 h2 hL
    cases hv:timesP (Q x.a.toNat) (Q x.b.toNat) (-1,1) with
    | none=>rw [hv] at q;exact q
    | some Y=>rw [hv] at q;exact q
 by_cases c5:x.k=5
 ·have e1:arG x.k=2:=by rw [c5];rfl
  have qa:=ka (by omega)
  have qb:=kb (by omega)
  have q:=fform_mul (G:=G) w0 fb bn on n CN A0 m C0 A1 C1 A2 C2 S g KN Q vr L X x i hm hi hx w VN T c5 qa.1 qb.1 qa.2 qb.2 (hQ _ qa.1).1 (hQ _ qb.1).1 (hQ _ qb.1).2
  simp only [c5]
  cases hv:timesP (Q x.a.toNat) (Q x.b.toNat) (1,1) with
  | none=>rw [hv] at q;exact q
  | some Y=>rw [hv] at q;exact q
 by_cases c6:x.k=6
 ·have e1:arG x.k=2:=by rw [c6];rfl
  have qa:=ka (by omega)
  have qb:=kb (by omega)
  have q:=fform_div (G:=G) w0 fb bn on n CN A0 m C0 A1 C1 A2 C2 S g KN Q vr L X x i hm hi hx w VN T c6 qa.1 qb.1 qa.2 qb.2 (hQ _ qa.1).1 (hQ _ qb.1).1 (hQ _ qb.1).2
  simp only [c6]
  cases hv:timesP (Q x.a.toNat) (Q x.b.toNat) (-1,1) with
  | none=>rw [hv] at q;exact q
  | some Y=>rw [hv] at q;exact q
 by_cases c7:x.k=7
 ·have e1:arG x.k=1:=by rw [c7];rfl
  have qa:=ka (by omega)
  simp only [c7]
  exact fform_neg w0 fb bn on n CN A0 m C0 A1 C1 A2 C2 S g KN Q vr L X x i hm hi hx w VN T c7 qa.1 qa.2
 by_cases c8:x.k=8
 ·have e1:arG x.k=1:=by rw [c8];rfl
  have qa:=ka (by omega)
  have hn:=hf.pow c8
  have q:=fform_pow (G:=G) w0 fb bn on n CN A0 m C0 A1 C1 A2 C2 S g KN Q vr L X x i hm hi hx w VN T c8 qa.1 qa.2 (hQ _ qa.1).1 (hQ _ qa.1).2 (rok_one (by constructor <;> omega) (by omega))
  simp only [c8]
  cases hv:powerP (Q x.a.toNat) (x.n,1) with
  | none=>rw [hv] at q;exact q
  | some Y=>rw [hv] at q;exact q
 by_cases c9:x.k=9
 ·have e1:arG x.k=1:=by rw [c9];rfl
  have qa:=ka (by omega)
  have q:=fform_sqrt (G:=G) w0 fb bn on n CN A0 m C0 A1 C1 A2 C2 S g KN Q vr L X x i hm hi hx w VN T c9 qa.1 qa.2 (hQ _ qa.1).1 (hQ _ qa.1).2 rok_half
  simp only [c9]
  cases hv:powerP (Q x.a.toNat) (1,2) with
  | none=>rw [hv] at q;exact q
  | some Y=>rw [hv] at q;exact q
 have h10:10<=x.k/\x.k<=14:=by omega
 have e1:1<=arG x.k:=by
  obtain⟨h1,h2⟩:=h10
  rcases (by omega:x.k=10\/x.k=11\/x.k=12\/x.k=13\/x.k=14) with c | c | c | c | c <;> rw [c] <;> decide
 have qa:=ka e1
 rw [if_neg c1,if_neg c2,if_neg c15,if_neg (by omega),if_neg c5,if_neg c6,if_neg c7,if_neg c8,if_neg c9,if_neg (by omega),if_pos h10]
 exact fform_rest w0 fb bn on n CN A0 m C0 A1 C1 A2 C2 S g KN Q vr L X x i hm hi hx w VN T h10 qa.1 qa.2 (hr _ (la e1)) hL
theorem step_makeFr {w:World} {K:Act->World->Prop} {E:Prop} {ops:Array Oper} {o:Oper} {a:Act} {Q:Exit->Act->World->Prop} (hgd:o.guard=none) (l c:Operand)
  (ho:o.op=.makeSlice 60 l c) (n:Nat) (hl:a.eval l=.int .i64 (n:Int)) (hc:a.eval c=.int .i64 (n:Int)) (hn:n<=30000)
  (h:∀w',(∃cs,BlkAt w' w.heap.size 58 cs/\cs.length=n*15)->Below w.heap.size w w'->w.heap.size<w'.heap.size->K (a.put o.dst (.slice (some ⟨w.heap.size,0,none⟩) n n)) w'):if Region.wanted o (yielded ops a.tmps)=true then Oper.wp Try.prog o a w K Q else E:=by
 have hw:Region.wanted o (yielded ops a.tmps)=true:=by simp [Region.wanted,hgd]
 rw [if_pos hw]
 obtain⟨i0,hi,hz0,hz1,hz2⟩:=info_parts Try.infoFr
 obtain⟨w',hrun,h1,h2⟩:=run_make_full (P:=Try.prog) w w.heap.size 60 58 i0 _ 15 Try.underlying60 hi hz0 hz1 .i64 .i64 n (by rw [hz2];omega) (by unfold maxLen;omega) (Nat.le_refl _)
 have hb:∃cs,BlkAt w' w.heap.size 58 cs/\cs.length=n*15:=by
  rcases h1.2 with ⟨e,_⟩ | ⟨g,cap,cur,e, -,hg, -, -,hs, -⟩
  ·cases e
  ·injection e with e1 e2 e3
   injection e1 with e1
   injection e1 with e1
   subst e1 e3
   exact⟨cur.toList,by show w'.heap[_]?=_;rw [hg],by rw [<-hs];simp⟩
 have hlt:=(World.ownsRow.lt h1 _ rfl).2
 unfold Oper.wp
 simp [execOp,ho,hl,hc,hrun,Result.andThen]
 exact h _ hb ⟨h2.os,h2.tape,h2.output,h2.size,fun k hk=>h2.block k hk (by simp)⟩ hlt
theorem FSt.put {w0 w W:World} {fb:Nat} {AN:Option Addr} {n CN:Nat} {A0:Option Addr} {m C0:Nat} {A1:Option Addr} {C1:Nat} {A2:Option Addr} {C2:Nat} {S:Nat->Int×Int} {g:Nat} {K:Nat->Prop} {Q:Nat->Pro} {vr:Value} {L:List FV} (h:FSt w0 fb AN n CN A0 m C0 A1 C1 A2 C2 S g K Q vr L w)
  {cs:List Value} (b:BlkAt w g 58 cs) (hl:cs.length=n*15) (f:∀i,K i->i<n/\∃A' c,RtAt w A' m (fun u=>coF (u:Int) (Q i).2)/\∀j u,(fmL (.slice A' m c) (Q i).1)[j]?=some u->cs[i*15+j]?=some u) {i:Nat} {Y:Pro} {A9:Option Addr} {c9:Nat}
  (hi:i<n) (fy:RtAt w A9 m (fun u=>coF (u:Int) Y.2)) (bW:BlkAt W g 58 (cs.take (i*15)++fmL (.slice A9 m c9) Y.1++cs.drop (i*15+15))) (hB:∀B w0,Below B w0 w->B<=g->Below B w0 W)
  (k:∀k Tk ck,g≠k->BlkAt w k Tk ck->BlkAt W k Tk ck):FSt w0 fb AN n CN A0 m C0 A1 C1 A2 C2 S g (fun j=>K j\/j=i) (fun j=>if j=i then Y else Q j) vr L W:=by
 have gl:=h.gl
 refine⟨k _ _ _ (by omega) h.fd,hB _ _ h.hb h.lo,h.r2.other b (by decide) k,FsIn.set b hl f hi fy bW k,h.ow.off b (Or.inr (by omega)) k,fun x hx=>?_,h.gl,h.lo⟩
 obtain⟨A,C,e,r⟩:=h.ok x hx
 exact⟨A,C,e,r.other b (by decide) k⟩
theorem rule_set {X:Nat->Nd} {Q:Nat->Pro} {x:Nd} {i m:Nat} {Y:Pro} (hf:Fit x i m):ruleF X (fun j=>if j=i then Y else Q j) x=ruleF X Q x:=by
 unfold ruleF
 by_cases c:x.k=3\/x.k=4
 ·have e:arG x.k=2:=by rcases c with c | c <;> rw [c] <;> rfl
  have ha:=(hf.opa (by omega)).2
  have hb:=(hf.opb (by omega)).2
  rw [if_pos c,if_pos c]
  simp only [if_neg (show ¬x.a.toNat=i by omega),if_neg (show ¬x.b.toNat=i by omega)]
 ·rw [if_neg c,if_neg c]
  by_cases c2:10<=x.k/\x.k<=14
  ·have e:1<=arG x.k:=by
    obtain⟨h1,h2⟩:=c2
    rcases (by omega:x.k=10\/x.k=11\/x.k=12\/x.k=13\/x.k=14) with q | q | q | q | q <;> rw [q] <;> decide
   have ha:=(hf.opa e).2
   rw [if_pos c2,if_pos c2]
   simp only [if_neg (show ¬x.a.toNat=i by omega)]
  ·rw [if_neg c2,if_neg c2]
theorem state_step {X:Nat->Nd} {N G:Nat->Bool} {D:Nat->Nat->Int×Int} {S0:Nat->Int×Int} {i m:Nat} {Q:Nat->Pro} {L:List Pro} (h:stateF X N G D S0 i=some (Q,L)) (hn:N i=true) (hf:Fit (X i) i m) :
  stateF X N G D S0 (i+1)=(formF X G D S0 Q (X i)).map fun r=>((fun j=>if j=i then r.1 else Q j),L++r.2):=by
 rw [stateF,h]
 simp only [Option.bind_some,hn,if_true]
 unfold formF
 cases dimF X G D S0 Q (X i) with
 | none=>rfl
 | some Y =>
  simp only [Option.bind_some]
  rw [rule_set hf]
  cases ruleF X Q (X i) <;> rfl
theorem state_skip {X:Nat->Nd} {N G:Nat->Bool} {D:Nat->Nat->Int×Int} {S0:Nat->Int×Int} {i:Nat} (hn:N i=false):stateF X N G D S0 (i+1)=stateF X N G D S0 i:=by
 rw [stateF]
 cases stateF X N G D S0 i with
 | none=>rfl
 | some st=>simp [hn]
end Go.Proofs.Ytbejmklkicoibaa
