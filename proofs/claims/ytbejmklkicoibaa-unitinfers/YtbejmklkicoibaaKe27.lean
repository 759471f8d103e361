/- slices.BinarySearchFunc over factors; unit's product.exponent. unit: product.exponent. unit.keep: a rule with an unknown of its own. -/
import Derived.Test.YtbejmklkicoibaaSh
import Derived.Test.YtbejmklkicoibaaKe26
namespace Go.Proofs.Ytbejmklkicoibaa
open Go.ChangeShapes Go.WideShapes Go.ChangeAt Go.RowKit
theorem half_mid {i j:Nat} (h:i<j):i<=(i+j)/2/\(i+j)/2<j:=by omega
set_option maxRecDepth 4000 in
set_option maxHeartbeats 4000000 in
theorem usearch_w (A:Option Addr) (C n:Nat) (L:List Fac) (t v:Int) (hn:n=L.length) (hv:0<=v/\v<=500) (ht:0<=t/\t<=500) (hr:Rise v 0 L) (w:World) (F:FacAt w A L) :
  Calls Try.prog 74 #[.slice A n C,.int .i64 t,.func (.func 75) #[] #[]] w fun r w'=>(∃i:Nat,i<=n/\restF t L=L.drop i/\r=.returned (.tuple #[.int .i64 (i:Int),.bool (headEq t (restF t L))]))/\Below w.heap.size w w':=by
 have hl:(L.length:Int)<=v:=by have:=hr.length hv.1;omega
 have hn5:n<=500:=by omega
 have HR:Hid (Rise v 0 L):=hr
 have HV:Hid (0<=v/\v<=500):=hv
 have HN:Hid (n=L.length):=hn
 have HF:Hid (FacAt w A L):=F
 clear hr hv hn F hl
 go_enter Try.func74,Try.ntmps74
 go_wp2_with fail
 go_loopg [9,10] n (fun G s9 s10 wx=>∃i j:Nat,s9=.int .i64 (i:Int)/\s10=.int .i64 (j:Int)/\i<=j/\j<=n/\j<=i+G/\Below w.heap.size w wx/\Hid (∀k f,L[k]?=some f->k<i->f.1<t)/\Hid (∀k f,L[k]?=some f->j<=k->t<=f.1))
 case atStart=>exact⟨0,n,rfl,rfl,by omega,by omega,by omega,by go_grown,(fun k f _ h=>absurd h (by omega)),(fun k f h h2=>absurd ((List.getElem?_eq_some_iff.1 h).1) (by have:=HN.out;omega))⟩
 case round =>
  obtain⟨i,j,rfl,rfl,hij,hjn,hG,HB,hlo,hhi⟩:=hrel
  by_cases c:i=j
  ·subst c
   have hd:restF t L=L.drop i:=low_at t L i (by have:=HN.out;omega) hlo.out hhi.out
   have HD:Hid (restF t L=L.drop i):=hd
   by_cases c2:i=n
   ·have e:headEq t (restF t L)=false:=by rw [hd,List.drop_of_length_le (by have:=HN.out;omega)];rfl
    have E:Hid (headEq t (restF t L)=false):=e
    clear hd e hlo hhi
    subst c2
    go_wp2_with fail
    go_ret2
    exact⟨⟨i,Nat.le_refl _,HD.out,by rw [E.out];rfl⟩,HB⟩
   ·obtain⟨g,hg⟩:∃g,L[i]?=some g:=⟨_,List.getElem?_eq_getElem (by have:=HN.out;omega)⟩
    obtain⟨b,o,hA,hb,c0,c1,c2'⟩:=(HF.out.keep HB).at hg
    subst hA
    have hlt:(i:Int)<(n:Int):=by omega
    have hgb:=rise_from HR.out i g hg
    obtain⟨v0,v1⟩:=HV.out
    obtain⟨t0,t1⟩:=ht
    have cc:=fun W=>ucmp_w g.1 g.2.1 g.2.2 t ⟨by omega,by omega⟩ ⟨by omega,by omega⟩ W
    have E:Hid (headEq t (restF t L)=decide (g.1=t)):=by
     show headEq t (restF t L)=_
     have hi':i<L.length:=by have:=HN.out;omega
     have e:=List.getElem?_eq_getElem hi'
     rw [hg] at e
     rw [hd,List.drop_eq_getElem_cons hi',<-Option.some.inj e]
     rfl
    replace hg:Hid (L[i]?=some g):=hg
    clear hd hlo hhi hgb v0 v1 t0 t1
    by_cases q:g.1=t
    ·have q1:(g.1-t==0)=true:=by simp;omega
     have E2:Hid (headEq t (restF t L)=true):=E.out.trans (decide_eq_true q)
     clear q E
     go_wp2_with (first | (go_at_call 75;(with_reducible refine (cc _).mono ?_);rintro _ W1 ⟨rfl,hb1⟩))
     go_ret2
     exact⟨⟨i,by omega,HD.out,by rw [E2.out];rfl⟩,later HB hb1⟩
    ·have q1:(g.1-t==0)=false:=by simp;omega
     have E2:Hid (headEq t (restF t L)=false):=E.out.trans (decide_eq_false q)
     clear q E
     go_wp2_with (first | (go_at_call 75;(with_reducible refine (cc _).mono ?_);rintro _ W1 ⟨rfl,hb1⟩))
     go_ret2
     exact⟨⟨i,by omega,HD.out,by rw [E2.out];rfl⟩,later HB hb1⟩
  ·have hlt:(i:Int)<(j:Int):=by omega
   obtain⟨m1,m2⟩:=half_mid (show i<j by omega)
   go_upto_region 5 with fail
   obtain⟨h,hh,h1,h2⟩:∃h:Nat,((i:Int)+(j:Int))/2=(h:Int)/\i<=h/\h<j:=⟨(i+j)/2,by omega,m1,m2⟩
   rw [hh]
   obtain⟨g,hg⟩:∃g,L[h]?=some g:=⟨_,List.getElem?_eq_getElem (by have:=HN.out;omega)⟩
   obtain⟨b,o,hA,hb,c0,c1,c2'⟩:=(HF.out.keep HB).at hg
   subst hA
   have hlt2:(h:Int)<(n:Int):=by omega
   have hgb:=rise_from HR.out h g hg
   obtain⟨v0,v1⟩:=HV.out
   obtain⟨t0,t1⟩:=ht
   have cc:=fun W=>ucmp_w g.1 g.2.1 g.2.2 t ⟨by omega,by omega⟩ ⟨by omega,by omega⟩ W
   have hlo2:Hid (g.1<t->∀k f,L[k]?=some f->k<h+1->f.1<t):=fun q k f hk hl=>by
    rcases Nat.lt_or_ge k h with e | e
    ·have:=rise_lt HR.out k h f g hk hg e;omega
    ·rw [show k=h by omega,hg] at hk;rw [<-Option.some.inj hk];exact q
   have hhi2:Hid (¬g.1<t->∀k f,L[k]?=some f->h<=k->t<=f.1):=fun q k f hk hl=>by
    by_cases e:k=h
    ·rw [e,hg] at hk;rw [<-Option.some.inj hk];omega
    ·have:=rise_lt HR.out h k g f hg hk (by omega);omega
   replace hg:Hid (L[h]?=some g):=hg
   clear hh hgb v0 v1 t0 t1 m1 m2
   by_cases q:g.1<t
   ·have q1:g.1-t<0:=by omega
    have hl3:Hid (∀k f,L[k]?=some f->k<h+1->f.1<t):=hlo2.out q
    clear q hlo2 hhi2
    go_wp2_with (first | (go_at_call 75;(with_reducible refine (cc _).mono ?_);rintro _ W1 ⟨rfl,hb1⟩))
    go_roundg (gk-1)
    case measure=>omega
    case rel=>exact⟨h+1,j,by go_num,rfl,by omega,hjn,by omega,later HB hb1,hl3,hhi⟩
   ·have q1:¬g.1-t<0:=by omega
    have hl3:Hid (∀k f,L[k]?=some f->h<=k->t<=f.1):=hhi2.out q
    clear q hlo2 hhi2
    go_wp2_with (first | (go_at_call 75;(with_reducible refine (cc _).mono ?_);rintro _ W1 ⟨rfl,hb1⟩))
    go_roundg (gk-1)
    case measure=>omega
    case rel=>exact⟨i,h,rfl,rfl,h1,by omega,by omega,later HB hb1,hlo,hl3⟩
theorem coF_no {t:Int} {L:List Fac} (h:headEq t (restF t L)=false):coF t L=(0,1):=by
 unfold coF
 cases hr:restF t L with
 | nil=>rfl
 | cons g K =>
  rw [hr] at h
  have:¬g.1=t:=of_decide_eq_false h
  simp only [if_neg this]
theorem coF_yes {t:Int} {L:List Fac} {i:Nat} (h:headEq t (restF t L)=true) (hd:restF t L=L.drop i):∃g,L[i]?=some g/\coF t L=g.2:=by
 unfold coF
 cases hr:restF t L with
 | nil=>rw [hr] at h;cases h
 | cons g K =>
  rw [hr] at h hd
  have e:g.1=t:=of_decide_eq_true h
  refine⟨g, ?_,by simp only [if_pos e]⟩
  have h0:(L.drop i)[0]?=some g:=by rw [<-hd];rfl
  rw [List.getElem?_drop] at h0
  exact h0
set_option maxRecDepth 4000 in
set_option maxHeartbeats 4000000 in
theorem uexponent_w (E:Nat->Int×Int) (A:Option Addr) (c:Nat) (L:List Fac) (t v:Int) (hv:0<=v/\v<=500) (ht:0<=t/\t<=500) (hr:Rise v 0 L) (w:World) (fa:FacAt w A L) :
  Calls Try.prog 55 #[proV E (.slice A L.length c),.int .i64 t] w fun r w'=>r=.returned (.agg #[.int .i64 (coF t L).1,.int .i64 (coF t L).2])/\Below w.heap.size w w':=by
 have cs:=fun W f=>usearch_w A c L.length L t v rfl hv ht hr W f
 have cw:=fun W=>uwhole_w 0 W
 obtain⟨n,hn⟩:∃n,Hid (n=L.length):=⟨_,rfl⟩
 rw [<-hn.out] at cs ⊢
 have hn5:Hid (∀(i:Nat) (g:Fac),L[i]?=some g->(i:Int)<(n:Int)):=fun i g h=>by have:=(List.getElem?_eq_some_iff.1 h).1;have:=hn.out;omega
 obtain⟨R,hR⟩:∃R:Int×Int,Hid (coF t L=R):=⟨_,rfl⟩
 rw [hR.out]
 clear hv hr
 show Calls Try.prog _ #[.agg #[.int .i64 (E 0).1,.int .i64 (E 0).2,.int .i64 (E 1).1,.int .i64 (E 1).2,.int .i64 (E 2).1,.int .i64 (E 2).2,.int .i64 (E 3).1,.int .i64 (E 3).2,.int .i64 (E 4).1,.int .i64 (E 4).2,.int .i64 (E 5).1,.int .i64 (E 5).2,.int .i64 (E 6).1,.int .i64 (E 6).2,.slice A n c],_] w _
 obtain⟨XB,RB,HB⟩:=blks2 w 79 27 [.int .i64 (E 0).1,.int .i64 (E 0).2,.int .i64 (E 1).1,.int .i64 (E 1).2,.int .i64 (E 2).1,.int .i64 (E 2).2,.int .i64 (E 3).1,.int .i64 (E 3).2,.int .i64 (E 4).1,.int .i64 (E 4).2,.int .i64 (E 5).1,.int .i64 (E 5).2,.int .i64 (E 6).1,.int .i64 (E 6).2,.slice A n c] [.int .i64 0,.int .i64 0]
 go_enter Try.func55,Try.ntmps55
 go_upto_region 1 with fail
 generalize ((w.alloc (.cells #[.int .i64 (E 0).1,.int .i64 (E 0).2,.int .i64 (E 1).1,.int .i64 (E 1).2,.int .i64 (E 2).1,.int .i64 (E 2).2,.int .i64 (E 3).1,.int .i64 (E 3).2,.int .i64 (E 4).1,.int .i64 (E 4).2,.int .i64 (E 5).1,.int .i64 (E 5).2,.int .i64 (E 6).1,.int .i64 (E 6).2,.slice A n c] 79)).alloc (.cells #[.int .i64 0,.int .i64 0] 27))=V1 at *
 have x14:=XB.cell 14 _ rfl
 cases hb:headEq t (restF t L) with
 | false =>
  rw [hb] at cs
  have eR:R=(0,1):=hR.out.symm.trans (coF_no hb)
  subst eR
  clear hb hR
  go_wp2_with (first
   | (go_at_call 74;(with_reducible refine (cs _ (fa.keep HB)).mono ?_);rintro _ W2 ⟨⟨i,hi,hd,rfl⟩,hb1⟩;replace HB:=later HB hb1;replace RB:=RB.keeps hb1;replace XB:=XB.keeps hb1;clear hb1 x14;have x14:=XB.cell 14 _ rfl;replace hd:Hid (restF t L=L.drop i):=hd)
   | (go_at_call 56;(with_reducible refine (cw _).mono ?_);rintro _ W3 ⟨rfl,hb1⟩;replace HB:=later HB hb1;replace RB:=RB.keeps hb1;clear hb1)
   | (refine wpList_storeBig (by rfl) _ _ 27 (by rfl) (RB) ([.int .i64 0,.int .i64 1]) (by kernel_rfl) (by rfl) (by rfl) (by rfl) (by rfl) ?_;rintro V2 XR hs2 hB2 hk2))
  exact bodyPost_ret (v:=.agg #[.int .i64 0,.int .i64 1]) (results_cell_row Try.results55 _ V2 (w.heap.size+1) 27 (([.int .i64 0,.int .i64 1]:List Value)).toArray (0,0) _ (by rfl) XR Try.underlying27 (by rfl) (by kernel_rfl)) rfl ⟨rfl,hB2 _ _ HB (by omega)⟩
 | true =>
  rw [hb] at cs
  have hb':Hid (headEq t (restF t L)=true):=hb
  clear hb
  go_upto_region 2 with (first
   | (go_at_call 74;(with_reducible refine (cs _ (fa.keep HB)).mono ?_);rintro _ W2 ⟨⟨i,hi,hd,rfl⟩,hb1⟩;replace HB:=later HB hb1;replace RB:=RB.keeps hb1;replace XB:=XB.keeps hb1;clear hb1 x14;have x14:=XB.cell 14 _ rfl;replace hd:Hid (restF t L=L.drop i):=hd))
  obtain⟨g,hg,hco⟩:=coF_yes hb'.out hd.out
  have eR:R=g.2:=hR.out.symm.trans hco
  subst eR
  have hin:=hn5.out i g hg
  obtain⟨b,o,hA,hbs,c0,c1,c2⟩:=(fa.keep HB).at hg
  subst hA
  clear hco hR hg
  go_wp2_with (first
   | (refine wpList_storeBig (by rfl) _ _ 27 (by rfl) (RB) ([.int .i64 g.2.1,.int .i64 g.2.2]) (by kernel_rfl) (by rfl) (by rfl) (by rfl) (by rfl) ?_;rintro V2 XR hs2 hB2 hk2))
  exact bodyPost_ret (v:=.agg #[.int .i64 g.2.1,.int .i64 g.2.2]) (results_cell_row Try.results55 _ V2 (w.heap.size+1) 27 (([.int .i64 g.2.1,.int .i64 g.2.2]:List Value)).toArray (0,0) _ (by rfl) XR Try.underlying27 (by rfl) (by kernel_rfl)) rfl ⟨rfl,hB2 _ _ HB (by omega)⟩
section
variable {P:Program} {ops:Array Oper} {Q:Exit->Act->World->Prop} {a:Act} {w:World} {o:Oper}
theorem step_storeBig {K:Act->World->Prop} {E:Prop} (hgd:Region.wanted o (yielded ops a.tmps)=true) (p v:Operand) (T:TypeId) (ho:o.op=.store T p v) {g:Nat} {T':TypeId} {old:List Value} (hrow:BlkAt w g T' old) (cs:List Value) (hi:(P.info? T).map (·.size)=some cs.length) (ho2:old.length=cs.length)
  (hp:a.eval p=.pointer (some ⟨g,0,none⟩)) (hv:a.eval v=.agg cs.toArray) (h1:cs.all (·.oneCell')=true)
  (h:∀W,BlkAt W g T' cs->W.heap.size=w.heap.size->(∀B w0,Below B w0 w->B<=g->Below B w0 W)->(∀k Tk ck,g≠k->BlkAt w k Tk ck->BlkAt W k Tk ck)->K (a.put o.dst undef) W):if Region.wanted o (yielded ops a.tmps)=true then Oper.wp P o a w K Q else E:=by
 rw [if_pos hgd]
 unfold Oper.wp
 obtain⟨dst,op,ty,pos,after,guard⟩:=o
 simp only at ho
 subst ho
 have hs:=run_storeVar_row (P:=P) w g T' T old.toArray cs.toArray hrow (by simpa using hi) (by simpa using ho2) (by simpa using h1)
 have e:(Instr.storeAt T (.pointer (some ⟨g,0,none⟩)) (.agg cs.toArray)).run P w=.ok () (w.setRow g cs.toArray):=by
  simp only [Instr.storeAt,Instr.sureAddr,Sem.run_bind,Sem.run_pure,Result.andThen]
  exact hs
 have e2:(execOp a.eval ⟨dst,.store T p v,ty,pos,after,guard⟩).run P w=.ok .skip (w.setRow g cs.toArray):=by
  simp only [execOp,hp,hv,Sem.run_bind,e,Result.andThen,Sem.run_pure]
 rw [e2]
 exact h _ hrow.set (by show (w.heap.modify g _).size=_;rw [Array.size_modify]) (fun B w0 hb hB=>below_setRow hb hB _) (fun k Tk ck hne hk=>hk.far hne _)
end
def kepV (o:Int) (E:Nat->Int×Int) (s:Value):Value:=.agg #[.int .i64 o,.int .i64 (E 0).1,.int .i64 (E 0).2,.int .i64 (E 1).1,.int .i64 (E 1).2,.int .i64 (E 2).1,.int .i64 (E 2).2,.int .i64 (E 3).1,.int .i64 (E 3).2,.int .i64 (E 4).1,.int .i64 (E 4).2,.int .i64 (E 5).1,.int .i64 (E 5).2,.int .i64 (E 6).1,.int .i64 (E 6).2,s]
def kepL (o:Int) (E:Nat->Int×Int) (s:Value):List Value:=[.int .i64 o,.int .i64 (E 0).1,.int .i64 (E 0).2,.int .i64 (E 1).1,.int .i64 (E 1).2,.int .i64 (E 2).1,.int .i64 (E 2).2,.int .i64 (E 3).1,.int .i64 (E 3).2,.int .i64 (E 4).1,.int .i64 (E 4).2,.int .i64 (E 5).1,.int .i64 (E 5).2,.int .i64 (E 6).1,.int .i64 (E 6).2,s]
theorem kep_val (o:Int) (E:Nat->Int×Int) (s:Value):kepV o E s=.agg (kepL o E s).toArray:=rfl
def divO (a p:Int×Int):Option (Int×Int):=if (divV11 a.1 a.2 p.1 p.2).2.2=0 then some ((divV11 a.1 a.2 p.1 p.2).1,(divV11 a.1 a.2 p.1 p.2).2.1) else none
theorem divO_cases {a p:Int×Int} (ha:ROk a) (hp:ROk p) (h0:p.1≠0):(∃m,divO a p=some m/\divV11 a.1 a.2 p.1 p.2=(m.1,m.2,0))\/(divO a p=none/\(divV11 a.1 a.2 p.1 p.2).2.2=3):=by
 have e:(divV11 a.1 a.2 p.1 p.2).2.2=0\/(divV11 a.1 a.2 p.1 p.2).2.2=3:=by
  unfold divV11
  rw [ha.1,hp.1,Bool.and_self,if_pos rfl,if_neg h0]
  exact ofV_err2 _ _ _
 unfold divO
 rcases e with h | h
 ·exact Or.inl ⟨_,if_pos h,tri_ext h⟩
 ·exact Or.inr ⟨if_neg (by rw [h];decide),h⟩
theorem divO_one {p m:Int×Int} (hp:ROk p) (h0:p.1≠0) (h:divO (1,1) p=some m):ROk m/\qP m*qP p=1:=by
 unfold divO at h
 by_cases c:(divV11 ((1,1):Int×Int).1 ((1,1):Int×Int).2 p.1 p.2).2.2=0
 ·rw [if_pos c] at h
  have e:=Option.some.inj h
  have hr:=rightR_D hp.1
  have hd:divV11 1 1 p.1 p.2=ofV (!(decide ((1:Int)<0)==decide (p.1<0))) ((1:Int).natAbs*p.2.natAbs) ((1:Int).natAbs*p.1.natAbs):=by
   unfold divV11
   rw [rok_1.1,hp.1,Bool.and_self,if_pos rfl,if_neg h0]
  have hd2:divV11 1 1 p.1 p.2=(m.1,m.2,0):=by rw [<-e];exact tri_ext c
  have h2:(1:Int).natAbs*p.1.natAbs≠0:=Nat.mul_ne_zero (by decide) (by omega)
  obtain⟨o1,o2,o3⟩:=ofV_ok h2 (hd ▸ hd2)
  refine⟨⟨o1,o3⟩, ?_⟩
  have hm:=rightR_D o1
  have z:m.1*p.1=p.2*m.2:=by
   have e1:(((1:Int).natAbs*p.1.natAbs:Nat):Int)=(p.1.natAbs:Int):=by simp
   have e2:(1:Int).natAbs*p.2.natAbs=p.2.natAbs:=by simp
   rw [e1,e2] at o2
   rcases Int.lt_or_gt_of_ne h0 with y | y
   ·rw [show (!(decide ((1:Int)<0)==decide (p.1<0)))=true by rw [decide_eq_true y];rfl] at o2
    have q1:(p.1.natAbs:Int)=-p.1:=by omega
    have q2:sgnd true p.2.natAbs=-p.2:=by show -((p.2.natAbs:Nat):Int)=-p.2;omega
    rw [q1,q2] at o2
    grind
   ·rw [show (!(decide ((1:Int)<0)==decide (p.1<0)))=false by rw [decide_eq_false (show ¬p.1<0 by omega)];rfl] at o2
    have q1:(p.1.natAbs:Int)=p.1:=by omega
    have q2:sgnd false p.2.natAbs=p.2:=by show ((p.2.natAbs:Nat):Int)=p.2;omega
    rw [q1,q2] at o2
    exact o2
  obtain⟨-,i1⟩:=qR_inv hm
  obtain⟨-,i2⟩:=qR_inv hr
  have zq:(m.1:Rat)*(p.1:Rat)=(p.2:Rat)*(m.2:Rat):=by rw [<-Rat.intCast_mul,<-Rat.intCast_mul,z]
  unfold qP qR
  grind
 ·rw [if_neg c] at h;cases h
def keepO (R:Pro):Option (Int×Pro):=match R.2 with
 | []=>none
 | f :: _=>(divO (1,1) f.2).bind fun d=>(powerP R d).map fun Y=>(f.1,Y)
def KpAns (r:Ending) (w:World) (R:Option (Int×Pro)):Prop:=(∃X s,R=some X/\r=.returned (kepV X.1 X.2.1 s)/\FSl w s X.2.2)\/(R=none/\r=.panicked (stopP 3))
theorem KpAns.yes {r:Ending} {w:World} {X:Int×Pro} (h:KpAns r w (some X)):∃s,r=.returned (kepV X.1 X.2.1 s)/\FSl w s X.2.2:=by
 rcases h with ⟨L2,s,e,hr,f⟩ | ⟨e,_⟩
 ·cases e;exact⟨s,hr,f⟩
 ·cases e
theorem KpAns.no {r:Ending} {w:World} (h:KpAns r w none):r=.panicked (stopP 3):=by
 rcases h with ⟨_,_,e,_⟩ | ⟨_,hr⟩
 ·cases e
 ·exact hr
set_option maxRecDepth 4000 in
set_option maxHeartbeats 4000000 in
theorem ukeep_w (E:Nat->Int×Int) (A:Option Addr) (c:Nat) (f:Fac) (L:List Fac) (V:Int) (hV:0<=V/\V<=500) (hc:(f :: L).length<=c) (hR:POk V (E,f :: L)) (h0:f.2.1≠0) (w:World) (fa:FacAt w A (f :: L)) :
  Calls Try.prog 35 #[proV E (.slice A (f :: L).length c)] w fun r w'=>KpAns r w' (keepO (E,f :: L))/\Below w.heap.size w w':=by
 have hfo:ROk f.2:=hR.f f (List.mem_cons_self ..)
 have hl:=hR.s.length hV.1
 have c1:=fun W=>uwhole_w 1 W
 have cd:=fun W=>divRat_w 1 1 f.2.1 f.2.2 rok_1.2 hfo.2 W
 have cp:=fun W d hd fw=>upower_w E (f :: L) (.slice A (f :: L).length c) d hR.d hR.r hd hR.f (by have:=hV.2;have h2:(((f :: L).length:Nat):Int)<=V-0:=hl;omega) W fw
 have fs:FSl w (.slice A (f :: L).length c) (f :: L):=⟨A,c,rfl,hc,fa⟩
 obtain⟨b,o,hA,hbs,d0,d1,d2, -⟩:=fa.head
 obtain⟨n,hn⟩:∃n,Hid (n=(f :: L).length):=⟨_,rfl⟩
 rw [<-hn.out] at fs cp ⊢
 have hn0:0<n:=by have:=hn.out;simp at this;omega
 subst hA
 obtain⟨R,hRR⟩:∃R,Hid (keepO (E,f :: L)=R):=⟨_,rfl⟩
 rw [hRR.out]
 have hkO:keepO (E,f :: L)=(divO (1,1) f.2).bind fun d=>(powerP (E,f :: L) d).map fun Y=>(f.1,Y):=rfl
 rw [hkO] at hRR
 have HP:Hid (POk V (E,f :: L)):=hR
 have hdv:=divO_cases rok_1 hfo h0
 have HD:Hid ((∃m,divO (1,1) f.2=some m/\divV11 1 1 f.2.1 f.2.2=(m.1,m.2,0))\/(divO (1,1) f.2=none/\(divV11 1 1 f.2.1 f.2.2).2.2=3)):=hdv
 have HF:Hid (ROk f.2/\f.2.1≠0):=⟨hfo,h0⟩
 clear hR hkO hdv h0 hfo hl hV hc
 show Calls Try.prog _ #[.agg #[.int .i64 (E 0).1,.int .i64 (E 0).2,.int .i64 (E 1).1,.int .i64 (E 1).2,.int .i64 (E 2).1,.int .i64 (E 2).2,.int .i64 (E 3).1,.int .i64 (E 3).2,.int .i64 (E 4).1,.int .i64 (E 4).2,.int .i64 (E 5).1,.int .i64 (E 5).2,.int .i64 (E 6).1,.int .i64 (E 6).2,.slice (some ⟨b,o,none⟩) n c]] w _
 obtain⟨XB,RB,HB⟩:=blks2 w 79 82 [.int .i64 (E 0).1,.int .i64 (E 0).2,.int .i64 (E 1).1,.int .i64 (E 1).2,.int .i64 (E 2).1,.int .i64 (E 2).2,.int .i64 (E 3).1,.int .i64 (E 3).2,.int .i64 (E 4).1,.int .i64 (E 4).2,.int .i64 (E 5).1,.int .i64 (E 5).2,.int .i64 (E 6).1,.int .i64 (E 6).2,.slice (some ⟨b,o,none⟩) n c] [.int .i64 0,.int .i64 0,.int .i64 0,.int .i64 0,.int .i64 0,.int .i64 0,.int .i64 0,.int .i64 0,.int .i64 0,.int .i64 0,.int .i64 0,.int .i64 0,.int .i64 0,.int .i64 0,.int .i64 0,.slice none 0 0]
 go_enter Try.func35,Try.ntmps35
 go_upto_region 1 with fail
 generalize ((w.alloc (.cells #[.int .i64 (E 0).1,.int .i64 (E 0).2,.int .i64 (E 1).1,.int .i64 (E 1).2,.int .i64 (E 2).1,.int .i64 (E 2).2,.int .i64 (E 3).1,.int .i64 (E 3).2,.int .i64 (E 4).1,.int .i64 (E 4).2,.int .i64 (E 5).1,.int .i64 (E 5).2,.int .i64 (E 6).1,.int .i64 (E 6).2,.slice (some ⟨b,o,none⟩) n c] 79)).alloc (.cells #[.int .i64 0,.int .i64 0,.int .i64 0,.int .i64 0,.int .i64 0,.int .i64 0,.int .i64 0,.int .i64 0,.int .i64 0,.int .i64 0,.int .i64 0,.int .i64 0,.int .i64 0,.int .i64 0,.int .i64 0,.slice none 0 0] 82))=V1 at *
 have x14:=XB.cell 14 _ rfl
 have g0:=keepsC HB d0 hbs
 have g1:=keepsC HB d1 hbs
 have g2:=keepsC HB d2 hbs
 go_upto_region 2 with (first
  | (refine wpList_storeBig (by rfl) _ _ 104 (by rfl) (blk_new _ _ _) ([.int .i64 f.1,.int .i64 f.2.1,.int .i64 f.2.2]) (by kernel_rfl) (by rfl) (by rfl) (by rfl) (by rfl) ?_;rintro V2 XR hs2 hB2 hk2))
 have XF:=XR
 have hfb:w.heap.size+1<V1.heap.size:=RB.lt
 replace XB:=hk2 _ _ _ (by omega) (XB.keeps (Below.alloc (Below.refl _ _) (Nat.le_refl _) _))
 replace RB:=hk2 _ _ _ (by omega) (RB.keeps (Below.alloc (Below.refl _ _) (Nat.le_refl _) _))
 replace HB:=hB2 _ _ (Below.alloc HB HB.size _) HB.size
 obtain⟨fb,hfb2⟩:∃fb,fb=V1.heap.size:=⟨_,rfl⟩
 rw [<-hfb2] at XF hfb ⊢
 clear XR hB2 hk2 hs2 hfb2 x14 g0 g1 g2
 try simp only [Act.put]
 obtain⟨dN,dD,de,hd⟩:∃x y z,divV11 1 1 f.2.1 f.2.2=(x,y,z):=⟨_,_,_,rfl⟩
 rw [hd] at cd
 replace hd:Hid (divV11 1 1 f.2.1 f.2.2=(dN,dD,de)):=hd
 refine wp_region_held_drew (S:=fun W=>BlkAt W w.heap.size 79 (proL E (.slice (some ⟨b,o,none⟩) n c))/\W.cell? ⟨fb,0,none⟩=some (.int .i64 f.1)/\W.cell? ⟨fb,1,none⟩=some (.int .i64 f.2.1)/\W.cell? ⟨fb,2,none⟩=some (.int .i64 f.2.2)) (by kernel_rfl) ⟨XB,XF.cell 0 _ rfl,XF.cell 1 _ rfl,XF.cell 2 _ rfl⟩ (fun hHeld=>?_)
 refine tk (v:=?_) 0 rfl ?_ hHeld ?_;rotate_left;(focus ((intro w hSw;(try dsimp only at hSw);go_simp);try with_reducible rfl));simp only[gA,gB,Act.put,gD,gE,gF];refine tk (v:=?_) 1 rfl ?_ hHeld ?_;rotate_left;(focus ((intro w hSw;(try dsimp only at hSw);go_simp);try with_reducible rfl));simp only[gA,gB,gC,Act.put,gD,gE,gF]
 refine wpAnyH_take (i:=2) (v:=proV E (.slice (some ⟨b,o,none⟩) n c)) rfl (by kernel_rfl) (by kernel_rfl) (by kernel_rfl) (fun _ _ _ h=>h) (yields_loadBig (by rfl) _ 79 (by rfl) Try.underlying79 (proL E (.slice (some ⟨b,o,none⟩) n c)) (by kernel_rfl) (by rfl) (fun W hS=>hS.1.cell0) (pro_val _ _)) hHeld ?_;simp only[gA,gB,gC,Act.put,gD,gE,gF]
 refine tk (v:=?_) 4 rfl ?_ hHeld ?_;rotate_left;(focus ((intro w hSw;(try dsimp only at hSw);go_simp);try with_reducible rfl));simp only[gA,gB,gC,Act.put,gD,gE,gF];refine tk (v:=?_) 5 rfl ?_ hHeld ?_;rotate_left;(focus ((intro w hSw;(try dsimp only at hSw);go_simp);try with_reducible rfl));simp only[gA,gB,gC,Act.put,gD,gE,gF]
 have HD0:Below V2.heap.size V2 V2.drew:=(Below.refl _ _).drew
 replace HB:=later HB HD0
 replace RB:=RB.keeps HD0
 replace XB:=XB.keeps HD0
 replace XF:=XF.keeps HD0
 clear HD0
 refine rd 3 rfl (fun K hK=>?_);simp only[gA,gB,gC,Act.put,gD,gE,gF];go_simp
 go_at_call 56
 (with_reducible refine (c1 _).mono ?_)
 rintro _ W3 ⟨rfl,hb1⟩
 replace HB:=later HB hb1
 replace RB:=RB.keeps hb1
 replace XB:=XB.keeps hb1
 replace XF:=XF.keeps hb1
 clear hb1
 dsimp only
 refine hK.out _ _ ⟨XB,XF.cell 0 _ rfl,XF.cell 1 _ rfl,XF.cell 2 _ rfl⟩ (fun hHeld=>?_)
 clear hK K
 refine rd 6 rfl (fun K hK=>?_);simp only[gA,gB,gC,Act.put,gD,gE,gF];go_simp
 go_at_call 61
 (with_reducible refine (cd _).mono ?_)
 rintro _ W6 ⟨rfl,hb1⟩
 replace HB:=later HB hb1
 replace RB:=RB.keeps hb1
 replace XB:=XB.keeps hb1
 replace XF:=XF.keeps hb1
 clear hb1
 dsimp only
 refine hK.out _ _ ⟨XB,XF.cell 0 _ rfl,XF.cell 1 _ rfl,XF.cell 2 _ rfl⟩ (fun hHeld=>?_)
 clear hK K
 refine tk (v:=?_) 7 rfl ?_ hHeld ?_;rotate_left;(focus ((intro w hSw;(try dsimp only at hSw);go_simp);try with_reducible rfl));simp only[gA,gB,gC,Act.put,gD,gE,gF];refine tk (v:=?_) 8 rfl ?_ hHeld ?_;rotate_left;(focus ((intro w hSw;(try dsimp only at hSw);go_simp);try with_reducible rfl));simp only[gA,gB,gC,Act.put,gD,gE,gF]
 clear c1 cd
 rcases HD.out with ⟨m,hm1,hm2⟩ | ⟨hm1,hm2⟩
 ·have hd2:=hd.out
  rw [hm2] at hd2
  injection hd2 with e1 e2
  injection e2 with e2 e3
  subst e1 e2 e3
  have hmo:ROk m:=(divO_one HF.out.1 HF.out.2 hm1).1
  obtain⟨T,hT⟩:∃T,Hid (powerP (E,f :: L) m=T):=⟨_,rfl⟩
  have hRR2:Hid ((T.map fun Y=>(f.1,Y))=R):=by have q:=hRR.out;rw [hm1] at q;rw [<-hT.out];exact q
  have ct:=fun W fw=>cp W m hmo fw
  rw [hT.out] at ct
  have cu:=fun W=>must_ok m.1 m.2 W
  clear hRR hm1 hm2 HD hd hT cp hmo
  refine rd 9 rfl (fun K hK=>?_);simp only[gA,gB,gC,Act.put,gD,gE,gF];go_simp
  go_at_call 58
  (with_reducible refine (cu _).mono ?_)
  rintro _ W9 ⟨rfl,hb1⟩
  replace HB:=later HB hb1
  replace RB:=RB.keeps hb1
  replace XB:=XB.keeps hb1
  replace XF:=XF.keeps hb1
  clear hb1
  dsimp only
  refine hK.out _ _ ⟨XB,XF.cell 0 _ rfl,XF.cell 1 _ rfl,XF.cell 2 _ rfl⟩ (fun hHeld=>?_)
  clear hK K
  refine rd 10 rfl (fun K hK=>?_);simp only[gA,gB,gC,Act.put,gD,gE,gF];go_simp
  go_at_call 60
  (with_reducible refine (ct _ (fs.keep HB)).mono ?_)
  rintro r W2 ⟨hM,hb2⟩
  cases T with
  | none =>
   have eR:Hid (R=none):=hRR2.out.symm
   have hr:=hM.no
   subst hr
   exact⟨rfl,Or.inr ⟨eR.out,rfl⟩,later HB hb2⟩
  | some Y =>
   have eR:Hid (R=some (f.1,Y)):=hRR2.out.symm
   obtain⟨s,hr,A9,c9,rfl,hc9,fa9⟩:=hM.yes
   replace hr:r=.returned (.agg #[.int .i64 (Y.1 0).1,.int .i64 (Y.1 0).2,.int .i64 (Y.1 1).1,.int .i64 (Y.1 1).2,.int .i64 (Y.1 2).1,.int .i64 (Y.1 2).2,.int .i64 (Y.1 3).1,.int .i64 (Y.1 3).2,.int .i64 (Y.1 4).1,.int .i64 (Y.1 4).2,.int .i64 (Y.1 5).1,.int .i64 (Y.1 5).2,.int .i64 (Y.1 6).1,.int .i64 (Y.1 6).2,.slice A9 Y.2.length c9]):=hr
   subst hr
   have fl:FSl W2 (.slice A9 Y.2.length c9) Y.2:=⟨A9,c9,rfl,hc9,fa9⟩
   replace HB:=later HB hb2
   replace RB:=RB.keeps hb2
   replace XB:=XB.keeps hb2
   replace XF:=XF.keeps hb2
   clear hb2 hM
   dsimp only
   refine hK.out _ _ ⟨XB,XF.cell 0 _ rfl,XF.cell 1 _ rfl,XF.cell 2 _ rfl⟩ (fun hHeld=>?_)
   clear hK K
   refine tk (v:=?_) 11 rfl ?_ hHeld ?_;rotate_left;(focus ((intro w hSw;(try dsimp only at hSw);go_simp);try with_reducible rfl));simp only[gA,gB,gC,Act.put,gD,gE,gF]
   refine rd 12 rfl (fun K hK=>?_)
   refine step_storeBig (by rfl) _ _ 82 (by rfl) RB (kepL f.1 Y.1 (.slice A9 Y.2.length c9)) (by kernel_rfl) (by rfl) (by rfl) (by rfl) (by rfl) ?_
   rintro V4 XR hs2 hB2 hk2
   have XB2:=hk2 _ _ _ (by omega) XB
   have XF2:=hk2 _ _ _ (by omega) XF
   refine hK.out _ _ ⟨XB2,XF2.cell 0 _ rfl,XF2.cell 1 _ rfl,XF2.cell 2 _ rfl⟩ (fun _=>wpAnyH_done (by kernel_rfl) ?_ _)
   clear hK K
   have fl2:=fl.other RB (by decide) hk2
   go_wp2_with fail
   exact bodyPost_ret (v:=kepV f.1 Y.1 (.slice A9 Y.2.length c9)) (results_cell_row Try.results35 _ V4 (w.heap.size+1) 82 (kepL f.1 Y.1 (.slice A9 Y.2.length c9)).toArray (0,0) _ (by rfl) XR Try.underlying82 (by rfl) (by kernel_rfl)) rfl ⟨Or.inl ⟨(f.1,Y),_,eR.out,rfl,fl2⟩,hB2 _ _ HB (by omega)⟩
 ·have eR:Hid (R=none):=by have q:=hRR.out;rw [hm1] at q;exact q.symm
  have hd2:=hd.out
  have e3:de=3:=by rw [hd2] at hm2;exact hm2
  subst e3
  clear hRR hm1 hm2 hd2 HD hd cp
  refine rd 9 rfl (fun K hK=>?_);simp only[gA,gB,gC,Act.put,gD,gE,gF];go_simp
  go_at_call 58
  (with_reducible refine (must_no dN dD 3 (by decide) _).mono ?_)
  rintro _ W9 ⟨rfl,hb1⟩
  exact⟨rfl,Or.inr ⟨eR.out,rfl⟩,later HB hb1⟩
end Go.Proofs.Ytbejmklkicoibaa
