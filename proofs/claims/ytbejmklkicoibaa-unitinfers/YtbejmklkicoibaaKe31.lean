/- Products as lists of factors and as rows of exponents: one fails where the other does, and both tell the same. Rows of exponents gone through: what they tell is what lists of factors tell. unit's tried: what was given up by a panic with a stop is an error; Times. unit's tried, of dimensions: what was given up by a panic with a stop is an error. unit.Infer's work: rules, and what they tell. -/
import Derived.Test.YtbejmklkicoibaaSh
import Derived.Test.YtbejmklkicoibaaKe30
import Derived.Test.YtbejmklkicoibaaKe16
import Derived.Defers
import Derived.Recover
import Derived.Laws.Pointers
namespace Go.Proofs.Ytbejmklkicoibaa
theorem rest_rest {t u:Int} (h:t<=u):∀L,restF u (restF t L)=restF u L
 | []=>rfl
 | f :: L=>by
  by_cases c:f.1<t
  ·rw [restF,if_pos c,rest_rest h L,restF,if_pos (by omega)]
  ·rw [show restF t (f :: L)=f :: L by rw [restF,if_neg c]]
theorem co_rest {t u:Int} (h:t<=u) (L:List Fac):coF u (restF t L)=coF u L:=by
 unfold coF
 rw [rest_rest h]
theorem co_tail {u:Int} {g:Fac} {r:List Fac} (h:g.1<u):coF u (g :: r)=coF u r:=by
 unfold coF
 rw [restF,if_pos h]
theorem addO_zeroL {m:Int×Int} (h:ROk m):addO (0,1) m=some m:=by
 have e:addV11 0 1 m.1 m.2=(m.1,m.2,0):=addV11_of rok_zero.1 h.1 h.1 h.2 (by grind)
 unfold addO
 rw [show ((0,1):Int×Int).1=0 from rfl,show ((0,1):Int×Int).2=1 from rfl,e,if_pos rfl]
theorem addO_zeroR {m:Int×Int} (h:ROk m):addO m (0,1)=some m:=by
 have e:addV11 m.1 m.2 0 1=(m.1,m.2,0):=addV11_of h.1 rok_zero.1 h.1 h.2 (by grind)
 unfold addO
 rw [show ((0,1):Int×Int).1=0 from rfl,show ((0,1):Int×Int).2=1 from rfl,e,if_pos rfl]
theorem mulO_zero {m:Int×Int} (h:ROk m):mulO m (0,1)=some (0,1):=by
 rcases mulO_cases h rok_zero with ⟨x,hx, -⟩ | ⟨-,he⟩
 ·obtain⟨rx,qx⟩:=mulO_some h rok_zero hx
  rw [qP_zero] at qx
  rw [hx,qP_eq0 rx (by rw [qx];grind)]
 ·exfalso
  have e:mulV11 m.1 m.2 0 1=(0,1,0):=by
   unfold mulV11 ofV
   rw [h.1,rok_zero.1]
   simp
  rw [show ((0,1):Int×Int).1=0 from rfl,show ((0,1):Int×Int).2=1 from rfl,e] at he
  cases he
def stepD (p ea eb:Int×Int):Option (Int×Int):=(mulO eb p).bind fun m=>addO ea m
def behF (u:Int):List Fac->List Fac
 | []=>[]
 | g :: r=>if g.1=u then r else g :: r
theorem stepF_is {p:Int×Int} {f:Fac} {a:List Fac} (hp:ROk p) (hf:ROk f.2):stepF p f (restF f.1 a)=(stepD p (coF f.1 a) f.2).map fun e=>(e,behF f.1 (restF f.1 a)):=by
 unfold stepF stepD
 cases hm:mulO f.2 p with
 | none=>rfl
 | some m =>
  obtain⟨rm, -⟩:=mulO_some hf hp hm
  simp only [Option.bind_some]
  unfold coF behF
  cases restF f.1 a with
  | nil=>dsimp only;rw [addO_zeroL rm];rfl
  | cons g r =>
   dsimp only
   by_cases c:g.1=f.1
   ·rw [if_pos c,if_pos c,if_pos c]
   ·rw [if_neg c,if_neg c,if_neg c,addO_zeroL rm];rfl
theorem co_beh {t u:Int} (h:t<u) (a:List Fac):coF u (behF t (restF t a))=coF u a:=by
 rw [<-co_rest (Int.le_of_lt h) a]
 unfold behF
 cases restF t a with
 | nil=>rfl
 | cons g r =>
  dsimp only
  by_cases c:g.1=t
  ·rw [if_pos c,co_tail (by omega)]
  ·rw [if_neg c]
theorem mergeF_ok {p:Int×Int} (hp:ROk p) {v:Int}:∀{b a:List Fac} {l:Int},FOk b->Rise v l b->(mergeF p a b≠none↔∀f,f∈b->stepD p (coF f.1 a) f.2≠none)
 | [],a,l,_,_=>⟨fun _ f hf=>(by cases hf),fun _ h=>(by cases h)⟩
 | f :: b,a,l,hb,hr=>by
  rw [mergeF,stepF_is hp (hb f (List.mem_cons_self ..))]
  cases hs:stepD p (coF f.1 a) f.2 with
  | none =>
   refine⟨fun h=>absurd rfl h,fun h=>absurd hs (h f (List.mem_cons_self ..))⟩
  | some e =>
   simp only [Option.map_some,Option.bind_some]
   have ih:=mergeF_ok (a:=behF f.1 (restF f.1 a)) hp hb.tail hr.2.2
   constructor
   ·intro h g hg
    rcases List.mem_cons.1 hg with c | c
    ·rw [c,hs];exact fun h=>by cases h
    ·have q:=ih.1 (fun q=>h (by rw [q];rfl)) g c
     obtain⟨i,hi⟩:=List.getElem?_of_mem c
     have:=(rise_from hr.2.2 i g hi).1
     rw [co_beh (by omega)] at q
     exact q
   ·intro h q
    have q2:mergeF p (behF f.1 (restF f.1 a)) b≠none:=ih.2 fun g hg=>by
     obtain⟨i,hi⟩:=List.getElem?_of_mem hg
     have:=(rise_from hr.2.2 i g hi).1
     rw [co_beh (by omega)]
     exact h g (List.mem_cons_of_mem _ hg)
    cases hm:mergeF p (behF f.1 (restF f.1 a)) b with
    | none=>exact q2 hm
    | some t=>rw [hm] at q;cases q
theorem co_in {v:Int}:∀{L:List Fac} {l:Int} {t:Int},Rise v l L->coF t L≠(0,1)->(t,coF t L)∈L
 | [],_,t,_,h=>absurd rfl h
 | f :: L,l,t,r,h=>by
  by_cases c:f.1<t
  ·rw [co_tail c] at h ⊢
   exact List.mem_cons_of_mem _ (co_in r.2.2 h)
  ·unfold coF at h ⊢
   rw [restF,if_neg c] at h ⊢
   dsimp only at h ⊢
   by_cases d:f.1=t
   ·rw [if_pos d,<-d];exact List.mem_cons_self ..
   ·rw [if_neg d] at h;exact absurd rfl h
theorem n0_iff {e:Int×Int} (h:ROk e):e.1=0↔e=(0,1):=⟨fun c=>qP_eq0 h (by unfold qP qR;rw [c];simp),fun c=>by rw [c]⟩
theorem join_some {V:Int} {a b Y:Pro} {p:Int×Int} (ha:POk V a) (hb:POk V b) (hp:ROk p) (h:timesP a b p=some Y) :
  tmF a.1 b.1 p.1 p.2 7=0/\Y.1=tmD a.1 b.1 p.1 p.2 7/\∀u,((coF u b.2).1=0->coF u Y.2=coF u a.2)/\((coF u b.2).1≠0->stepD p (coF u a.2) (coF u b.2)=some (coF u Y.2)):=by
 obtain⟨hY, -⟩:=timesP_some ha hb hp h
 have hc:=coF_times ha hb hp h
 have h0:=h
 unfold timesP at h0
 by_cases z:tmF a.1 b.1 p.1 p.2 7=0
 ·rw [if_pos z] at h0
  cases hm:mergedF p a.2 b.2 with
  | none=>rw [hm] at h0;cases h0
  | some L =>
   rw [hm] at h0
   have e:=Option.some.inj h0
   refine⟨z,by rw [<-e],fun u=>⟨fun c=>?_,fun c=>?_⟩⟩
   ·refine qP_inj (coF_ok hY.f) (coF_ok ha.f) ?_
    rw [hc u,(n0_iff (coF_ok hb.f)).1 c,qP_zero]
    grind
   ·have ok:stepD p (coF u a.2) (coF u b.2)≠none:=by
     unfold mergedF at hm
     by_cases d:b.2.length=0\/p=(0,1)
     ·rcases d with d | d
      ·exfalso
       have e0:b.2=[]:=List.eq_nil_of_length_eq_zero d
       rw [e0] at c
       exact c rfl
      ·unfold stepD
       rw [d,mulO_zero (coF_ok hb.f)]
       simp only [Option.bind_some]
       rw [addO_zeroR (coF_ok ha.f)]
       exact fun h=>by cases h
     ·rw [if_neg d] at hm
      have q:=(mergeF_ok hp hb.f hb.s).1 (by rw [hm];exact fun h=>by cases h) _ (co_in hb.s (fun q=>c (by rw [q])))
      exact q
    cases hs:stepD p (coF u a.2) (coF u b.2) with
    | none=>exact absurd hs ok
    | some m =>
     refine congrArg some (qP_inj ?_ (coF_ok hY.f) ?_)
     ·unfold stepD at hs
      cases hmm:mulO (coF u b.2) p with
      | none=>rw [hmm] at hs;cases hs
      | some k=>rw [hmm] at hs;exact (addO_some (coF_ok ha.f) (mulO_some (coF_ok hb.f) hp hmm).1 hs).1
     ·unfold stepD at hs
      cases hmm:mulO (coF u b.2) p with
      | none=>rw [hmm] at hs;cases hs
      | some k =>
       rw [hmm] at hs
       obtain⟨rk,qk⟩:=mulO_some (coF_ok hb.f) hp hmm
       rw [(addO_some (coF_ok ha.f) rk hs).2,qk,hc u]
       grind
 ·rw [if_neg z] at h0;cases h0
theorem join_none {V:Int} {G:Nat->Bool} {a b:Pro} {p:Int×Int} (hb:POk V b) (hg:FG G b.2) (hp:ROk p) (h:timesP a b p=none) :
  tmF a.1 b.1 p.1 p.2 7≠0\/∃u:Nat,(u:Int)<V/\(coF u b.2).1≠0/\stepD p (coF u a.2) (coF u b.2)=none:=by
 by_cases z:tmF a.1 b.1 p.1 p.2 7=0
 ·right
  unfold timesP at h
  rw [if_pos z] at h
  cases hm:mergedF p a.2 b.2 with
  | some L=>rw [hm] at h;cases h
  | none =>
   unfold mergedF at hm
   by_cases d:b.2.length=0\/p=(0,1)
   ·rw [if_pos d] at hm;cases hm
   ·rw [if_neg d] at hm
    refine Classical.byContradiction fun no=>?_
    refine (mergeF_ok (a:=a.2) hp hb.f hb.s).2 (fun f hf hs=>no ?_) hm
    obtain⟨i,hi⟩:=List.getElem?_of_mem hf
    obtain⟨r0,r1⟩:=rise_from hb.s i f hi
    have e:((f.1.toNat:Nat):Int)=f.1:=by omega
    refine⟨f.1.toNat,by omega, ?_, ?_⟩
    ·rw [e,co_mem hb.s f hf];exact fac_n0 (hb.f f hf) (hg f hf).2
    ·rw [e,co_mem hb.s f hf];exact hs
 ·exact Or.inl z
end Go.Proofs.Ytbejmklkicoibaa
namespace Go.Proofs.Ytbejmklkicoibaa
def denS (D:Nat->Nat->Int×Int) (o:Int) (c:Nat->Int×Int):Nat->Nat->(Nat->Int×Int)->Option (Nat->Int×Int)
 | _,0,E=>some E
 | u,d+1,E=>if (u:Int)=o\/(c u).1=0 then denS D o c (u+1) d E else if tmF E (D u) (c u).1 (c u).2 7=0 then denS D o c (u+1) d (tmD E (D u) (c u).1 (c u).2 7) else none
def lowD (c:Nat->Int×Int):Nat->Nat->Int
 | _,0=>-1
 | u,d+1=>if (c u).1=0 then lowD c (u+1) d else (u:Int)
theorem co_head {u:Int} {f:Fac} {L:List Fac} (h:f.1=u):coF u (f :: L)=f.2:=by
 unfold coF
 rw [restF,if_neg (by omega)]
 dsimp only
 rw [if_pos h]
theorem co_above {u:Int} {f:Fac} {L:List Fac} (h:u<f.1):coF u (f :: L)=(0,1):=by
 unfold coF
 rw [restF,if_neg (by omega)]
 dsimp only
 rw [if_neg (by omega)]
theorem den_is (D:Nat->Nat->Int×Int) (o:Int) (c:Nat->Int×Int):∀(d u:Nat) (L:List Fac) (E:Nat->Int×Int),Rise ((u+d:Nat):Int) (u:Int) L->FOk L->(∀f,f∈L->f.2≠(0,1))->(∀q:Nat,u<=q->q<u+d->c q=coF (q:Int) L)->denS D o c u d E=toldS D o L E
 | 0,u,[],E,_,_,_,_=>rfl
 | 0,u,f :: L,E,r,_,_,_=>by
  have h1:=r.1
  have h2:=r.2.1
  omega
 | d+1,u,[],E,_,ho,hz,hc=>by
  have e:(c u).1=0:=by rw [hc u (Nat.le_refl _) (by omega)];rfl
  rw [denS,if_pos (Or.inr e)]
  exact den_is D o c d (u+1) [] E trivial ho hz (fun q h1 h2=>hc q (by omega) (by omega))
 | d+1,u,f :: L,E,r,ho,hz,hc=>by
  have hc0:=hc u (Nat.le_refl _) (by omega)
  by_cases h:f.1=(u:Int)
  ·rw [co_head h] at hc0
   have hne:f.2.1≠0:=fun e=>hz f (List.mem_cons_self ..) ((n0_iff (ho f (List.mem_cons_self ..))).1 e)
   have rcc:=fun E2=>den_is D o c d (u+1) L E2 (by rw [show u+1+d=u+(d+1) by omega,show ((u+1:Nat):Int)=f.1+1 by omega];exact r.2.2) (fun g hg=>ho g (List.mem_cons_of_mem _ hg)) (fun g hg=>hz g (List.mem_cons_of_mem _ hg)) (fun q h1 h2=>by rw [hc q (by omega) (by omega)];exact co_tail (by omega))
   have e2:f.1.toNat=u:=by omega
   rw [denS,toldS,hc0,e2]
   by_cases h3:(u:Int)=o
   ·rw [if_pos (Or.inl h3),if_pos (show f.1=o by omega)]
    exact rcc E
   ·rw [if_neg (show ¬((u:Int)=o\/f.2.1=0) by intro q;rcases q with q | q;exact h3 q;exact hne q),if_neg (show ¬f.1=o by omega)]
    by_cases h4:tmF E (D u) f.2.1 f.2.2 7=0
    ·rw [if_pos h4,if_pos h4]
     exact rcc _
    ·rw [if_neg h4,if_neg h4]
  ·have h5:=r.1
   have h6:(u:Int)<f.1:=by omega
   rw [co_above h6] at hc0
   have e:(c u).1=0:=by rw [hc0]
   rw [denS,if_pos (Or.inr e)]
   exact den_is D o c d (u+1) (f :: L) E ⟨by omega,by have:=r.2.1;omega,by rw [show u+1+d=u+(d+1) by omega];exact r.2.2⟩ ho hz (fun q h1 h2=>hc q (by omega) (by omega))
theorem low_is (c:Nat->Int×Int):∀(d u:Nat) (L:List Fac),Rise ((u+d:Nat):Int) (u:Int) L->FOk L->(∀f,f∈L->f.2≠(0,1))->(∀q:Nat,u<=q->q<u+d->c q=coF (q:Int) L)->lowD c u d=match L with | []=>-1 | f :: _=>f.1
 | 0,u,[],_,_,_,_=>rfl
 | 0,u,f :: L,r,_,_,_=>by
  have h1:=r.1
  have h2:=r.2.1
  omega
 | d+1,u,[],_,ho,hz,hc=>by
  have e:(c u).1=0:=by rw [hc u (Nat.le_refl _) (by omega)];rfl
  rw [lowD,if_pos e]
  exact low_is c d (u+1) [] trivial ho hz (fun q h1 h2=>hc q (by omega) (by omega))
 | d+1,u,f :: L,r,ho,hz,hc=>by
  have hc0:=hc u (Nat.le_refl _) (by omega)
  by_cases h:f.1=(u:Int)
  ·rw [co_head h] at hc0
   have hne:f.2.1≠0:=fun e=>hz f (List.mem_cons_self ..) ((n0_iff (ho f (List.mem_cons_self ..))).1 e)
   rw [lowD,hc0,if_neg hne]
   exact h.symm
  ·have h5:=r.1
   have h6:(u:Int)<f.1:=by omega
   rw [co_above h6] at hc0
   have e:(c u).1=0:=by rw [hc0]
   rw [lowD,if_pos e]
   exact low_is c d (u+1) (f :: L) ⟨by omega,by have:=r.2.1;omega,by rw [show u+1+d=u+(d+1) by omega];exact r.2.2⟩ ho hz (fun q h1 h2=>hc q (by omega) (by omega))
end Go.Proofs.Ytbejmklkicoibaa
namespace Go.Proofs.Ytbejmklkicoibaa
open Go.ChangeShapes Go.WideShapes Go.ChangeAt Go.RowKit
def RetW (w1:World) (e:Exit) (a:Act) (w:World):Prop:=(e=.ret\/e=.normal)/\a.defers=[]/\w=w1
theorem wpS_ends {P:Program} {c:Code} {Q:Exit->Act->List Frame->World->Prop} {a:Act} {cs:List Frame} {w w1:World} (h:c.wp P (RetW w1) a w) (hr:∀a',a'.defers=[]->Q .ret a' cs w1) (hn:∀a',a'.defers=[]->Q .normal a' cs w1):c.wpS P Q a cs w :=
 wpS_of_wp (wp_mono h fun e a' w' ⟨h1,h2,h3⟩=>by
  subst h3
  rcases h1 with rfl | rfl
  ·exact hr a' h2
  ·exact hn a' h2)
theorem catch_tmps (p x:Value):(#[p]++((Array.replicate 16 undef).setIfInBounds 3 x).setIfInBounds 0 x)=#[p,x,undef,undef,x,undef,undef,undef,undef,undef,undef,undef,undef,undef,undef,undef,undef]:=rfl
theorem run_assert_stop (xT:TypeId) (e:Int) (w:World):(Instr.typeAssert (.iface 74 (.agg #[.int .i64 e])) xT 74 true).run Try.prog w=.ok (.tuple #[.agg #[.int .i64 e],.bool true]) w:=by
 simp [Instr.typeAssert,go_sem]
def triedV (A B:Nat->Int×Int) (pN pD:Int):Value:=if tmF A B pN pD 7=0 then .tuple #[dimV (tmD A B pN pD 7),.int .i64 0] else .tuple #[dimV zeE,.int .i64 (tmF A B pN pD 7)]
def DsV (B:Nat) (w:World) (v:Value) (n:Nat) (Y:Nat->Nat->Int×Int):Prop:=∃g C,v=.slice (some ⟨g,0,none⟩) n C/\B<=g/\DmAt w g n Y
theorem DsV.off {B:Nat} {w:World} {v:Value} {n:Nat} {Y:Nat->Nat->Int×Int} (h:DsV B w v n Y) {b:Nat} (hb:b<B) (j:Nat) (x:Value):DsV B (w.setCell ⟨b,j,none⟩ x) v n Y:=by
 obtain⟨g,C,e,l,cs,d,r⟩:=h
 exact⟨g,C,e,l,cs,d.offCell (by omega) j x,r⟩
theorem DsV.less {B B':Nat} {w:World} {v:Value} {n:Nat} {Y:Nat->Nat->Int×Int} (h:DsV B w v n Y) (hb:B'<=B):DsV B' w v n Y:=by
 obtain⟨g,C,e,l,d⟩:=h
 exact⟨g,C,e,by omega,d⟩
def WkAns (B:Nat) (r:Ending) (w:World) (n:Nat):Except Int (Nat->Nat->Int×Int)->Prop
 | .ok Y=>∃v,r=.returned v/\DsV B w v n Y
 | .error e=>r=.panicked (stopP e)
def TrAns (B:Nat) (r:Ending) (w:World) (n:Nat):Except Int (Nat->Nat->Int×Int)->Prop
 | .ok Y=>∃v,r=.returned (.tuple #[v,.int .i64 0])/\DsV B w v n Y
 | .error e=>r=.returned (.tuple #[.slice none 0 0,.int .i64 e])
def HasE1 (w:World) (b:Nat) (x:Value):Prop:=w.cell? ⟨b,0,none⟩=some x/\w.frozen? ⟨b,0,none⟩=false/\b<w.heap.size
theorem HasE1.keep {w W:World} {b:Nat} {x:Value} (h:HasE1 w b x) (k:Below w.heap.size w W):HasE1 W b x:=⟨keepsC k h.1 h.2.2,keepsF k h.2.1 h.2.2,Nat.lt_of_lt_of_le h.2.2 k.size⟩
theorem catchS_idle (p:Addr) (w:World) :
  CallsD Try.prog 33 #[.pointer (some p)] .returning w fun e u' w'=>e=.returned (.tuple #[])/\u'=.returning/\w'=w:=by
 refine callsD_of_wpS Try.func33 rfl fun c₀ cs hu=>?_
 apply wpS_seq
 apply wpS_region
 simp [wpOpsS,go_sem,recoverD,hu,Try.ntmps33,Exit.thenS]
 rw [catch_tmps]
 refine wpS_ends (w1:=w) ?_ ?_ ?_
 ·go_wp2_with fail
  exact⟨Or.inl rfl,rfl,rfl⟩
 ·intro a' h
  cases c₀
  simp_all [bodyPostS,results,Try.results33]
 ·intro a' h
  cases c₀
  simp_all [bodyPostS,results,Try.results33]
set_option maxRecDepth 20000 in
set_option maxHeartbeats 1000000 in
theorem catchS_stop (b:Nat) (e x:Int) (older:List PanicEntry) (w:World) (hc:w.cell? ⟨b,0,none⟩=some (.int .i64 x)) (hz:w.frozen? ⟨b,0,none⟩=false) (hl:b<w.heap.size) :
  CallsD Try.prog 33 #[.pointer (some ⟨b,0,none⟩)] (.panicking ({ v:=.iface 74 (.agg #[.int .i64 e]),recovered:=false } :: older)) w fun r u' w'=>r=.returned (.tuple #[])/\u'=.panicking ({ v:=.iface 74 (.agg #[.int .i64 e]),recovered:=true } :: older)/\w'=(w.setCell ⟨b,0,none⟩ (.int .i64 e)).alloc (.cells #[.int .i64 e] 74):=by
 have HW:Below w.heap.size w (w.alloc (.cells #[.int .i64 e] 74)):=Below.alloc (Below.refl _ _) (Nat.le_refl _) _
 have hc2:=keepsC HW hc hl
 have hz2:=keepsF HW hz hl
 clear HW
 have hta:=fun xT W=>run_assert_stop xT e W
 refine callsD_of_wpS Try.func33 rfl fun c₀ cs hu=>?_
 apply wpS_seq
 apply wpS_region
 simp [wpOpsS,go_sem,recoverD,hu,Try.ntmps33,Exit.thenS]
 rw [catch_tmps]
 refine wpS_ends (w1:=(w.setCell ⟨b,0,none⟩ (.int .i64 e)).alloc (.cells #[.int .i64 e] 74)) ?_ ?_ ?_
 ·go_wp2_with fail
  exact⟨Or.inr rfl,rfl,rfl⟩
 ·intro a' h
  cases c₀
  simp_all [bodyPostS,results,Try.results33]
 ·intro a' h
  cases c₀
  simp_all [bodyPostS,results,Try.results33]
set_option maxHeartbeats 2000000 in
theorem utriedS_w (caps:Array Value) (n:Nat) (R:Except Int (Nat->Nat->Int×Int)) (w:World)
  (cw:∀W,Below w.heap.size w W->Calls Try.prog 17 caps W fun r w'=>WkAns W.heap.size r w' n R/\Below W.heap.size W w') :
  Calls Try.prog 16 #[.func (.func 17) #[] caps] w fun r w'=>TrAns w.heap.size r w' n R/\Below w.heap.size w w':=by
 have hmf:∀(fn:Fn) (first cap:Array Value) (w:World),(Instr.makeFunc fn first cap).run Try.prog w=.ok (.func fn first cap) w:=fun _ _ _ _=>rfl
 have HB:Below w.heap.size w (w.alloc (.cells #[.int .i64 0] 32)):=by go_grown
 have E:HasE1 (w.alloc (.cells #[.int .i64 0] 32)) w.heap.size (.int .i64 0):=⟨by go_simp,by go_simp,by go_size⟩
 go_enter_defers Try.func16,Try.ntmps16
 go_upto_region 2 with fail
 generalize (w.alloc (.cells #[.int .i64 0] 32))=V1 at *
 have cw1:=cw V1 HB
 have hB1:w.heap.size<V1.heap.size:=E.2.2
 clear cw
 cases R with
 | ok Y =>
  go_wp2_with (first | (go_at_call 17;(with_reducible refine cw1.mono ?_);rintro _ VV ⟨⟨v,rfl,DV⟩,hb1⟩;replace E:=E.keep hb1;replace HB:=later HB hb1;clear hb1 cw1;obtain⟨g0,g1,g2⟩:=id E;obtain⟨gD,CD,rfl,lD,DD⟩:=DV))
  refine leaves_cons (f:=33) (args:=#[.pointer (some ⟨w.heap.size,0,none⟩)]) (by simp) (by simp [go_sem]) ?_
  refine (catchS_idle ⟨w.heap.size,0,none⟩ _).mono ?_
  rintro e u' w'' ⟨rfl,rfl,rfl⟩
  refine⟨.tuple #[.slice (some ⟨gD,0,none⟩) n CD,.int .i64 0],by simp [results,Try.results16,go_sem, *],⟨_,rfl, ?_⟩, ?_⟩
  ·exact (DsV.off (B:=V1.heap.size) ⟨gD,CD,rfl,lD,DD⟩ hB1 0 _).less (by omega)
  ·repeat' (first | (with_reducible exact HB) | (with_reducible refine Below.setCell ?_ ?_ _) | go_size)
 | error e =>
  go_wp2_with (first | (go_at_call 17;(with_reducible refine cw1.mono ?_);rintro r VV ⟨hr,hb1⟩;replace hr:r=.panicked (stopP e):=hr;subst hr;replace E:=E.keep hb1;replace HB:=later HB hb1;clear hb1 cw1;obtain⟨g0,g1,g2⟩:=id E))
  refine leaves_cons (f:=33) (args:=#[.pointer (some ⟨w.heap.size,0,none⟩)]) (by simp) (by simp [go_sem]) ?_
  refine (catchS_stop w.heap.size e 0 [] _ g0 g1 g2).mono ?_
  rintro _ u' w'' ⟨rfl,rfl,rfl⟩
  have HB2:Below w.heap.size w (VV.setCell ⟨w.heap.size,0,none⟩ (.int .i64 e)):=by
   repeat' (first | (with_reducible exact HB) | (with_reducible refine Below.setCell ?_ ?_ _) | go_size)
  have E2:(VV.setCell ⟨w.heap.size,0,none⟩ (.int .i64 e)).cell? ⟨w.heap.size,0,none⟩=some (.int .i64 e):=by rw [World.cell?_setCell_same _ _ _ (by rw [g0])]
  have W3:Below (VV.setCell ⟨w.heap.size,0,none⟩ (.int .i64 e)).heap.size (VV.setCell ⟨w.heap.size,0,none⟩ (.int .i64 e)) ((VV.setCell ⟨w.heap.size,0,none⟩ (.int .i64 e)).alloc (.cells #[.int .i64 e] 74)):=Below.alloc (Below.refl _ _) (Nat.le_refl _) _
  replace E2:=keepsC W3 E2 (by simp only [World.size_setCell];exact g2)
  replace HB2:=later HB2 W3
  clear W3 g0 g1 g2 E HB
  generalize (VV.setCell ⟨w.heap.size,0,none⟩ (.int .i64 e)).alloc (.cells #[.int .i64 e] 74)=W4 at *
  exact⟨.tuple #[.slice none 0 0,.int .i64 e],by simp [results,Try.results16,go_sem, *],rfl,HB2⟩
theorem RsAns.yes {B:Nat} {r:Ending} {w:World} {Z:List Pro} (h:RsAns B r w (some Z)):∃(L:List PV) (v:Value),Z=L.map (·.1)/\r=.returned v/\OwnRw B w v L/\PvOk w L:=by
 rcases h with ⟨L,v,e,h⟩ | ⟨e,_⟩
 ·exact⟨L,v,Option.some.inj e,h⟩
 ·cases e
theorem RsAns.no {B:Nat} {r:Ending} {w:World} (h:RsAns B r w none):r=.panicked (stopP 3):=by
 rcases h with ⟨L,v,e,_⟩ | ⟨_,hr⟩
 ·cases e
 ·exact hr
set_option maxRecDepth 4000 in
set_option maxHeartbeats 8000000 in
theorem uwork_w (b0 b1 b2:Nat) (AN:Option Addr) (n CN:Nat) (X:Nat->Nd) (g0:Nat) (N:Nat->Bool) (A0 A1:Option Addr) (n0 C0 C1:Nat) (D:Nat->Nat->Int×Int) (G:Nat->Bool) (S:Nat->Int×Int)
  (hn:n<=4000) (hn0:n0<=500) (hX:∀i,i<n->(X i).Ok) (hF:∀i,i<n->N i=true->Fit (X i) i n0) (hN:∀i,i<n->N i=true->∀j,j<(X i).ar->N ((X i).at j).toNat=true)
  (hS:Dim64 S) (rS:drK S 7=true) (hD:∀v,v<n0->G v=true->Dim64 (D v)/\drK (D v) 7=true) (w:World) (VN:Nds w AN n X) (VC:Cel w g0 n (fun i=>.bool (N i))) (VD:Dms w A0 n0 D) (VG:Bls w A1 n0 G)
  (c0:w.cell? ⟨b0,0,none⟩=some (.slice AN n CN)) (l0:b0<w.heap.size) (c1:w.cell? ⟨b1,0,none⟩=some (.slice (some ⟨g0,0,none⟩) n n)) (l1:b1<w.heap.size) (XV:BlkAt w b2 43 (vrL (.slice A0 n0 C0) (.slice A1 n0 C1) S)) :
  Calls Try.prog 17 #[.pointer (some ⟨b0,0,none⟩),.pointer (some ⟨b1,0,none⟩),.pointer (some ⟨b2,0,none⟩)] w fun r w'=>WkAns w.heap.size r w' n0 (workR X N G D S n)/\Below w.heap.size w w':=by
 obtain⟨R,hRR⟩:∃R,Hid (workR X N G D S n=R):=⟨_,rfl⟩
 rw [hRR.out]
 obtain⟨T,hT⟩:∃T,Hid (stateF X N G D S n=T):=⟨_,rfl⟩
 have cr:=fun W vn vc vd vg=>urules_w AN n CN X g0 N A0 A1 n0 C0 C1 D G S hn hn0 hX hF hN hS rS hD W vn vc vd vg
 rw [hT.out] at cr
 have cs:=fun W vd vg=>ustart_w A0 A1 n0 C0 C1 D G S hn0 W vd vg
 have hst:Hid (∀st,T=some st->(∀R,R∈st.2->POk (n0:Int) R/\FG G R.2)/\st.2.length<=n):=fun st h=>by
  obtain⟨-,p2, -,p4, -⟩:=state_two (G':=G) (D':=D) (S:=fun _ _=>0) (fun i hi=>(hX i hi).E) hF hN hS rS hD hD (fun v hv e he=>rfl) n (Nat.le_refl n) st st (hT.out.trans h) (hT.out.trans h)
  exact⟨p2,p4⟩
 have hsD:Hid (∀v:Nat,v<n0->Dim64 (startD G D v)/\drK (startD G D v) 7=true):=fun v hv=>by
  unfold startD
  cases hG:G v with
  | true=>rw [if_pos rfl];exact hD v hv hG
  | false=>rw [if_neg (by simp)];exact plE_ok
 have hR2:Hid ((match (generalizing:=false) T with | none=>Except.error 3 | some st=>allFrom [] st.2 (startD G D))=R):=by
  have q:=hRR.out
  unfold workR at q
  rw [hT.out] at q
  exact q
 clear hRR hT hX hF hN hS rS hD
 have HB:Below w.heap.size w w:=Below.refl _ _
 go_enter Try.func17,Try.ntmps17
 go_upto_region 1 with fail
 refine wp_region_held_drew (S:=fun W=>BlkAt W b2 43 (vrL (.slice A0 n0 C0) (.slice A1 n0 C1) S)/\W.cell? ⟨b0,0,none⟩=some (.slice AN n CN)/\W.cell? ⟨b1,0,none⟩=some (.slice (some ⟨g0,0,none⟩) n n)) (by kernel_rfl) ⟨XV,c0,c1⟩ (fun hHeld=>?_)
 refine tk (v:=?_) 0 rfl ?_ hHeld ?_;rotate_left;(focus ((intro w hSw;(try dsimp only at hSw);go_simp);try with_reducible rfl));simp only[gA,gB,Act.put,gD,gE,gF];refine tk (v:=?_) 1 rfl ?_ hHeld ?_;rotate_left;(focus ((intro w hSw;(try dsimp only at hSw);go_simp);try with_reducible rfl));simp only[gA,gB,gC,Act.put,gD,gE,gF]
 refine wpAnyH_take (i:=2) (v:=vrV (.slice A0 n0 C0) (.slice A1 n0 C1) S) rfl (by kernel_rfl) (by kernel_rfl) (by kernel_rfl) (fun _ _ _ h=>h) (yields_loadBig (by rfl) _ 43 (by rfl) Try.underlying43 (vrL (.slice A0 n0 C0) (.slice A1 n0 C1) S) (by kernel_rfl) (by rfl) (fun W hS=>hS.1.cell0) (vr_val _ _ _)) hHeld ?_;simp only[gA,gB,gC,Act.put,gD,gE,gF]
 refine wpAnyH_take (i:=4) (v:=vrV (.slice A0 n0 C0) (.slice A1 n0 C1) S) rfl (by kernel_rfl) (by kernel_rfl) (by kernel_rfl) (fun _ _ _ h=>h) (yields_loadBig (by rfl) _ 43 (by rfl) Try.underlying43 (vrL (.slice A0 n0 C0) (.slice A1 n0 C1) S) (by kernel_rfl) (by rfl) (fun W hS=>hS.1.cell0) (vr_val _ _ _)) hHeld ?_;simp only[gA,gB,gC,Act.put,gD,gE,gF]
 have HD0:Below w.heap.size w w.drew:=(Below.refl _ _).drew
 replace HB:=later HB HD0
 clear HD0
 refine rd 3 rfl (fun K hK=>?_);simp only[gA,gB,gC,Act.put,gD,gE,gF];go_simp
 cases T with
 | none =>
  have eR:Hid (R=.error 3):=hR2.out.symm
  go_at_call 19
  (with_reducible refine (cr _ (VN.keep HB) (VC.keep HB) (VD.keep HB) (VG.keep HB)).mono ?_)
  rintro r W2 ⟨hM,hb2⟩
  have hr:=hM.no
  subst hr
  have e2:=eR.out
  subst e2
  exact⟨rfl,rfl,later HB hb2⟩
 | some st =>
  go_at_call 19
  (with_reducible refine (cr _ (VN.keep HB) (VC.keep HB) (VD.keep HB) (VG.keep HB)).mono ?_)
  rintro r W2 ⟨hM,hb2⟩
  obtain⟨L,v7,hL,rfl,I7,PO⟩:=hM.yes
  obtain⟨A7,C7,e7,RW⟩:=I7.read
  subst e7
  replace hL:st.2=L.map (·.1):=hL
  obtain⟨hRs,hLl⟩:=hst.out st rfl
  rw [hL] at hRs hLl
  rw [List.length_map] at hLl
  have hRL:∀x,x∈L->POk (n0:Int) x.1/\FG G x.1.2:=fun x hx=>hRs x.1 (List.mem_map.2 ⟨x,hx,rfl⟩)
  replace HB:=later HB hb2
  have hW2:w.heap.size<=W2.heap.size:=HB.size
  have XV2:=XV.keeps HB
  have c02:=keepsC HB c0 l0
  have c12:=keepsC HB c1 l1
  clear hb2 hM hRs I7
  dsimp only
  refine hK.out _ _ ⟨XV2,c02,c12⟩ (fun hHeld=>?_)
  clear hK K XV2 c02 c12
  refine rd 5 rfl (fun K hK=>?_);simp only[gA,gB,gC,Act.put,gD,gE,gF];go_simp
  go_at_call 20
  (with_reducible refine (cs _ (VD.keep HB) (VG.keep HB)).mono ?_)
  rintro r W3 ⟨⟨g,hg,rfl,DA⟩,hb3⟩
  replace HB:=later HB hb3
  replace RW:=RW.keep hb3
  replace PO:=PO.keep hb3
  have XV2:=XV.keeps HB
  have c02:=keepsC HB c0 l0
  have c12:=keepsC HB c1 l1
  clear hb3
  dsimp only
  refine hK.out _ _ ⟨XV2,c02,c12⟩ (fun hHeld=>?_)
  clear hK K XV2 c02 c12
  have cv:=usolved_w A7 C7 L g n0 n0 (startD G D) G hn0 (by omega) hRL hsD.out W3 RW PO DA
  have e3:allFrom [] (L.map (·.1)) (startD G D)=R:=by
   have q:=hR2.out
   rw [<-q,<-hL]
  rw [e3] at cv
  refine rd 6 rfl (fun K hK=>?_);simp only[gA,gB,gC,Act.put,gD,gE,gF];go_simp
  go_at_call 18
  (with_reducible refine cv.mono ?_)
  rintro r W4 ⟨hM,hb4⟩
  have HB4:Below w.heap.size w W4:=HB.trans (hb4.mono (by omega))
  cases R with
  | error e =>
   replace hM:r=.panicked (stopP e):=hM
   subst hM
   exact⟨rfl,rfl,HB4⟩
  | ok Y =>
   obtain⟨rfl,DY⟩:=hM
   have XV2:=XV.keeps HB4
   have c02:=keepsC HB4 c0 l0
   have c12:=keepsC HB4 c1 l1
   dsimp only
   refine hK.out _ _ ⟨XV2,c02,c12⟩ (fun hHeld=>?_)
   clear hK K XV2 c02 c12
   refine tk (v:=?_) 7 rfl ?_ hHeld ?_;rotate_left;(focus ((intro w hSw;(try dsimp only at hSw);go_simp);try with_reducible rfl));simp only[gA,gB,gC,Act.put,gD,gE,gF]
   refine wpAnyH_done (by kernel_rfl) ?_ _
   go_wp2_with fail
   go_ret
   exact⟨⟨_,rfl,g,n0,rfl,by omega,DY⟩,HB4⟩
end Go.Proofs.Ytbejmklkicoibaa
