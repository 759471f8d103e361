/- Rules solved: those that are kept, what they tell, and that all rules hold then: plain mathematics. unit.freed: a rule without the unknowns of those that are kept. -/
import Derived.Test.YtbejmklkicoibaaKe27
import Derived.Test.YtbejmklkicoibaaKe17
namespace Go.Proofs.Ytbejmklkicoibaa
def negR (e:Int×Int):Int×Int:=(-e.1,e.2)
theorem rok_neg {e:Int×Int} (h:ROk e):ROk (negR e)/\qP (negR e)=- qP e:=by
 have hn:=rightR_N h.1
 refine⟨⟨rightR_neg h.1 h.2.1, ?_,h.2.2⟩,(qR_neg e.1 e.2).symm⟩
 obtain⟨a,b⟩:=h.2.1
 show -9223372036854775808<=-e.1/\-e.1<=9223372036854775807
 omega
theorem sub_neg {e:Int×Int} (h:ROk e):subV11 0 1 e.1 e.2=((negR e).1,(negR e).2,0):=by
 unfold subV11
 rw [if_pos h.1]
 have n:=rok_neg h
 refine addV11_of rok_zero.1 n.1.1 n.1.1 n.1.2 ?_
 show -e.1*(1*e.2)=(0*e.2+-e.1*1)*e.2
 grind
def freedF (R:Pro):List (Int×Pro)->Option Pro
 | []=>some R
 | k :: ks=>if coF k.1 R.2=(0,1) then freedF R ks else (timesP R k.2 (negR (coF k.1 R.2))).bind fun Y=>freedF Y ks
theorem coF_ok {t:Int} {L:List Fac} (h:FOk L):ROk (coF t L):=by
 unfold coF
 have h2:=FOk.rest (u:=t) h
 cases hr:restF t L with
 | nil=>exact rok_zero
 | cons g K =>
  rw [hr] at h2
  dsimp only
  split
  ·exact h2 g (List.mem_cons_self ..)
  ·exact rok_zero
def FG (G:Nat->Bool) (L:List Fac):Prop:=∀f,f∈L->G f.1.toNat=false/\f.2≠(0,1)
theorem FG.nil {G:Nat->Bool}:FG G []:=fun f hf=>by cases hf
theorem FG.tail {G:Nat->Bool} {f:Fac} {L:List Fac} (h:FG G (f :: L)):FG G L:=fun k hk=>h k (List.mem_cons_of_mem _ hk)
theorem FG.append {G:Nat->Bool} {L M:List Fac} (h:FG G L) (k:FG G M):FG G (L++M):=fun f hf=>(List.mem_append.1 hf).elim (h f) (k f)
theorem low_mem {u:Int}:∀{L:List Fac} {f:Fac},f∈lowF u L->f∈L
 | [],f,h=>by cases h
 | g :: L,f,h=>by
  unfold lowF at h
  split at h
  ·rcases List.mem_cons.1 h with e | e
   ·rw [e];exact List.mem_cons_self ..
   ·exact List.mem_cons_of_mem _ (low_mem e)
  ·cases h
theorem rest_mem {u:Int}:∀{L:List Fac} {f:Fac},f∈restF u L->f∈L
 | [],f,h=>by cases h
 | g :: L,f,h=>by
  unfold restF at h
  split at h
  ·exact List.mem_cons_of_mem _ (rest_mem h)
  ·exact h
theorem FG.keep {G:Nat->Bool} {u:Int} {e:Int×Int} (h:G u.toNat=false):FG G (keepF u e):=by
 unfold keepF
 split
 ·exact FG.nil
 ·rename_i c
  intro f hf
  rw [List.mem_singleton.1 hf]
  exact⟨h,c⟩
theorem stepF_fg {G:Nat->Bool} {p:Int×Int} {f:Fac} {r:List Fac} {x:(Int×Int)×List Fac} (hr:FG G r) (h:stepF p f r=some x):FG G x.2:=by
 unfold stepF at h
 cases hm:mulO f.2 p with
 | none=>rw [hm] at h;cases h
 | some m =>
  rw [hm] at h
  match r,hr,h with
  | [],_,h=>have e:=Option.some.inj h;subst e;exact FG.nil
  | g :: a,hr,h =>
   simp only [Option.bind_some] at h
   by_cases c:g.1=f.1
   ·rw [if_pos c] at h
    cases hs:addO g.2 m with
    | none=>rw [hs] at h;cases h
    | some e=>rw [hs] at h;have e2:=Option.some.inj h;subst e2;exact hr.tail
   ·rw [if_neg c] at h
    have e:=Option.some.inj h
    subst e
    exact hr
theorem mergeF_fg {G:Nat->Bool} {p:Int×Int}:∀{b a r:List Fac},FG G a->FG G b->mergeF p a b=some r->FG G r
 | [],a,r,ha,_,h=>by have e:=Option.some.inj h;subst e;exact ha
 | f :: b,a,r,ha,hb,h=>by
  unfold mergeF at h
  cases hs:stepF p f (restF f.1 a) with
  | none=>rw [hs] at h;cases h
  | some x =>
   rw [hs] at h
   simp only [Option.bind_some] at h
   have hx:=stepF_fg (G:=G) (fun k hk=>ha k (rest_mem hk)) hs
   cases hm:mergeF p x.2 b with
   | none=>rw [hm] at h;cases h
   | some t =>
    rw [hm] at h
    have e:=Option.some.inj h
    subst e
    exact FG.append (fun k hk=>ha k (low_mem hk)) (FG.append (FG.keep (hb f (List.mem_cons_self ..)).1) (mergeF_fg hx hb.tail hm))
theorem timesP_fg {G:Nat->Bool} {a b Y:Pro} {p:Int×Int} (ha:FG G a.2) (hb:FG G b.2) (h:timesP a b p=some Y):FG G Y.2:=by
 unfold timesP at h
 by_cases z:tmF a.1 b.1 p.1 p.2 7=0
 ·rw [if_pos z] at h
  cases hm:mergedF p a.2 b.2 with
  | none=>rw [hm] at h;cases h
  | some L =>
   rw [hm] at h
   have e:=Option.some.inj h
   subst e
   unfold mergedF at hm
   by_cases c:b.2.length=0\/p=(0,1)
   ·rw [if_pos c] at hm;have e:=Option.some.inj hm;subst e;exact ha
   ·rw [if_neg c] at hm;exact mergeF_fg ha hb hm
 ·rw [if_neg z] at h;cases h
theorem dimF_fg {X:Nat->Nd} {G:Nat->Bool} {D:Nat->Nat->Int×Int} {S0:Nat->Int×Int} {Q:Nat->Pro} {x:Nd} {Y:Pro}
  (ka:1<=arG x.k->FG G (Q x.a.toNat).2) (kb:2<=arG x.k->FG G (Q x.b.toNat).2) (h:dimF X G D S0 Q x=some Y):FG G Y.2:=by
 unfold dimF at h
 by_cases c1:x.k=1
 ·rw [if_pos c1] at h;have e:=Option.some.inj h;subst e;exact FG.nil
 rw [if_neg c1] at h
 by_cases c2:x.k=2
 ·rw [if_pos c2] at h
  unfold varP at h
  refine timesP_fg ?_ FG.nil h
  cases hG:G x.v.toNat with
  | true=>rw [if_pos rfl];exact FG.nil
  | false=>rw [if_neg (by simp)];intro f hf;rw [List.mem_singleton.1 hf];exact⟨hG,by show ((1,1):Int×Int)≠(0,1);decide⟩
 rw [if_neg c2] at h
 by_cases c15:x.k=15
 ·rw [if_pos c15] at h;have e:=Option.some.inj h;subst e;exact FG.nil
 rw [if_neg c15] at h
 by_cases c3:x.k=3\/x.k=4
 ·rw [if_pos c3] at h
  have ar:arG x.k=2:=by rcases c3 with c | c <;> rw [c] <;> rfl
  have e:=Option.some.inj h
  subst e
  cases frB (X x.a.toNat) with
  | true=>exact kb (by omega)
  | false=>exact ka (by omega)
 rw [if_neg c3] at h
 by_cases c5:x.k=5
 ·rw [if_pos c5] at h
  have ar:arG x.k=2:=by rw [c5];rfl
  exact timesP_fg (ka (by omega)) (kb (by omega)) h
 rw [if_neg c5] at h
 by_cases c6:x.k=6
 ·rw [if_pos c6] at h
  have ar:arG x.k=2:=by rw [c6];rfl
  exact timesP_fg (ka (by omega)) (kb (by omega)) h
 rw [if_neg c6] at h
 by_cases c7:x.k=7
 ·rw [if_pos c7] at h
  have ar:arG x.k=1:=by rw [c7];rfl
  have e:=Option.some.inj h
  subst e
  exact ka (by omega)
 rw [if_neg c7] at h
 by_cases c8:x.k=8
 ·rw [if_pos c8] at h
  have ar:arG x.k=1:=by rw [c8];rfl
  exact timesP_fg FG.nil (ka (by omega)) h
 rw [if_neg c8] at h
 by_cases c9:x.k=9
 ·rw [if_pos c9] at h
  have ar:arG x.k=1:=by rw [c9];rfl
  exact timesP_fg FG.nil (ka (by omega)) h
 rw [if_neg c9] at h
 have e:=Option.some.inj h
 subst e
 exact FG.nil
theorem ruleF_fg {X:Nat->Nd} {G:Nat->Bool} {Q:Nat->Pro} {x:Nd} {L:List Pro}
  (ka:1<=arG x.k->FG G (Q x.a.toNat).2) (kb:2<=arG x.k->FG G (Q x.b.toNat).2) (h:ruleF X Q x=some L):∀Y,Y∈L->FG G Y.2:=by
 have none:∀Y,Y∈([]:List Pro)->FG G Y.2:=fun Y hY=>by cases hY
 unfold ruleF at h
 by_cases c3:x.k=3\/x.k=4
 ·rw [if_pos c3] at h
  have ar:arG x.k=2:=by rcases c3 with c | c <;> rw [c] <;> rfl
  cases hf:frB (X x.a.toNat) with
  | true=>rw [hf] at h;have e:=Option.some.inj h;subst e;exact none
  | false =>
   rw [hf] at h
   cases hg:frB (X x.b.toNat) with
   | true=>rw [hg] at h;have e:=Option.some.inj h;subst e;exact none
   | false =>
    rw [hg] at h
    simp only [Bool.false_eq_true,if_false] at h
    cases ht:timesP (Q x.a.toNat) (Q x.b.toNat) (-1,1) with
    | none=>rw [ht] at h;cases h
    | some Y =>
     rw [ht] at h
     have e:=Option.some.inj h
     subst e
     intro Z hZ
     rw [List.mem_singleton.1 hZ]
     exact timesP_fg (ka (by omega)) (kb (by omega)) ht
 ·rw [if_neg c3] at h
  by_cases c:10<=x.k/\x.k<=14
  ·rw [if_pos c] at h
   have ar:arG x.k=1:=by rcases (show x.k=10\/x.k=11\/x.k=12\/x.k=13\/x.k=14 by omega) with h | h | h | h | h <;> rw [h] <;> rfl
   cases hf:frB (X x.a.toNat) with
   | true=>rw [hf] at h;have e:=Option.some.inj h;subst e;exact none
   | false =>
    rw [hf] at h
    have e:=Option.some.inj h
    subst e
    intro Z hZ
    rw [List.mem_singleton.1 hZ]
    exact ka (by omega)
  ·rw [if_neg c] at h
   have e:=Option.some.inj h
   subst e
   exact none
def oneAt (t:Int) (u:Int):Rat:=if u=t then 1 else 0
theorem evF_none {t v:Int}:∀{L:List Fac} {l:Int},Rise v l L->t<l->evF (oneAt t) L=0
 | [],_,_,_=>rfl
 | f :: L,l,r,h=>by
  have:=r.1
  have c:¬f.1=t:=by omega
  simp only [evF]
  rw [evF_none r.2.2 (by omega)]
  unfold oneAt
  rw [if_neg c]
  grind
theorem co_ev {t v:Int}:∀{L:List Fac} {l:Int},Rise v l L->evF (oneAt t) L=qP (coF t L)
 | [],_,_=>by show (0:Rat)=qP (0,1);rw [qP_zero]
 | f :: L,l,r=>by
  simp only [evF]
  unfold coF restF
  by_cases c:f.1<t
  ·rw [if_pos c]
   have e:=co_ev (t:=t) r.2.2
   unfold coF at e
   rw [e]
   unfold oneAt
   rw [if_neg (by omega)]
   grind
  ·rw [if_neg c]
   dsimp only
   rw [evF_none r.2.2 (by omega)]
   unfold oneAt
   by_cases d:f.1=t
   ·rw [if_pos d,if_pos d];grind
   ·rw [if_neg d,if_neg d,qP_zero];grind
theorem co_mem {v:Int}:∀{L:List Fac} {l:Int},Rise v l L->∀f,f∈L->coF f.1 L=f.2
 | [],_,_,f,h=>by cases h
 | g :: L,l,r,f,h=>by
  unfold coF restF
  rcases List.mem_cons.1 h with e | e
  ·subst e
   rw [if_neg (by omega)]
   dsimp only
   rw [if_pos rfl]
  ·obtain⟨i,hi⟩:=List.getElem?_of_mem e
   have:=(rise_from r.2.2 i f hi).1
   rw [if_pos (by omega)]
   have q:=co_mem r.2.2 f e
   unfold coF at q
   exact q
theorem evF_zero0:∀L,evF (fun _=>0) L=0
 | []=>rfl
 | f :: L=>by simp only [evF,evF_zero0 L];grind
theorem coF_times {V:Int} {a b Y:Pro} {p:Int×Int} (ha:POk V a) (hb:POk V b) (hp:ROk p) (h:timesP a b p=some Y) (t:Int):qP (coF t Y.2)=qP (coF t a.2)+qP p*qP (coF t b.2):=by
 obtain⟨hY,q⟩:=timesP_some ha hb hp h
 have q1:=q (fun u _=>oneAt t u) 0 (by decide)
 have q0:=q (fun _ _=>0) 0 (by decide)
 unfold evP at q1 q0
 rw [evF_zero0,evF_zero0,evF_zero0] at q0
 have e1:evF (fun u=>oneAt t u) Y.2=qP (coF t Y.2):=co_ev hY.s
 have e2:evF (fun u=>oneAt t u) a.2=qP (coF t a.2):=co_ev ha.s
 have e3:evF (fun u=>oneAt t u) b.2=qP (coF t b.2):=co_ev hb.s
 rw [e1,e2,e3] at q1
 grind
structure KOk (V:Int) (G:Nat->Bool) (k:Int×Pro):Prop where
 p:POk V k.2
 l:0<=k.1
 h:k.1<V
 g:FG G k.2.2
 n:G k.1.toNat=false
 o:qP (coF k.1 k.2.2)=1
theorem freedF_some {V:Int} {G:Nat->Bool}:∀{K:List (Int×Pro)} {R Y:Pro},(∀k,k∈K->KOk V G k)->K.Pairwise (fun a b=>coF a.1 b.2.2=(0,1))->POk V R->FG G R.2->freedF R K=some Y ->
  POk V Y/\FG G Y.2/\(∀k,k∈K->coF k.1 Y.2=(0,1))/\(∀t,coF t R.2=(0,1)->(∀k,k∈K->coF t k.2.2=(0,1))->coF t Y.2=(0,1))/\∀S,(∀k,k∈K->∀e,e<7->evP S k.2 e=0)->∀e,e<7->evP S Y e=evP S R e
 | [],R,Y,_,_,hR,hG,h=>by
  have e:=Option.some.inj h
  subst e
  exact⟨hR,hG,fun k hk=>(by cases hk),fun t ht _=>ht,fun _ _ _ _=>rfl⟩
 | k :: K,R,Y,hK,hP,hR,hG,h=>by
  unfold freedF at h
  have hk:=hK k (List.mem_cons_self ..)
  have hK2:=fun j hj=>hK j (List.mem_cons_of_mem _ hj)
  obtain⟨hp1,hp2⟩:=List.pairwise_cons.1 hP
  by_cases c:coF k.1 R.2=(0,1)
  ·rw [if_pos c] at h
   obtain⟨a1,a2,a3,a4,a5⟩:=freedF_some hK2 hp2 hR hG h
   refine⟨a1,a2,fun j hj=>?_,fun t ht hj=>a4 t ht fun j hj2=>hj j (List.mem_cons_of_mem _ hj2),fun S hS=>a5 S fun j hj=>hS j (List.mem_cons_of_mem _ hj)⟩
   rcases List.mem_cons.1 hj with e | e
   ·rw [e];exact a4 k.1 c hp1
   ·exact a3 j e
  ·rw [if_neg c] at h
   cases ht:timesP R k.2 (negR (coF k.1 R.2)) with
   | none=>rw [ht] at h;cases h
   | some Z =>
    rw [ht] at h
    simp only [Option.bind_some] at h
    have ro:=coF_ok (t:=k.1) hR.f
    obtain⟨rn,qn⟩:=rok_neg ro
    obtain⟨z1,z2⟩:=timesP_some hR hk.p rn ht
    have zc:=coF_times hR hk.p rn ht
    obtain⟨a1,a2,a3,a4,a5⟩:=freedF_some hK2 hp2 z1 (timesP_fg hG hk.g ht) h
    refine⟨a1,a2,fun j hj=>?_,fun t h0 hj=>?_,fun S hS e he=>?_⟩
    ·rcases List.mem_cons.1 hj with e | e
     ·rw [e]
      refine a4 k.1 (qP_eq0 (coF_ok z1.f) ?_) hp1
      rw [zc,qn,hk.o]
      grind
     ·exact a3 j e
    ·refine a4 t (qP_eq0 (coF_ok z1.f) ?_) fun j hj2=>hj j (List.mem_cons_of_mem _ hj2)
     rw [zc,h0,hj k (List.mem_cons_self ..),qP_zero]
     grind
    ·rw [a5 S (fun j hj=>hS j (List.mem_cons_of_mem _ hj)) e he,z2 S e he,hS k (List.mem_cons_self ..) e he]
     grind
theorem fac_n0 {e:Int×Int} (h:ROk e) (n:e≠(0,1)):e.1≠0:=fun c=>n (qP_eq0 h (by unfold qP qR;rw [c];simp))
theorem keepO_some {V:Int} {G:Nat->Bool} {Y:Pro} {k:Int×Pro} (hY:POk V Y) (hG:FG G Y.2) (h:keepO Y=some k) :
  KOk V G k/\(∀t,coF t Y.2=(0,1)->coF t k.2.2=(0,1))/\∀S,(∀e,e<7->evP S k.2 e=0)->∀e,e<7->evP S Y e=0:=by
 obtain⟨E,L⟩:=Y
 cases L with
 | nil=>cases h
 | cons f L =>
  have h2:((divO (1,1) f.2).bind fun d=>(powerP (E,f :: L) d).map fun Y=>(f.1,Y))=some k:=h
  have hf:=hG f (List.mem_cons_self ..)
  have rf:=hY.f f (List.mem_cons_self ..)
  have n0:=fac_n0 rf hf.2
  cases hd:divO (1,1) f.2 with
  | none=>rw [hd] at h2;cases h2
  | some d =>
   rw [hd] at h2
   obtain⟨rd,qd⟩:=divO_one rf n0 hd
   simp only [Option.bind_some] at h2
   cases hp:powerP (E,f :: L) d with
   | none=>rw [hp] at h2;cases h2
   | some Z =>
    rw [hp] at h2
    have e:=Option.some.inj h2
    subst e
    obtain⟨z1,z2⟩:=powerP_some hY rd hp
    have zc:=coF_times (pOk_plain V) hY rd hp
    have c0:∀t,qP (coF t ([]:List Fac))=0:=fun t=>qP_zero
    have cf:coF f.1 (f :: L)=f.2:=co_mem hY.s f (List.mem_cons_self ..)
    refine⟨⟨z1,hY.s.1,hY.s.2.1,timesP_fg FG.nil hG hp,hf.1, ?_⟩,fun t ht=>?_,fun S hS e he=>?_⟩
    ·show qP (coF f.1 Z.2)=1
     rw [zc f.1]
     show qP (coF f.1 ([]:List Fac))+qP d*qP (coF f.1 (f :: L))=1
     rw [c0,cf]
     grind
    ·refine qP_eq0 (coF_ok z1.f) ?_
     show qP (coF t Z.2)=0
     rw [zc t]
     show qP (coF t ([]:List Fac))+qP d*qP (coF t (f :: L))=0
     have ht2:coF t (f :: L)=(0,1):=ht
     rw [c0,ht2,qP_zero]
     grind
    ·have q1:=hS e he
     have q2:=z2 S e he
     have q3:evP S Z e=0:=q1
     rw [q3] at q2
     have q4:evP S (E,f :: L) e=(qP d*qP f.2)*evP S (E,f :: L) e:=by rw [qd];grind
     rw [q4]
     grind
def plainB (E:Nat->Int×Int):Bool:=eqD E plE
def solveF (K:List (Int×Pro)):List Pro->Except Int (List (Int×Pro))
 | []=>.ok K
 | R :: Rs=>match freedF R K with
  | none=>.error 3
  | some Y=>match Y.2 with
   | []=>if plainB Y.1 then solveF K Rs else .error 140
   | _ :: _=>match keepO Y with
    | none=>.error 3
    | some k=>solveF (K++[k]) Rs
def toldS (D:Nat->Nat->Int×Int) (o:Int):List Fac->(Nat->Int×Int)->Option (Nat->Int×Int)
 | [],E=>some E
 | f :: L,E=>if f.1=o then toldS D o L E else if tmF E (D f.1.toNat) f.2.1 f.2.2 7=0 then toldS D o L (tmD E (D f.1.toNat) f.2.1 f.2.2 7) else none
def toldF (D:Nat->Nat->Int×Int) (k:Int×Pro):Option (Nat->Int×Int):=(toldS D k.1 k.2.2 k.2.1).bind fun E=>if tmF plE E (-1) 1 7=0 then some (tmD plE E (-1) 1 7) else none
def offF (o:Int):List Fac->List Fac
 | []=>[]
 | f :: L=>if f.1=o then offF o L else f :: offF o L
theorem off_none {o v:Int}:∀{L:List Fac} {l:Int},Rise v l L->o<l->offF o L=L
 | [],_,_,_=>rfl
 | f :: L,l,r,h=>by
  have:=r.1
  unfold offF
  rw [if_neg (by omega),off_none r.2.2 (by omega)]
theorem ev_off {o v:Int} (S:Int->Rat):∀{L:List Fac} {l:Int},Rise v l L->evF S L=qP (coF o L)*S o+evF S (offF o L)
 | [],_,_=>by
  show (0:Rat)=qP (0,1)*S o+0
  rw [qP_zero]
  grind
 | f :: L,l,r=>by
  simp only [evF]
  by_cases c:f.1=o
  ·have e:coF o (f :: L)=f.2:=by rw [<-c];exact co_mem r f (List.mem_cons_self ..)
   have e2:offF o (f :: L)=L:=by unfold offF;rw [if_pos c,off_none r.2.2 (by omega)]
   rw [e,e2,c]
  ·have e2:offF o (f :: L)=f :: offF o L:=by rw [offF,if_neg c]
   have q:=ev_off (o:=o) S r.2.2
   rw [e2]
   simp only [evF]
   by_cases d:f.1<o
   ·have e:coF o (f :: L)=coF o L:=by unfold coF;rw [restF,if_pos d]
    rw [e,q]
    grind
   ·have e:coF o (f :: L)=(0,1):=by
     unfold coF
     rw [restF,if_neg d]
     dsimp only
     rw [if_neg c]
    have e3:=off_none (o:=o) r.2.2 (by omega)
    rw [e,qP_zero,e3]
    grind
theorem evF_congr {S T:Int->Rat}:∀{L:List Fac},(∀f,f∈L->S f.1=T f.1)->evF S L=evF T L
 | [],_=>rfl
 | f :: L,h=>by
  simp only [evF]
  rw [h f (List.mem_cons_self ..),evF_congr fun g hg=>h g (List.mem_cons_of_mem _ hg)]
theorem off_mem {o:Int}:∀{L:List Fac} {f:Fac},f∈offF o L->f∈L/\f.1≠o
 | [],f,h=>by cases h
 | g :: L,f,h=>by
  unfold offF at h
  by_cases c:g.1=o
  ·rw [if_pos c] at h
   have q:=off_mem h
   exact⟨List.mem_cons_of_mem _ q.1,q.2⟩
  ·rw [if_neg c] at h
   rcases List.mem_cons.1 h with e | e
   ·rw [e];exact⟨List.mem_cons_self ..,c⟩
   ·have q:=off_mem e
    exact⟨List.mem_cons_of_mem _ q.1,q.2⟩
def sgD (D:Nat->Nat->Int×Int):Int->Nat->Rat:=fun u e=>qP (D u.toNat e)
theorem tm_ok {A B:Nat->Int×Int} {p:Int×Int} (rA:drK A 7=true) (rB:drK B 7=true) (hp:ROk p) (z:tmF A B p.1 p.2 7=0) :
  Dim64 (tmD A B p.1 p.2 7)/\drK (tmD A B p.1 p.2 7) 7=true/\∀e,e<7->qP (tmD A B p.1 p.2 7 e)=qP (A e)+qP p*qP (B e):=by
 have ok:=tmD_ok rA rB hp.1 z
 refine⟨fun i hi=>(ok i hi).2.1,drK_all 7 fun i hi=>(ok i hi).1,fun e he=>?_⟩
 have q:=(ok e he).2.2
 unfold qP
 rw [q]
 grind
theorem toldS_some {D:Nat->Nat->Int×Int} {V:Int} (hD:∀v:Nat,(v:Int)<V->Dim64 (D v)/\drK (D v) 7=true) (o:Int):∀{L:List Fac} {l:Int} {E Y:Nat->Int×Int},0<=l->Rise V l L->FOk L->Dim64 E->drK E 7=true->toldS D o L E=some Y ->
  Dim64 Y/\drK Y 7=true/\∀e,e<7->qP (Y e)=qP (E e)+evF (fun u=>sgD D u e) (offF o L)
 | [],l,E,Y,_,_,_,hE,rE,h=>by
  have e:=Option.some.inj h
  subst e
  exact⟨hE,rE,fun e _=>by show _=_+(0:Rat);grind⟩
 | f :: L,l,E,Y,h0,hr,hf,hE,rE,h=>by
  unfold toldS at h
  have:=hr.1
  have:=hr.2.1
  by_cases c:f.1=o
  ·rw [if_pos c] at h
   obtain⟨a1,a2,a3⟩:=toldS_some hD o (by omega) hr.2.2 hf.tail hE rE h
   refine⟨a1,a2,fun e he=>?_⟩
   rw [a3 e he,offF,if_pos c]
  ·rw [if_neg c] at h
   by_cases z:tmF E (D f.1.toNat) f.2.1 f.2.2 7=0
   ·rw [if_pos z] at h
    obtain⟨d1,d2⟩:=hD f.1.toNat (by omega)
    obtain⟨t1,t2,t3⟩:=tm_ok (p:=f.2) rE d2 (hf f (List.mem_cons_self ..)) z
    obtain⟨a1,a2,a3⟩:=toldS_some hD o (by omega) hr.2.2 hf.tail t1 t2 h
    refine⟨a1,a2,fun e he=>?_⟩
    rw [a3 e he,t3 e he,offF,if_neg c]
    simp only [evF]
    unfold sgD
    grind
   ·rw [if_neg z] at h;cases h
theorem toldF_some {D:Nat->Nat->Int×Int} {V:Int} {G:Nat->Bool} (hD:∀v:Nat,(v:Int)<V->Dim64 (D v)/\drK (D v) 7=true) {k:Int×Pro} (hk:KOk V G k) {Y:Nat->Int×Int} (h:toldF D k=some Y) :
  Dim64 Y/\drK Y 7=true/\∀e,e<7->evP (sgD (fun v=>if v=k.1.toNat then Y else D v)) k.2 e=0:=by
 unfold toldF at h
 cases hs:toldS D k.1 k.2.2 k.2.1 with
 | none=>rw [hs] at h;cases h
 | some E =>
  rw [hs] at h
  simp only [Option.bind_some] at h
  obtain⟨a1,a2,a3⟩:=toldS_some hD k.1 (Int.le_refl 0) hk.p.s hk.p.f hk.p.d hk.p.r hs
  by_cases z:tmF plE E (-1) 1 7=0
  ·rw [if_pos z] at h
   have e:=Option.some.inj h
   subst e
   obtain⟨t1,t2,t3⟩:=tm_ok (p:=(-1,1)) plE_ok.2 a2 rok_mone z
   refine⟨t1,t2,fun e he=>?_⟩
   have q1:=t3 e he
   have q2:=a3 e he
   have m1:qP (-1,1)=-1:=by
    have:=(rok_neg rok_1).2
    rw [qP_one] at this
    exact this
   rw [qP_pl,m1,q2] at q1
   unfold evP
   rw [ev_off (o:=k.1) _ hk.p.s,hk.o]
   have c1:evF (fun u=>sgD (fun v=>if v=k.1.toNat then tmD plE E (-1) 1 7 else D v) u e) (offF k.1 k.2.2)=evF (fun u=>sgD D u e) (offF k.1 k.2.2):=by
    refine evF_congr fun f hf=>?_
    obtain⟨m,n⟩:=off_mem hf
    obtain⟨i,hi⟩:=List.getElem?_of_mem m
    have:=(rise_from hk.p.s i f hi).1
    have:=hk.l
    unfold sgD
    dsimp only
    rw [if_neg (by omega)]
   rw [c1]
   have c2:sgD (fun v=>if v=k.1.toNat then tmD plE E (-1) 1 7 else D v) k.1 e=qP (tmD plE E (-1) 1 7 e):=by
    unfold sgD
    dsimp only
    rw [if_pos rfl]
   rw [c2,q1]
   grind
  ·rw [if_neg z] at h;cases h
def backF:List (Int×Pro)->(Nat->Nat->Int×Int)->Option (Nat->Nat->Int×Int)
 | [],D=>some D
 | k :: K,D=>(toldF D k).bind fun E=>backF K (fun v=>if v=k.1.toNat then E else D v)
end Go.Proofs.Ytbejmklkicoibaa
namespace Go.Proofs.Ytbejmklkicoibaa
open Go.ChangeShapes Go.WideShapes Go.ChangeAt Go.RowKit
abbrev KV:=(Int×Pro)×Value
def KepAt (w:World) (A:Option Addr) (L:List KV):Prop:=L≠[]->∃b cs,A=some ⟨b,0,none⟩/\BlkAt w b 82 cs/\∀(i:Nat) kv,L[i]?=some kv->∀j u,(kepL kv.1.1 kv.1.2.1 kv.2)[j]?=some u->cs[i*16+j]?=some u
theorem KepAt.keep {w W:World} {A:Option Addr} {L:List KV} (h:KepAt w A L) (k:Below w.heap.size w W):KepAt W A L:=fun hm=>by
 obtain⟨b,cs,e,l,c⟩:=h hm
 exact⟨b,cs,e,l.keeps k,c⟩
theorem KepAt.at {w:World} {A:Option Addr} {L:List KV} (h:KepAt w A L) {i:Nat} {kv:KV} (hi:L[i]?=some kv):∃b,A=some ⟨b,0,none⟩/\b<w.heap.size/\∀j u,(kepL kv.1.1 kv.1.2.1 kv.2)[j]?=some u->w.cell? ⟨b,i*16+j,none⟩=some u:=by
 obtain⟨b,cs,e,l,c⟩:=h (fun e=>by rw [e] at hi;simp at hi)
 exact⟨b,e,l.lt,fun j u hj=>l.cell _ _ (c i kv hi j u hj)⟩
def KvOk (w:World) (L:List KV):Prop:=∀x,x∈L->FSl w x.2 x.1.2.2
theorem KvOk.keep {w W:World} {L:List KV} (h:KvOk w L) (k:Below w.heap.size w W):KvOk W L:=fun x hx=>(h x hx).keep k
theorem BlkAt.ruleb {w:World} {g:Nat} {T:TypeId} {o:Int} {E:Nat->Int×Int} {s:Value} (h:BlkAt w g T (kepL o E s)):∀W,(∃n:Behind w,W=n.W)->∀j v,(proL E s)[j]?=some v->W.cell? ⟨g,0+1+j,none⟩=some v:=fun W hW j v hj=>by
 have q:=h.behind W hW (1+j) v (by rw [Nat.add_comm];exact hj)
 rw [Nat.zero_add] at q ⊢
 exact q
set_option maxRecDepth 4000 in
set_option maxHeartbeats 8000000 in
theorem ufreed_w (E:Nat->Int×Int) (Ls:List Fac) (s:Value) (A:Option Addr) (C:Nat) (L:List KV) (V:Int) (hV:0<=V/\V<=500) (hR:POk V (E,Ls)) (hL:L.length<=100000) (hK:∀x,x∈L->POk V x.1.2/\(0<=x.1.1/\x.1.1<V)) (w:World) (fs:FSl w s Ls) (VA:KepAt w A L) (VO:KvOk w L) :
  Calls Try.prog 34 #[proV E s,.slice A L.length C] w fun r w'=>PrAns r w' (freedF (E,Ls) (L.map (·.1)))/\Below w.heap.size w w':=by
 obtain⟨R,hRR⟩:∃R,Hid (freedF (E,Ls) (L.map (·.1))=R):=⟨_,rfl⟩
 rw [hRR.out]
 obtain⟨n,hn⟩:∃n,Hid (n=L.length):=⟨_,rfl⟩
 rw [<-hn.out]
 have hn5:n<=100000:=by have:=hn.out;omega
 have cw:=fun W=>uwhole_w 0 W
 have HP:Hid (POk V (E,Ls)):=hR
 have HK:Hid (∀x,x∈L->POk V x.1.2/\(0<=x.1.1/\x.1.1<V)):=hK
 have HV:Hid (0<=V/\V<=500):=hV
 obtain⟨As,cs,rfl,hcs,fas⟩:=fs
 clear hR hL hK hV
 show Calls Try.prog _ #[.agg #[.int .i64 (E 0).1,.int .i64 (E 0).2,.int .i64 (E 1).1,.int .i64 (E 1).2,.int .i64 (E 2).1,.int .i64 (E 2).2,.int .i64 (E 3).1,.int .i64 (E 3).2,.int .i64 (E 4).1,.int .i64 (E 4).2,.int .i64 (E 5).1,.int .i64 (E 5).2,.int .i64 (E 6).1,.int .i64 (E 6).2,.slice As Ls.length cs],_] w _
 obtain⟨XB,RB,HB⟩:=blks2 w 79 79 [.int .i64 (E 0).1,.int .i64 (E 0).2,.int .i64 (E 1).1,.int .i64 (E 1).2,.int .i64 (E 2).1,.int .i64 (E 2).2,.int .i64 (E 3).1,.int .i64 (E 3).2,.int .i64 (E 4).1,.int .i64 (E 4).2,.int .i64 (E 5).1,.int .i64 (E 5).2,.int .i64 (E 6).1,.int .i64 (E 6).2,.slice As Ls.length cs] [.int .i64 0,.int .i64 0,.int .i64 0,.int .i64 0,.int .i64 0,.int .i64 0,.int .i64 0,.int .i64 0,.int .i64 0,.int .i64 0,.int .i64 0,.int .i64 0,.int .i64 0,.int .i64 0,.slice none 0 0]
 go_enter Try.func34,Try.ntmps34
 go_upto_region 1 with fail
 generalize ((w.alloc (.cells #[.int .i64 (E 0).1,.int .i64 (E 0).2,.int .i64 (E 1).1,.int .i64 (E 1).2,.int .i64 (E 2).1,.int .i64 (E 2).2,.int .i64 (E 3).1,.int .i64 (E 3).2,.int .i64 (E 4).1,.int .i64 (E 4).2,.int .i64 (E 5).1,.int .i64 (E 5).2,.int .i64 (E 6).1,.int .i64 (E 6).2,.slice As Ls.length cs] 79)).alloc (.cells #[.int .i64 0,.int .i64 0,.int .i64 0,.int .i64 0,.int .i64 0,.int .i64 0,.int .i64 0,.int .i64 0,.int .i64 0,.int .i64 0,.int .i64 0,.int .i64 0,.int .i64 0,.int .i64 0,.slice none 0 0] 79))=V1 at *
 replace fas:=fas.keep HB
 replace hcs:Hid (Ls.length<=cs):=hcs
 go_wp2_with fail
 go_loopg [10] n (fun G s10 wx=>∃(i:Nat) (Y:Pro) (Ay:Option Addr) (cy:Nat),i+G=n/\s10=.int .i64 (i:Int)/\Hid (freedF Y ((L.drop i).map (·.1))=R)/\Hid (POk V Y)/\Below w.heap.size w wx/\BlkAt wx w.heap.size 79 (proL Y.1 (.slice Ay Y.2.length cy))/\BlkAt wx (w.heap.size+1) 79 [.int .i64 0,.int .i64 0,.int .i64 0,.int .i64 0,.int .i64 0,.int .i64 0,.int .i64 0,.int .i64 0,.int .i64 0,.int .i64 0,.int .i64 0,.int .i64 0,.int .i64 0,.int .i64 0,.slice none 0 0]/\Hid (Y.2.length<=cy)/\FacAt wx Ay Y.2)
 case atStart=>exact⟨0,(E,Ls),As,cs,by omega,rfl,by rw [List.drop_zero];exact hRR,HP,HB,XB,RB,hcs,fas⟩
 case round =>
  clear HB XB RB fas hcs
  obtain⟨i,Y,Ay,cy,hi,rfl,hF,hY,HB,XB,RB,hcy,fl⟩:=hrel
  by_cases ci:i=n
  ·have eR:R=some Y:=by
    have q:=hF.out
    rw [List.drop_of_length_le (by have:=hn.out;omega)] at q
    exact q.symm
   subst eR
   clear hRR hF
   subst ci
   go_wp2_with (first
    | (refine wpList_loadBig (by rfl) _ 79 (by rfl) Try.underlying79 (proL Y.1 (.slice Ay Y.2.length cy)) (by kernel_rfl) (by rfl) (XB.cell0) (pro_val _ _) ?_)
    | (refine wpList_storeBig (by rfl) _ _ 79 (by rfl) (RB) (proL Y.1 (.slice Ay Y.2.length cy)) (by kernel_rfl) (by rfl) (by rfl) (by rfl) (by rfl) ?_;rintro V2 XR hs2 hB2 hk2))
   have fl2:=fl.other RB (by decide) hk2
   exact bodyPost_ret (v:=proV Y.1 (.slice Ay Y.2.length cy)) (results_cell_row Try.results34 _ V2 (w.heap.size+1) 79 (proL Y.1 (.slice Ay Y.2.length cy)).toArray (0,0) _ (by rfl) XR Try.underlying79 (by rfl) (by kernel_rfl)) rfl ⟨Or.inl ⟨Y,_,rfl,rfl,Ay,cy,rfl,hcy.out,fl2⟩,hB2 _ _ HB (by omega)⟩
  ·have hin:i<L.length:=by have:=hn.out;omega
   obtain⟨kv,hkv⟩:∃kv,L[i]?=some kv:=⟨_,List.getElem?_eq_getElem hin⟩
   have hdr:(L.drop i).map (·.1)=kv.1 :: (L.drop (i+1)).map (·.1):=by
    have e:=List.getElem?_eq_getElem hin
    rw [hkv] at e
    rw [List.drop_eq_getElem_cons hin,<-Option.some.inj e]
    rfl
   have hF2:Hid ((if coF kv.1.1 Y.2=(0,1) then freedF Y ((L.drop (i+1)).map (·.1)) else (timesP Y kv.1.2 (negR (coF kv.1.1 Y.2))).bind fun Z=>freedF Z ((L.drop (i+1)).map (·.1)))=R):=by
    have q:=hF.out
    rw [hdr,freedF] at q
    exact q
   obtain⟨kb,hA,lk,gk2⟩:=(VA.keep HB).at hkv
   obtain⟨Ak,ck,e2,hck,fak⟩:=VO kv (List.mem_of_getElem? hkv)
   obtain⟨hk1,hk2,hk3⟩:=HK.out kv (List.mem_of_getElem? hkv)
   rw [e2] at gk2
   subst hA
   have hlt:(i:Int)<(n:Int):=by omega
   have hVV:=HV.out
   have ce:=fun W f=>uexponent_w Y.1 Ay cy Y.2 kv.1.1 V hVV ⟨by omega,by omega⟩ hY.out.s W f
   have hco:ROk (coF kv.1.1 Y.2):=coF_ok hY.out.f
   have hl1:=hY.out.s.length hVV.1
   have hl2:=hk1.s.length hVV.1
   have ct:=fun W f1 f2=>uptimes_w Y.1 kv.1.2.1 Y.2 kv.1.2.2 (.slice Ay Y.2.length cy) (.slice Ak kv.1.2.2.length ck) (negR (coF kv.1.1 Y.2)) hY.out.d hk1.d hY.out.r hk1.r (rok_neg hco).1 hY.out.f hk1.f (by omega) W f1 f2
   have HC:Hid (ROk (coF kv.1.1 Y.2)):=hco
   have HKV:Hid (POk V kv.1.2):=hk1
   have fk:FSl w (.slice Ak kv.1.2.2.length ck) kv.1.2.2:=⟨Ak,ck,rfl,hck,fak⟩
   replace hkv:Hid (L[i]?=some kv):=hkv
   clear hF hdr e2 hck fak hk1 hk2 hk3 hVV hco hl1 hl2 hin
   obtain⟨e,he⟩:∃e,Hid (coF kv.1.1 Y.2=e):=⟨_,rfl⟩
   rw [he.out] at ce ct
   rw [he.out] at hF2 HC
   clear he
   go_upto_region 4 with (first
    | (refine wpList_loadBig (by rfl) _ 82 (by rfl) Try.underlying82 (kepL kv.1.1 kv.1.2.1 (.slice Ak kv.1.2.2.length ck)) (by kernel_rfl) (by rfl) (fun j u hj=>gk2 j u hj) (kep_val _ _ _) ?_)
    | (refine wpList_storeBig (by rfl) _ _ 82 (by rfl) (blk_new _ _ _) (kepL kv.1.1 kv.1.2.1 (.slice Ak kv.1.2.2.length ck)) (by kernel_rfl) (by rfl) (by rfl) (by rfl) (by rfl) ?_;rintro V2 XR hs2 hB2 hk2))
   have XK:=XR
   have hkb:w.heap.size+1<wr.heap.size:=RB.lt
   have GA:=Below.alloc (Below.refl wr.heap.size wr) (Nat.le_refl _) (.cells #[.int .i64 0,.int .i64 0,.int .i64 0,.int .i64 0,.int .i64 0,.int .i64 0,.int .i64 0,.int .i64 0,.int .i64 0,.int .i64 0,.int .i64 0,.int .i64 0,.int .i64 0,.int .i64 0,.int .i64 0,.slice none 0 0] 82)
   replace XB:=hk2 _ _ _ (by omega) (XB.keeps GA)
   replace RB:=hk2 _ _ _ (by omega) (RB.keeps GA)
   replace HB:=hB2 _ _ (Below.alloc HB HB.size _) HB.size
   replace fl:=(fl.keep GA).other (blk_new wr 82 [.int .i64 0,.int .i64 0,.int .i64 0,.int .i64 0,.int .i64 0,.int .i64 0,.int .i64 0,.int .i64 0,.int .i64 0,.int .i64 0,.int .i64 0,.int .i64 0,.int .i64 0,.int .i64 0,.int .i64 0,.slice none 0 0]) (by decide) hk2
   obtain⟨kb2,hkb2⟩:∃kb2,kb2=wr.heap.size:=⟨_,rfl⟩
   rw [<-hkb2] at XK hkb ⊢
   clear XR hB2 hk2 hs2 hkb2 GA gk2 lk
   have xo:=XK.cell 0 _ rfl
   try simp only [Act.put]
   go_upto_region 5 with (first
    | (refine wpList_loadBig (by rfl) _ 79 (by rfl) Try.underlying79 (proL Y.1 (.slice Ay Y.2.length cy)) (by kernel_rfl) (by rfl) (XB.cell0) (pro_val _ _) ?_)
    | (go_at_call 55;(with_reducible refine (ce _ fl).mono ?_);rintro _ W4 ⟨rfl,hb1⟩;replace HB:=later HB hb1;replace RB:=RB.keeps hb1;replace XB:=XB.keeps hb1;replace XK:=XK.keeps hb1;replace fl:=fl.keep hb1;clear hb1 xo)
    | (refine wpList_storeBig (by rfl) _ _ 27 (by rfl) (blk_new _ _ _) ([.int .i64 e.1,.int .i64 e.2]) (by kernel_rfl) (by rfl) (by rfl) (by rfl) (by rfl) ?_;rintro V3 XR hs2 hB2 hk2))
   have XE:=XR
   have heb:kb2<W4.heap.size:=XK.lt
   have GA:=Below.alloc (Below.refl W4.heap.size W4) (Nat.le_refl _) (.cells #[.int .i64 0,.int .i64 0] 27)
   replace XB:=hk2 _ _ _ (by omega) (XB.keeps GA)
   replace RB:=hk2 _ _ _ (by omega) (RB.keeps GA)
   replace XK:=hk2 _ _ _ (by omega) (XK.keeps GA)
   replace HB:=hB2 _ _ (Below.alloc HB HB.size _) HB.size
   replace fl:=(fl.keep GA).other (blk_new W4 27 [.int .i64 0,.int .i64 0]) (by decide) hk2
   obtain⟨eb,heb2⟩:∃eb,eb=W4.heap.size:=⟨_,rfl⟩
   rw [<-heb2] at XE heb ⊢
   clear XR hB2 hk2 hs2 heb2 GA ce
   try simp only [Act.put]
   go_cut [20] from 18 to 20 (fun s20 wy=>s20=.bool (!decide (e=(0,1)))/\Below w.heap.size w wy/\BlkAt wy w.heap.size 79 (proL Y.1 (.slice Ay Y.2.length cy))/\BlkAt wy (w.heap.size+1) 79 [.int .i64 0,.int .i64 0,.int .i64 0,.int .i64 0,.int .i64 0,.int .i64 0,.int .i64 0,.int .i64 0,.int .i64 0,.int .i64 0,.int .i64 0,.int .i64 0,.int .i64 0,.int .i64 0,.slice none 0 0]/\BlkAt wy kb2 82 (kepL kv.1.1 kv.1.2.1 (.slice Ak kv.1.2.2.length ck))/\BlkAt wy eb 27 [.int .i64 e.1,.int .i64 e.2]/\Hid (Y.2.length<=cy)/\FacAt wy Ay Y.2)
   case first =>
    have ka:=fun n:Behind V3=>n.cell (XE.cell 0 _ rfl) XE.lt
    have kb:=fun n:Behind V3=>n.cell (XE.cell 1 _ rfl) XE.lt
    by_cases c1:e.1=0
    ·by_cases c2:e.2=1
     ·skip
      refine region_behind (by kernel_rfl) (by kernel_rfl) ?_
      repeat (go_big_quiet_step (first | (go_at_call 56;with_reducible refine Behind.call (cw _))))
      refine wpQuiet_nil ?_
      rintro _ ⟨q,rfl⟩
      obtain⟨W,hb1⟩:=q
      dsimp only
      go_wp2_with fail
      go_meet
      case rel=>exact⟨by rw [decide_eq_true (Prod.ext c1 c2:e=(0,1))];rfl,later HB hb1,XB.keeps hb1,RB.keeps hb1,XK.keeps hb1,XE.keeps hb1,hcy,fl.keep hb1⟩
     ·skip
      refine region_behind (by kernel_rfl) (by kernel_rfl) ?_
      repeat (go_big_quiet_step (first | (go_at_call 56;with_reducible refine Behind.call (cw _))))
      refine wpQuiet_nil ?_
      rintro _ ⟨q,rfl⟩
      obtain⟨W,hb1⟩:=q
      dsimp only
      go_wp2_with fail
      go_meet
      case rel=>exact⟨by rw [decide_eq_false (fun h:e=(0,1)=>c2 (by rw [h]))];rfl,later HB hb1,XB.keeps hb1,RB.keeps hb1,XK.keeps hb1,XE.keeps hb1,hcy,fl.keep hb1⟩
    ·skip
     refine region_behind (by kernel_rfl) (by kernel_rfl) ?_
     repeat (go_big_quiet_step (first | (go_at_call 56;with_reducible refine Behind.call (cw _))))
     refine wpQuiet_nil ?_
     rintro _ ⟨q,rfl⟩
     obtain⟨W,hb1⟩:=q
     dsimp only
     go_wp2_with fail
     go_meet
     case rel=>exact⟨by rw [decide_eq_false (fun h:e=(0,1)=>c1 (by rw [h]))];rfl,later HB hb1,XB.keeps hb1,RB.keeps hb1,XK.keeps hb1,XE.keeps hb1,hcy,fl.keep hb1⟩
   case rest =>
   clear HB XB RB XK XE fl hcy
   obtain⟨rfl,HB,XB,RB,XK,XE,hcy,fl⟩:=hcut
   by_cases c:e=(0,1)
   ·have hF3:Hid (freedF Y ((L.drop (i+1)).map (·.1))=R):=by
     have q:=hF2.out
     rw [if_pos c] at q
     exact q
    have cd:decide (e=(0,1))=true:=decide_eq_true c
    rw [cd]
    clear hF2 c cd
    go_wp2_with fail
    go_roundg (n-i-1)
    case measure=>omega
    case rel=>exact⟨i+1,Y,Ay,cy,by omega,by go_num,hF3,hY,HB,XB,RB,hcy,fl⟩
   ·have hF3:Hid (((timesP Y kv.1.2 (negR e)).bind fun Z=>freedF Z ((L.drop (i+1)).map (·.1)))=R):=by
     have q:=hF2.out
     rw [if_neg c] at q
     exact q
    have cd:decide (e=(0,1))=false:=decide_eq_false c
    rw [cd]
    clear hF2 c cd
    have cs:=fun W=>subRat_w 0 1 e.1 e.2 rok_zero.2 HC.out.2 W
    rw [sub_neg HC.out] at cs
    have cm:=fun W=>must_ok (negR e).1 (negR e).2 W
    have fsl:FSl wc (.slice Ay Y.2.length cy) Y.2:=⟨Ay,cy,rfl,hcy.out,fl⟩
    obtain⟨T,hT⟩:∃T,Hid (timesP Y kv.1.2 (negR e)=T):=⟨_,rfl⟩
    have ct2:∀W,FSl W (.slice Ay Y.2.length cy) Y.2->FSl W (.slice Ak kv.1.2.2.length ck) kv.1.2.2->Calls Try.prog 57 #[proV Y.1 (.slice Ay Y.2.length cy),proV kv.1.2.1 (.slice Ak kv.1.2.2.length ck),.agg #[.int .i64 (negR e).1,.int .i64 (negR e).2]] W fun r w'=>PrAns r w' T/\Below W.heap.size W w':=by
     rw [<-hT.out]
     exact ct
    rw [hT.out] at hF3
    have hTY:Hid (∀Z,T=some Z->POk V Z):=fun Z hZ=>(timesP_some hY.out HKV.out (rok_neg HC.out).1 (hT.out.trans hZ)).1
    clear ct hT HC HKV
    go_upto_region 6 with fail
    have ka:=fun n:Behind wc=>n.cell (XE.cell 0 _ rfl) XE.lt
    have kb:=fun n:Behind wc=>n.cell (XE.cell 1 _ rfl) XE.lt
    refine tail_behind 9 (by kernel_rfl) (by kernel_rfl) ?_
    simp only [List.take_succ_cons,List.take_zero,List.drop_succ_cons,List.drop_zero]
    repeat (first
     | (go_big_quiet_want;refine quiet_loadBig _ 79 (by rfl) Try.underlying79 (proL Y.1 (.slice Ay Y.2.length cy)) (by kernel_rfl) (by rfl) (XB.behind) (pro_val _ _) ?_;simp only [Act.put,List.setIfInBounds_toArray,List.set_cons_zero,List.set_cons_succ];go_big_quiet_on)
     | (go_big_quiet_want;refine quiet_loadBig _ 79 (by rfl) Try.underlying79 (proL kv.1.2.1 (.slice Ak kv.1.2.2.length ck)) (by kernel_rfl) (by rfl) (XK.ruleb) (pro_val _ _) ?_;simp only [Act.put,List.setIfInBounds_toArray,List.set_cons_zero,List.set_cons_succ];go_big_quiet_on)
     | (go_big_quiet_step (first | (go_at_call 56;with_reducible refine Behind.call (cw _)) | (go_at_call 59;with_reducible refine Behind.call (cs _)) | (go_at_call 58;with_reducible refine Behind.call (cm _)))))
    refine wpQuiet_nil ?_
    rintro _ ⟨q,rfl⟩
    obtain⟨W,hb1⟩:=q
    dsimp only
    clear ka kb cs cm
    replace HB:=later HB hb1
    replace RB:=RB.keeps hb1
    replace XB:=XB.keeps hb1
    clear XK XE fl
    replace fsl:=fsl.keep hb1
    clear hb1
    cases T with
    | none =>
     have eR:Hid (R=none):=hF3.out.symm
     go_wp2_with (go_at_call 57;(with_reducible refine (ct2 _ fsl (fk.keep HB)).mono ?_);rintro r W2 ⟨hM,hb2⟩;have hr:=hM.no;subst hr;exact⟨rfl,Or.inr ⟨eR.out,rfl⟩,later HB hb2⟩)
    | some Z =>
     replace hF3:Hid (freedF Z ((L.drop (i+1)).map (·.1))=R):=hF3
     go_wp2_with (first
      | (go_at_call 57;(with_reducible refine (ct2 _ fsl (fk.keep HB)).mono ?_);rintro r W5 ⟨hM,hb2⟩;obtain⟨s9,hr,A9,c9,rfl,hc9,fa9⟩:=hM.yes;replace hr:r=.returned (.agg (proL Z.1 (.slice A9 Z.2.length c9)).toArray):=hr;subst hr;replace HB:=later HB hb2;replace RB:=RB.keeps hb2;replace XB:=XB.keeps hb2;clear hb2 hM)
      | (refine wpList_storeBig (by rfl) _ _ 79 (by rfl) (XB) (proL Z.1 (.slice A9 Z.2.length c9)) (by kernel_rfl) (by rfl) (by rfl) (by rfl) (by rfl) ?_;rintro V9 XR hs2 hB2 hk2))
     replace RB:=hk2 _ _ _ (by omega) RB
     replace fa9:=fa9.other XB (by decide) hk2
     replace HB:=hB2 _ _ HB (Nat.le_refl _)
     go_roundg (n-i-1)
     case measure=>omega
     case rel=>exact⟨i+1,Z,A9,c9,by omega,by go_num,hF3,hTY.out Z rfl,HB,XR,RB,hc9,fa9⟩
end Go.Proofs.Ytbejmklkicoibaa
