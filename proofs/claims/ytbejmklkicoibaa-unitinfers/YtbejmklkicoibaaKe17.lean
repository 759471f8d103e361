/- Middles and widths: the program's and the reference's are the same; IvalSizes' walk. The greater the intervals are, the greater are sums and products: plain facts, end by end. Intervals hold rational numbers: sums, negatives, differences, products. The least interval of a quotient holds it, and lies in every interval that does. Products of dimensions, exactly: undone by the negative power; a power's parts are its sum. Products of unknowns, as lists of factors in rising order (unit/product.go), and what they stand for: plain mathematics. Whole structs of many cells, loaded as one value and stored into a block that was just made: laws at a list of operations. Dimensions held against each other as a whole. Tapes: one operation of a tape, and what tape's small functions answer of it. -/
import Derived.Test.YtbejmklkicoibaaKe02
import Derived.Test.YtbejmklkicoibaaKe06
import Derived.Test.YtbejmklkicoibaaKe01
import Derived.WalkKit
import Derived.Deep.CutBlock
import Derived.Deep.CutRange
import Derived.Deep.LoopGhost
import Derived.Test.YtbejmklkicoibaaKe15
import Derived.Test.YtbejmklkicoibaaKe08
import Derived.Test.YtbejmklkicoibaaKe11
import Derived.Deep.RegionHeld3
import Derived.Test.YtbejmklkicoibaaKe16
import Derived.Deep.WholeRow
import Derived.Laws.Cells
import Derived.Test.YtbejmklkicoibaaKe09
import Derived.Laws.StructEq
namespace Go.Proofs.Ytbejmklkicoibaa
open Go.ChangeShapes Go.WideShapes Go.ChangeAt Go.RowKit
structure In (xl xh ul uh:Nat):Prop where
 S:Some2 xl xh
 T:Some2 ul uh
 kl:key ul<=key xl
 kh:key xh<=key uh
 a1:xl<18446744073709551616
 a2:xh<18446744073709551616
 b1:ul<18446744073709551616
 b2:uh<18446744073709551616
def expN:Nat:=1074
def unitN:Nat:=2^expN
def iuQ:Rat:=((unitN:Int):Rat)⁻¹
def vq (k:Int):Rat:=(V k:Rat)*iuQ
def LoQ (k:Int) (x:Rat):Prop:=k=-9218868437227405312\/vq k<=x
structure Hq (p:Nat×Nat) (x:Rat):Prop where
 l1:p.1<18446744073709551616
 l2:p.2<18446744073709551616
 S:Some2 p.1 p.2
 lo:LoQ (key p.1) x
 hi:LoQ (-key p.2) (-x)
def qR (N D:Int):Rat:=(N:Rat)*(D:Rat)⁻¹
theorem qR_inv {D:Int} (h:1<=D):0<((D:Rat)⁻¹)/\(D:Rat)*(D:Rat)⁻¹=1:=by
 have p:(0:Rat)<(D:Rat):=Rat.intCast_pos.2 (by omega)
 exact⟨Rat.inv_pos.2 p,Rat.mul_inv_cancel _ (by grind)⟩
theorem qR_neg (N D:Int):-qR N D=qR (-N) D:=by
 unfold qR
 rw [Rat.intCast_neg]
 grind
theorem qR_add {aN aD bN bD xN xD:Int} (ha:1<=aD) (hb:1<=bD) (hx:1<=xD) (h:xN*(aD*bD)=(aN*bD+bN*aD)*xD):qR xN xD=qR aN aD+qR bN bD:=by
 obtain⟨a1,a2⟩:=qR_inv ha
 obtain⟨b1,b2⟩:=qR_inv hb
 obtain⟨x1,x2⟩:=qR_inv hx
 have h':(xN:Rat)*((aD:Rat)*(bD:Rat))=((aN:Rat)*(bD:Rat)+(bN:Rat)*(aD:Rat))*(xD:Rat):=by
  have:=congrArg (fun z:Int=>(z:Rat)) h
  simp only [Rat.intCast_mul,Rat.intCast_add] at this
  exact this
 unfold qR
 generalize (aD:Rat)⁻¹=s at *
 generalize (bD:Rat)⁻¹=t at *
 generalize (xD:Rat)⁻¹=r at *
 grind
theorem qR_mul {aN aD bN bD xN xD:Int} (ha:1<=aD) (hb:1<=bD) (hx:1<=xD) (h:xN*(aD*bD)=(aN*bN)*xD):qR xN xD=qR aN aD*qR bN bD:=by
 obtain⟨a1,a2⟩:=qR_inv ha
 obtain⟨b1,b2⟩:=qR_inv hb
 obtain⟨x1,x2⟩:=qR_inv hx
 have h':(xN:Rat)*((aD:Rat)*(bD:Rat))=((aN:Rat)*(bN:Rat))*(xD:Rat):=by
  have:=congrArg (fun z:Int=>(z:Rat)) h
  simp only [Rat.intCast_mul] at this
  exact this
 unfold qR
 generalize (aD:Rat)⁻¹=s at *
 generalize (bD:Rat)⁻¹=t at *
 generalize (xD:Rat)⁻¹=r at *
 grind
end Go.Proofs.Ytbejmklkicoibaa
namespace Go.Proofs.Ytbejmklkicoibaa
theorem qR_inj {aN aD bN bD:Int} (ha:1<=aD) (hb:1<=bD) (h:qR aN aD=qR bN bD):aN*bD=bN*aD:=by
 obtain⟨_,e1⟩:=qR_inv ha
 obtain⟨_,e2⟩:=qR_inv hb
 unfold qR at h
 have:(aN:Rat)*(bD:Rat)=(bN:Rat)*(aD:Rat):=by grind
 rw [<-Rat.intCast_mul,<-Rat.intCast_mul] at this
 exact Rat.intCast_inj.1 this
theorem ofV_err2 (g:Bool) (n d:Nat):(ofV g n d).2.2=0\/(ofV g n d).2.2=3:=by
 unfold ofV
 split
 ·exact Or.inl rfl
 ·split
  ·exact Or.inl rfl
  ·exact Or.inr rfl
theorem mulV11_err {aN aD bN bD:Int} (ha:rightR aN aD=true) (hb:rightR bN bD=true):(mulV11 aN aD bN bD).2.2=0\/(mulV11 aN aD bN bD).2.2=3:=by
 unfold mulV11
 rw [ha,hb,Bool.and_self,if_pos rfl]
 exact ofV_err2 _ _ _
theorem addV11_err {aN aD bN bD:Int} (ha:rightR aN aD=true) (hb:rightR bN bD=true):(addV11 aN aD bN bD).2.2=0\/(addV11 aN aD bN bD).2.2=3:=by
 unfold addV11
 rw [ha,hb,Bool.and_self,if_pos rfl]
 exact ofV_err2 _ _ _
theorem tri_ext {α β γ:Type} {t:α×β×γ} {c:γ} (h:t.2.2=c):t=(t.1,t.2.1,c):=by
 obtain⟨a,b,d⟩:=t
 dsimp only at h
 rw [h]
theorem tmE_ok {A B:Nat->Int×Int} {pN pD:Int} {i:Nat} (ha:rightR (A i).1 (A i).2=true) (hb:rightR (B i).1 (B i).2=true) (hp:rightR pN pD=true) (h:(tmE A B pN pD i).2.2=0) :
  rightR (tmE A B pN pD i).1 (tmE A B pN pD i).2.1=true/\(I64 (tmE A B pN pD i).1/\I64 (tmE A B pN pD i).2.1)/\qR (tmE A B pN pD i).1 (tmE A B pN pD i).2.1=qR (A i).1 (A i).2+qR (B i).1 (B i).2*qR pN pD:=by
 have p1:=rightR_D ha
 have p2:=rightR_D hb
 have p3:=rightR_D hp
 by_cases c:(mulV11 (B i).1 (B i).2 pN pD).2.2=0
 ·obtain⟨r1,q1, -⟩:=mulV11_ok hb hp (tri_ext c)
  have e:tmE A B pN pD i=addV11 (A i).1 (A i).2 (mulV11 (B i).1 (B i).2 pN pD).1 (mulV11 (B i).1 (B i).2 pN pD).2.1:=by rw [tmE,if_pos c]
  rw [e] at h ⊢
  obtain⟨r2,q2,i2⟩:=addV11_ok ha r1 (tri_ext h)
  have p4:=rightR_D r1
  have p5:=rightR_D r2
  exact⟨r2,i2,by rw [qR_add p1 p4 p5 q2,qR_mul p2 p3 p4 q1]⟩
 ·rw [tmE,if_neg c] at h
  exact absurd h c
theorem tmE_err {A B:Nat->Int×Int} {pN pD:Int} {i:Nat} (ha:rightR (A i).1 (A i).2=true) (hb:rightR (B i).1 (B i).2=true) (hp:rightR pN pD=true):(tmE A B pN pD i).2.2=0\/(tmE A B pN pD i).2.2=3:=by
 by_cases c:(mulV11 (B i).1 (B i).2 pN pD).2.2=0
 ·obtain⟨r1,q1, -⟩:=mulV11_ok hb hp (tri_ext c)
  rw [tmE,if_pos c]
  exact addV11_err ha r1
 ·rw [tmE,if_neg c]
  rcases mulV11_err hb hp with h | h
  ·exact absurd h c
  ·exact Or.inr h
theorem tmF_zero {A B:Nat->Int×Int} {pN pD:Int}:∀{n:Nat},tmF A B pN pD n=0->∀i,i<n->(tmE A B pN pD i).2.2=0
 | 0,_,i,hi=>by omega
 | n+1,h,i,hi=>by
  rw [tmF] at h
  by_cases c:tmF A B pN pD n=0
  ·rw [if_pos c] at h
   by_cases d:i=n
   ·subst d;exact h
   ·exact tmF_zero c i (by omega)
  ·rw [if_neg c] at h
   exact absurd h c
theorem tmF_err {A B:Nat->Int×Int} {pN pD:Int} (ha:drK A 7=true) (hb:drK B 7=true) (hp:rightR pN pD=true):∀n,n<=7->tmF A B pN pD n=0\/tmF A B pN pD n=3
 | 0,_=>Or.inl rfl
 | n+1,h=>by
  rw [tmF]
  split
  ·exact tmE_err (drK_yes ha n (by omega)) (drK_yes hb n (by omega)) hp
  ·exact tmF_err ha hb hp n (by omega)
theorem tmD_ok {A B:Nat->Int×Int} {pN pD:Int} (ha:drK A 7=true) (hb:drK B 7=true) (hp:rightR pN pD=true) (h:tmF A B pN pD 7=0) (i:Nat) (hi:i<7) :
  rightR (tmD A B pN pD 7 i).1 (tmD A B pN pD 7 i).2=true/\(I64 (tmD A B pN pD 7 i).1/\I64 (tmD A B pN pD 7 i).2)/\qR (tmD A B pN pD 7 i).1 (tmD A B pN pD 7 i).2=qR (A i).1 (A i).2+qR (B i).1 (B i).2*qR pN pD:=by
 have e:tmD A B pN pD 7 i=((tmE A B pN pD i).1,(tmE A B pN pD i).2.1):=by rw [tmD,if_pos hi]
 rw [e]
 exact tmE_ok (drK_yes ha i hi) (drK_yes hb i hi) hp (tmF_zero h i hi)
theorem drK_all {E:Nat->Int×Int}:∀n,(∀i,i<n->rightR (E i).1 (E i).2=true)->drK E n=true
 | 0,_=>rfl
 | n+1,h=>by rw [drK,drK_all n (fun i hi=>h i (by omega)),h n (by omega)];rfl
theorem pair_same {a b:Int×Int} (ha:rightR a.1 a.2=true) (hb:rightR b.1 b.2=true) (ia:I64 a.1/\I64 a.2) (ib:I64 b.1/\I64 b.2) (h:qR a.1 a.2=qR b.1 b.2):a=b:=by
 obtain⟨h1,h2⟩:=rat_same ha hb ia ib (qR_inj (rightR_D ha) (rightR_D hb) h)
 exact Prod.ext h1 h2
end Go.Proofs.Ytbejmklkicoibaa
namespace Go.Proofs.Ytbejmklkicoibaa
def mulO (a p:Int×Int):Option (Int×Int):=if (mulV11 a.1 a.2 p.1 p.2).2.2=0 then some ((mulV11 a.1 a.2 p.1 p.2).1,(mulV11 a.1 a.2 p.1 p.2).2.1) else none
def addO (a p:Int×Int):Option (Int×Int):=if (addV11 a.1 a.2 p.1 p.2).2.2=0 then some ((addV11 a.1 a.2 p.1 p.2).1,(addV11 a.1 a.2 p.1 p.2).2.1) else none
def ROk (a:Int×Int):Prop:=rightR a.1 a.2=true/\(I64 a.1/\I64 a.2)
def qP (a:Int×Int):Rat:=qR a.1 a.2
theorem rok_one {n:Int} (h:I64 n) (h2:n≠-9223372036854775808):ROk (n,1):=by
 refine⟨?_,h,⟨by show (-9223372036854775808:Int)<=1;decide,by show (1:Int)<=9223372036854775807;decide⟩⟩
 unfold rightR
 simp [h2]
theorem rok_zero:ROk (0,1):=rok_one (by constructor <;> decide) (by decide)
theorem qP_zero:qP (0,1)=0:=by unfold qP qR;simp
theorem qP_one:qP (1,1)=1:=by unfold qP qR;simp;grind
theorem qP_inj {a b:Int×Int} (ha:ROk a) (hb:ROk b) (h:qP a=qP b):a=b:=pair_same ha.1 hb.1 ha.2 hb.2 h
theorem qP_eq0 {a:Int×Int} (ha:ROk a) (h:qP a=0):a=(0,1):=qP_inj ha rok_zero (h.trans qP_zero.symm)
theorem mulO_some {a p m:Int×Int} (ha:ROk a) (hp:ROk p) (h:mulO a p=some m):ROk m/\qP m=qP a*qP p:=by
 unfold mulO at h
 by_cases c:(mulV11 a.1 a.2 p.1 p.2).2.2=0
 ·rw [if_pos c] at h
  have e:=Option.some.inj h
  obtain⟨r,q,i⟩:=mulV11_ok ha.1 hp.1 (tri_ext c)
  subst e
  exact⟨⟨r,i⟩,qR_mul (rightR_D ha.1) (rightR_D hp.1) (rightR_D r) q⟩
 ·rw [if_neg c] at h;cases h
theorem addO_some {a p m:Int×Int} (ha:ROk a) (hp:ROk p) (h:addO a p=some m):ROk m/\qP m=qP a+qP p:=by
 unfold addO at h
 by_cases c:(addV11 a.1 a.2 p.1 p.2).2.2=0
 ·rw [if_pos c] at h
  have e:=Option.some.inj h
  obtain⟨r,q,i⟩:=addV11_ok ha.1 hp.1 (tri_ext c)
  subst e
  exact⟨⟨r,i⟩,qR_add (rightR_D ha.1) (rightR_D hp.1) (rightR_D r) q⟩
 ·rw [if_neg c] at h;cases h
theorem mulO_cases {a p:Int×Int} (ha:ROk a) (hp:ROk p):(∃m,mulO a p=some m/\mulV11 a.1 a.2 p.1 p.2=(m.1,m.2,0))\/(mulO a p=none/\(mulV11 a.1 a.2 p.1 p.2).2.2=3):=by
 unfold mulO
 rcases mulV11_err ha.1 hp.1 with h | h
 ·exact Or.inl ⟨_,if_pos h,tri_ext h⟩
 ·exact Or.inr ⟨if_neg (by rw [h];decide),h⟩
theorem addO_cases {a p:Int×Int} (ha:ROk a) (hp:ROk p):(∃m,addO a p=some m/\addV11 a.1 a.2 p.1 p.2=(m.1,m.2,0))\/(addO a p=none/\(addV11 a.1 a.2 p.1 p.2).2.2=3):=by
 unfold addO
 rcases addV11_err ha.1 hp.1 with h | h
 ·exact Or.inl ⟨_,if_pos h,tri_ext h⟩
 ·exact Or.inr ⟨if_neg (by rw [h];decide),h⟩
abbrev Fac:=Int×(Int×Int)
def lowF (u:Int):List Fac->List Fac
 | []=>[]
 | f :: L=>if f.1<u then f :: lowF u L else []
def restF (u:Int):List Fac->List Fac
 | []=>[]
 | f :: L=>if f.1<u then restF u L else f :: L
theorem low_rest (u:Int):∀L,lowF u L++restF u L=L
 | []=>rfl
 | f :: L=>by
  unfold lowF restF
  by_cases c:f.1<u
  ·rw [if_pos c,if_pos c,List.cons_append,low_rest u L]
  ·rw [if_neg c,if_neg c,List.nil_append]
def keepF (u:Int) (e:Int×Int):List Fac:=if e=(0,1) then [] else [(u,e)]
def stepF (p:Int×Int) (f:Fac) (r:List Fac):Option ((Int×Int)×List Fac) :=
 (mulO f.2 p).bind fun m=>match r with
  | []=>some (m,[])
  | g :: a=>if g.1=f.1 then (addO g.2 m).map fun e=>(e,a) else some (m,g :: a)
def mergeF (p:Int×Int):List Fac->List Fac->Option (List Fac)
 | a,[]=>some a
 | a,f :: b=>(stepF p f (restF f.1 a)).bind fun x=>(mergeF p x.2 b).map fun r=>lowF f.1 a++(keepF f.1 x.1++r)
def mergedF (p:Int×Int) (a b:List Fac):Option (List Fac):=if b.length=0\/p=(0,1) then some a else mergeF p a b
def FOk (L:List Fac):Prop:=∀f,f∈L->ROk f.2
def Rise (v:Int):Int->List Fac->Prop
 | _,[]=>True
 | l,f :: L=>l<=f.1/\f.1<v/\Rise v (f.1+1) L
theorem Rise.mono {v l k:Int} (h:k<=l):∀{L:List Fac},Rise v l L->Rise v k L
 | [],_=>trivial
 | _ :: _,r=>⟨Int.le_trans h r.1,r.2⟩
theorem Rise.length {v:Int}:∀{L:List Fac} {l:Int},Rise v l L->l<=v->(L.length:Int)<=v-l
 | [],l,_,h=>by simp;omega
 | f :: L,l,r,h=>by
  have:=Rise.length r.2.2 (by have:=r.2.1;omega)
  have:=r.1
  simp only [List.length_cons]
  omega
theorem Rise.low {v u:Int}:∀{L:List Fac} {l:Int},Rise v l L->∀{R:List Fac},Rise v u R->l<=u->Rise v l (lowF u L++R)
 | [],l,_,R,hR,hl=>hR.mono hl
 | f :: L,l,r,R,hR,hl=>by
  unfold lowF
  by_cases c:f.1<u
  ·rw [if_pos c]
   exact⟨r.1,r.2.1,Rise.low r.2.2 hR (by omega)⟩
  ·rw [if_neg c]
   exact hR.mono hl
theorem Rise.rest {v u:Int}:∀{L:List Fac} {l:Int},Rise v l L->Rise v u (restF u L)
 | [],_,_=>trivial
 | f :: L,l,r=>by
  unfold restF
  by_cases c:f.1<u
  ·rw [if_pos c];exact Rise.rest r.2.2
  ·rw [if_neg c];exact⟨by omega,r.2⟩
theorem FOk.low {u:Int}:∀{L:List Fac},FOk L->FOk (lowF u L)
 | [],_=>fun f hf=>by cases hf
 | f :: L,h=>by
  unfold lowF
  split
  ·intro g hg
   rcases List.mem_cons.1 hg with e | e
   ·rw [e];exact h f (List.mem_cons_self ..)
   ·exact FOk.low (fun k hk=>h k (List.mem_cons_of_mem _ hk)) g e
  ·intro g hg;cases hg
theorem FOk.rest {u:Int}:∀{L:List Fac},FOk L->FOk (restF u L)
 | [],_=>fun f hf=>by cases hf
 | f :: L,h=>by
  unfold restF
  split
  ·exact FOk.rest (fun k hk=>h k (List.mem_cons_of_mem _ hk))
  ·exact h
theorem FOk.append {L M:List Fac} (h:FOk L) (k:FOk M):FOk (L++M):=fun f hf=>(List.mem_append.1 hf).elim (h f) (k f)
theorem FOk.tail {f:Fac} {L:List Fac} (h:FOk (f :: L)):FOk L:=fun k hk=>h k (List.mem_cons_of_mem _ hk)
theorem FOk.keep {u:Int} {e:Int×Int} (h:ROk e):FOk (keepF u e):=by
 unfold keepF
 split
 ·intro f hf;cases hf
 ·intro f hf
  rw [List.mem_singleton.1 hf]
  exact h
def evF (S:Int->Rat):List Fac->Rat
 | []=>0
 | f :: L=>qP f.2*S f.1+evF S L
theorem evF_append (S:Int->Rat):∀L M,evF S (L++M)=evF S L+evF S M
 | [],M=>by simp only [List.nil_append,evF];grind
 | f :: L,M=>by simp only [List.cons_append,evF,evF_append S L M];grind
theorem evF_keep (S:Int->Rat) (u:Int) (e:Int×Int):evF S (keepF u e)=qP e*S u:=by
 unfold keepF
 split
 ·rename_i h
  rw [h,qP_zero]
  simp only [evF];grind
 ·simp only [evF];grind
theorem stepF_some {p:Int×Int} {f:Fac} {r:List Fac} {x:(Int×Int)×List Fac} (hp:ROk p) (hf:ROk f.2) (hr:FOk r) {v:Int} (rr:Rise v f.1 r) (h:stepF p f r=some x) :
  ROk x.1/\FOk x.2/\Rise v (f.1+1) x.2/\∀S,qP x.1*S f.1+evF S x.2=evF S r+qP p*(qP f.2*S f.1):=by
 unfold stepF at h
 cases hm:mulO f.2 p with
 | none=>rw [hm] at h;cases h
 | some m =>
  rw [hm] at h
  obtain⟨rm,qm⟩:=mulO_some hf hp hm
  match r,hr,rr,h with
  | [],_,_,h =>
   have e:=Option.some.inj h
   subst e
   have n0:FOk []:=fun k hk=>by cases hk
   exact⟨rm,n0,trivial,fun S=>by show qP m*S f.1+evF S []=_;simp only [evF];rw [qm];grind⟩
  | g :: a,hr,rr,h =>
   simp only [Option.bind_some] at h
   by_cases c:g.1=f.1
   ·rw [if_pos c] at h
    cases hs:addO g.2 m with
    | none=>rw [hs] at h;cases h
    | some e =>
     rw [hs] at h
     have e2:=Option.some.inj h
     subst e2
     obtain⟨re,qe⟩:=addO_some (hr g (List.mem_cons_self ..)) rm hs
     refine⟨re,hr.tail,by rw [<-c];exact rr.2.2,fun S=>?_⟩
     simp only [evF]
     rw [qe,qm,c]
     grind
   ·rw [if_neg c] at h
    have e:=Option.some.inj h
    subst e
    refine⟨rm,hr,⟨by have:=rr.1;omega,rr.2⟩,fun S=>?_⟩
    simp only [evF]
    rw [qm]
    grind
theorem mergeF_some {p:Int×Int} (hp:ROk p) {v:Int}:∀{b a r:List Fac} {l:Int},FOk a->FOk b->Rise v l a->Rise v l b->mergeF p a b=some r ->
  FOk r/\Rise v l r/\∀S,evF S r=evF S a+qP p*evF S b
 | [],a,r,l,ha,_,ra,_,h=>by
  have e:=Option.some.inj h
  subst e
  exact⟨ha,ra,fun S=>by simp only [evF];grind⟩
 | f :: b,a,r,l,ha,hb,ra,rb,h=>by
  unfold mergeF at h
  cases hs:stepF p f (restF f.1 a) with
  | none=>rw [hs] at h;cases h
  | some x =>
   rw [hs] at h
   simp only [Option.bind_some] at h
   obtain⟨x1,x2,x3,x4⟩:=stepF_some hp (hb f (List.mem_cons_self ..)) ha.rest ra.rest hs
   cases hm:mergeF p x.2 b with
   | none=>rw [hm] at h;cases h
   | some t =>
    rw [hm] at h
    have e:=Option.some.inj h
    subst e
    obtain⟨t1,t2,t3⟩:=mergeF_some hp x2 hb.tail x3 rb.2.2 hm
    refine⟨(FOk.low ha).append ((FOk.keep x1).append t1), ?_,fun S=>?_⟩
    ·refine Rise.low ra ?_ rb.1
     unfold keepF
     split
     ·exact t2.mono (by omega)
     ·exact⟨Int.le_refl _,rb.2.1,t2⟩
    ·rw [evF_append,evF_append,evF_keep,t3]
     have e1:=evF_append S (lowF f.1 a) (restF f.1 a)
     rw [low_rest] at e1
     have e2:=x4 S
     simp only [evF]
     grind
theorem mergedF_some {p:Int×Int} (hp:ROk p) {v:Int} {b a r:List Fac} {l:Int} (ha:FOk a) (hb:FOk b) (ra:Rise v l a) (rb:Rise v l b) (h:mergedF p a b=some r) :
  FOk r/\Rise v l r/\∀S,evF S r=evF S a+qP p*evF S b:=by
 unfold mergedF at h
 by_cases c:b.length=0\/p=(0,1)
 ·rw [if_pos c] at h
  have e:=Option.some.inj h
  subst e
  refine⟨ha,ra,fun S=>?_⟩
  rcases c with c | c
  ·have:b=[]:=List.eq_nil_of_length_eq_zero c
   rw [this]
   simp only [evF];grind
  ·rw [c,qP_zero];grind
 ·rw [if_neg c] at h
  exact mergeF_some hp ha hb ra rb h
end Go.Proofs.Ytbejmklkicoibaa
namespace Go.Proofs.Ytbejmklkicoibaa
open Go.ChangeShapes Go.WideShapes Go.ChangeAt Go.RowKit
section
variable {P:Program} {ops:Array Oper} {Q:Exit->Act->World->Prop} {a:Act} {w:World} {rest:List Oper} {o:Oper}
theorem add_plain (b o j:Nat):(⟨b,o,none⟩:Addr).add j=⟨b,o+j,none⟩:=by
 unfold Addr.add;split <;> simp_all
theorem load_big {T:TypeId} {fs:_} (hu:P.underlying T=some (.struct fs)) {cs:List Value} (hi:(P.info? T).map (·.size)=some cs.length) {b off:Nat} (hc:∀j v,cs[j]?=some v->w.cell? ⟨b,off+j,none⟩=some v) :
  (loadVar T ⟨b,off,none⟩).run P w=.ok (.agg cs.toArray) w:=by
 have hl:(loadCells ⟨b,off,none⟩ cs.length).run P w=.ok cs.toArray w :=
  run_loadCells_list (P:=P) w ⟨b,off,none⟩ cs (fun j v hv=>by rw [add_plain];exact hc j v hv)
 cases hq:P.info? T with
 | none=>simp [hq] at hi
 | some i =>
  have hs:i.size=cs.length:=by simpa [hq] using hi
  simp [loadVar,isAgg,underlying,sizeOf,typeInfo,hq,hu,hs,hl]
theorem wpList_loadBig (hgd:Region.wanted o (yielded ops a.tmps)=true) (p:Operand) (T:TypeId) (ho:o.op=.load T p) {fs:_} (hu:P.underlying T=some (.struct fs)) (cs:List Value) (hi:(P.info? T).map (·.size)=some cs.length) {b off:Nat} (hp:a.eval p=.pointer (some ⟨b,off,none⟩))
  (hc:∀j v,cs[j]?=some v->w.cell? ⟨b,off+j,none⟩=some v) {V:Value} (hV:V=.agg cs.toArray) (h:wpList P ops Q rest (a.put o.dst V) w):wpList P ops Q (o :: rest) a w:=by
 subst hV
 refine wpList_step fun K hK=>?_
 rw [if_pos hgd]
 unfold Oper.wp
 obtain⟨dst,op,ty,pos,after,guard⟩:=o
 simp only at ho
 subst ho
 have e:(Instr.loadAt T (.pointer (some ⟨b,off,none⟩))).run P w=.ok (.agg cs.toArray) w:=by
  simp only [Instr.loadAt,Instr.sureAddr,Sem.run_bind,Sem.run_pure,Result.andThen]
  exact load_big hu hi hc
 have e2:(execOp a.eval ⟨dst,.load T p,ty,pos,after,guard⟩).run P w=.ok (.value (.agg cs.toArray)) w:=by
  simp only [execOp,hp,Sem.run_bind,e,Result.andThen,Sem.run_pure]
 rw [e2]
 exact hK _ _ h
def BlkAt (w:World) (g:Nat) (T:TypeId) (cs:List Value):Prop:=w.heap[g]?=some (.cells cs.toArray T (0,0))
theorem BlkAt.lt {g:Nat} {T:TypeId} {cs:List Value} (h:BlkAt w g T cs):g<w.heap.size:=(Array.getElem?_eq_some_iff.1 h).1
theorem BlkAt.cell {g:Nat} {T:TypeId} {cs:List Value} (h:BlkAt w g T cs) (j:Nat) (v:Value) (hv:cs[j]?=some v):w.cell? ⟨g,j,none⟩=some v:=by
 rw [cell_of_row w g j cs.toArray T (0,0) h]
 simpa using hv
theorem BlkAt.cell0 {g:Nat} {T:TypeId} {cs:List Value} (h:BlkAt w g T cs) (j:Nat) (v:Value) (hv:cs[j]?=some v):w.cell? ⟨g,0+j,none⟩=some v:=by rw [Nat.zero_add];exact h.cell j v hv
theorem BlkAt.froz {g:Nat} {T:TypeId} {cs:List Value} (h:BlkAt w g T cs) (j:Nat):w.frozen? ⟨g,j,none⟩=false:=frozen_of_row w g j cs.toArray T h
theorem BlkAt.keep {W:World} {B g:Nat} {T:TypeId} {cs:List Value} (h:BlkAt w g T cs) (k:Below B w W) (hB:g<B):BlkAt W g T cs:=(k.block g hB).trans h
theorem BlkAt.keeps {W:World} {g:Nat} {T:TypeId} {cs:List Value} (h:BlkAt w g T cs) (k:Below w.heap.size w W):BlkAt W g T cs:=h.keep k h.lt
theorem blk_new (w:World) (T:TypeId) (cs:List Value):BlkAt (w.alloc (.cells cs.toArray T)) w.heap.size T cs:=heap_alloc_last w _
theorem BlkAt.set {g:Nat} {T:TypeId} {cs cs2:List Value} (h:BlkAt w g T cs):BlkAt (w.setRow g cs2.toArray) g T cs2:=by
 show (w.heap.modify g _)[g]?=_
 rw [Array.getElem?_modify,if_pos rfl,h]
 rfl
theorem BlkAt.far {g k:Nat} {T:TypeId} {cs:List Value} (h:BlkAt w k T cs) (hne:g≠k) (x:Array Value):BlkAt (w.setRow g x) k T cs:=by
 show (w.heap.modify g _)[k]?=_
 rw [Array.getElem?_modify,if_neg hne]
 exact h
theorem below_setRow {B g:Nat} {w0:World} (h:Below B w0 w) (hB:B<=g) (x:Array Value):Below B w0 (w.setRow g x) :=
 ⟨h.os,h.tape,h.output,by show w0.heap.size<=(w.heap.modify g _).size;rw [Array.size_modify];exact h.size,fun k hk=>by
  show (w.heap.modify g _)[k]?=_
  rw [Array.getElem?_modify,if_neg (by omega)]
  exact h.block k hk⟩
theorem wpList_storeBig (hgd:Region.wanted o (yielded ops a.tmps)=true) (p v:Operand) (T:TypeId) (ho:o.op=.store T p v) {g:Nat} {T':TypeId} {old:List Value} (hrow:BlkAt w g T' old) (cs:List Value) (hi:(P.info? T).map (·.size)=some cs.length) (ho2:old.length=cs.length)
  (hp:a.eval p=.pointer (some ⟨g,0,none⟩)) (hv:a.eval v=.agg cs.toArray) (h1:cs.all (·.oneCell')=true)
  (h:∀W,BlkAt W g T' cs->W.heap.size=w.heap.size->(∀B w0,Below B w0 w->B<=g->Below B w0 W)->(∀k Tk ck,g≠k->BlkAt w k Tk ck->BlkAt W k Tk ck)->wpList P ops Q rest (a.put o.dst undef) W):wpList P ops Q (o :: rest) a w:=by
 refine wpList_step fun K hK=>?_
 rw [if_pos hgd]
 unfold Oper.wp
 obtain⟨dst,op,ty,pos,after,guard⟩:=o
 simp only at ho
 subst ho
 have hs:=run_storeVar_row (P:=P) w g T' T old.toArray cs.toArray hrow (by simpa using hi) (by simpa using ho2) (by simpa using h1)
 have e:(Instr.storeAt T (.pointer (some ⟨g,0,none⟩)) (.agg cs.toArray)).run P w=.ok () (w.setRow g cs.toArray):=by
  simp only [Instr.storeAt,Instr.sureAddr,Sem.run_bind,Sem.run_pure,Result.andThen]
  exact hs
 have e2:(execOp a.eval ⟨dst,.store T p v,ty,pos,after,guard⟩).run P w=.ok .skip (w.setRow g cs.toArray):=by
  simp only [execOp,hp,hv,Sem.run_bind,e,Result.andThen,Sem.run_pure]
 rw [e2]
 exact hK _ _ (h _ hrow.set (by show (w.heap.modify g _).size=_;rw [Array.size_modify]) (fun B w0 hb hB=>below_setRow hb hB _) (fun k Tk ck hne hk=>hk.far hne _))
end
def eqR (a b:Int×Int):Bool:=a.1==b.1&&a.2==b.2
def eqD (E F:Nat->Int×Int):Bool:=eqR (E 0) (F 0)&&(eqR (E 1) (F 1)&&(eqR (E 2) (F 2)&&(eqR (E 3) (F 3)&&(eqR (E 4) (F 4)&&(eqR (E 5) (F 5)&&eqR (E 6) (F 6))))))
theorem eqR_iff {a b:Int×Int}:eqR a b=true↔a=b:=by
 unfold eqR
 obtain⟨a1,a2⟩:=a
 obtain⟨b1,b2⟩:=b
 simp
theorem eqD_iff {E F:Nat->Int×Int}:eqD E F=true↔∀i,i<7->E i=F i:=by
 unfold eqD
 simp only [Bool.and_eq_true,eqR_iff]
 constructor
 ·rintro ⟨h0,h1,h2,h3,h4,h5,h6⟩ i hi
  match i,hi with
  | 0,_=>exact h0
  | 1,_=>exact h1
  | 2,_=>exact h2
  | 3,_=>exact h3
  | 4,_=>exact h4
  | 5,_=>exact h5
  | 6,_=>exact h6
 ·intro h
  exact⟨h 0 (by decide),h 1 (by decide),h 2 (by decide),h 3 (by decide),h 4 (by decide),h 5 (by decide),h 6 (by decide)⟩
theorem eqD_self (E:Nat->Int×Int):eqD E E=true:=eqD_iff.2 fun _ _=>rfl
theorem if_eq_ok {a b:Int} {t:Bool} {w:World}:(if a=b then Result.ok t w else Result.ok false w)=Result.ok (a==b&&t) w:=by
 by_cases c:a=b
 ·rw [if_pos c,beq_iff_eq.2 c,Bool.true_and]
 ·rw [if_neg c,beq_eq_false_iff_ne.2 c,Bool.false_and]
theorem run_equal_arr (d:Nat) (E F:Nat->Int×Int) (w:World):(Op.equalIn (d+3) 28 (.agg (dimC E)) (.agg (dimC F))).run Try.prog w=.ok (eqD E F) w:=by
 rw [Op.equalIn]
 unfold dimC
 simp [go_sem,Std.Legacy.Range.forIn_eq_forIn_range',List.range']
 unfold eqD eqR
 simp only [if_eq_ok,Bool.and_assoc,Bool.and_true]
theorem run_eq_dim (E F:Nat->Int×Int) (b:Bool) (h:eqD E F=b) (w:World):(Op.equalIn 9999 28 (.agg #[.int .i64 (E 0).1,.int .i64 (E 0).2,.int .i64 (E 1).1,.int .i64 (E 1).2,.int .i64 (E 2).1,.int .i64 (E 2).2,.int .i64 (E 3).1,.int .i64 (E 3).2,.int .i64 (E 4).1,.int .i64 (E 4).2,.int .i64 (E 5).1,.int .i64 (E 5).2,.int .i64 (E 6).1,.int .i64 (E 6).2]) (.agg #[.int .i64 (F 0).1,.int .i64 (F 0).2,.int .i64 (F 1).1,.int .i64 (F 1).2,.int .i64 (F 2).1,.int .i64 (F 2).2,.int .i64 (F 3).1,.int .i64 (F 3).2,.int .i64 (F 4).1,.int .i64 (F 4).2,.int .i64 (F 5).1,.int .i64 (F 5).2,.int .i64 (F 6).1,.int .i64 (F 6).2])).run Try.prog w=.ok b w:=by
 subst h
 exact run_equal_arr 9996 E F w
def oneOf (n m:Int):Bool:=decide (0<=n/\n<m)
end Go.Proofs.Ytbejmklkicoibaa
