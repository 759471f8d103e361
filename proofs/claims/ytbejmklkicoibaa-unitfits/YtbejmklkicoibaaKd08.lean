/- Products that may be, and what they come to, exactly. Which nodes equations need (unit.neededBy). unit.rulesOf: what must be plain, of all nodes that are needed. An unknown's exponent in a product: found by halving. slices.BinarySearchFunc over factors; unit's product.exponent. unit: product.exponent. unit.keep: a rule with an unknown of its own. Rules solved: those that are kept, what they tell, and that all rules hold then: plain mathematics. -/
import Derived.Test.YtbejmklkicoibaaKd07
import Derived.Test.YtbejmklkicoibaaKd06
import Derived.Test.YtbejmklkicoibaaKd05
namespace Go.Proofs.Ytbejmklkicoibaa
def evP (S:Int→Nat→Rat) (X:Pro) (e:Nat):Rat:=qP (X.1 e)+evF (fun u=>S u e) X.2
theorem qP_pl (e:Nat):qP (plE e)=0:=qP_zero
theorem timesP_some {V:Int} {a b Y:Pro} {p:Int×Int} (ha:POk V a) (hb:POk V b) (hp:ROk p) (h:timesP a b p=some Y):POk V Y∧∀S e,e<7→evP S Y e=evP S a e+qP p*evP S b e:=by
 unfold timesP at h
 by_cases z:tmF a.1 b.1 p.1 p.2 7=0
 · rw [if_pos z] at h
   cases hm:mergedF p a.2 b.2 with
   | none=>rw [hm] at h;cases h
   | some L =>
     rw [hm] at h
     have e:=Option.some.inj h
     subst e
     obtain⟨f1,f2,f3⟩:=mergedF_some hp ha.f hb.f ha.s hb.s hm
     have ok:=tmD_ok ha.r hb.r hp.1 z
     refine⟨⟨fun i hi=>(ok i hi).2.1,drK_all 7 fun i hi=>(ok i hi).1,f1,f2⟩,fun S e he=>?_⟩
     have q:=(ok e he).2.2
     have q2:=f3 (fun u=>S u e)
     show qP (tmD a.1 b.1 p.1 p.2 7 e)+evF (fun u=>S u e) L=_
     rw [q2]
     unfold evP qP
     rw [q]
     grind
 · rw [if_neg z] at h;cases h
theorem pOk_plain (V:Int):POk V (plE,[]):=⟨plE_ok.1,plE_ok.2,fOk_nil,trivial⟩
theorem pOk_dim {V:Int} {E:Nat→Int×Int} (h:Dim64 E) (r:drK E 7=true):POk V (E,[]):=⟨h,r,fOk_nil,trivial⟩
theorem pOk_unk {V v:Int} (h:0≤v∧v<V):POk V (plE,[(v,(1,1))]):=⟨plE_ok.1,plE_ok.2,fOk_one v,⟨h.1,h.2,trivial⟩⟩
theorem ev_dim (S:Int→Nat→Rat) (E:Nat→Int×Int) (e:Nat):evP S (E,[]) e=qP (E e):=by unfold evP;simp only [evF];grind
theorem ev_unk (S:Int→Nat→Rat) (v:Int) (e:Nat):evP S (plE,[(v,(1,1))]) e=S v e:=by
 unfold evP
 simp only [evF]
 rw [qP_pl,qP_one]
 grind
theorem powerP_some {V:Int} {b Y:Pro} {p:Int×Int} (hb:POk V b) (hp:ROk p) (h:powerP b p=some Y):POk V Y∧∀S e,e<7→evP S Y e=qP p*evP S b e:=by
 obtain⟨o,q⟩:=timesP_some (pOk_plain V) hb hp h
 refine⟨o,fun S e he=>?_⟩
 rw [q S e he,ev_dim,qP_pl]
 grind
theorem varP_some {m:Nat} {G:Nat→Bool} {D:Nat→Nat→Int×Int} {S0:Nat→Int×Int} {v k:Int} {Y:Pro} (hv:0≤v∧v<(m:Int)) (hk:0≤k∧k≤6) (hS:Dim64 S0) (rS:drK S0 7=true) (hD:G v.toNat=true→Dim64 (D v.toNat)∧drK (D v.toNat) 7=true)
   (h:varP G D S0 v k=some Y):POk m Y∧∀S e,e<7→evP S Y e=(if G v.toNat then qP (D v.toNat e) else S v e)+qP (-k,1)*qP (S0 e):=by
 unfold varP at h
 have hp:ROk (-k,1):=rok_one ⟨by omega,by omega⟩ (by omega)
 cases hG:G v.toNat with
 | true =>
   rw [hG] at h
   obtain⟨d1,d2⟩:=hD hG
   obtain⟨o,q⟩:=timesP_some (pOk_dim (V:=m) d1 d2) (pOk_dim hS rS) hp h
   exact⟨o,fun S e he=>by rw [q S e he,ev_dim,ev_dim];rfl⟩
 | false =>
   rw [hG] at h
   obtain⟨o,q⟩:=timesP_some (pOk_unk hv) (pOk_dim hS rS) hp h
   exact⟨o,fun S e he=>by rw [q S e he,ev_dim,ev_unk];rfl⟩
def evN (X:Nat→Nd) (U:Int→Nat→Rat) (S0:Nat→Int×Int) (q:Nat→Nat→Rat) (x:Nd) (e:Nat):Rat :=
 if x.k=1 then qP (x.E e) else if x.k=2 then U x.v e+qP (-x.d,1)*qP (S0 e) else if x.k=15 then qP (S0 e)
 else if x.k=3∨x.k=4 then (if frB (X x.a.toNat) then q x.b.toNat e else q x.a.toNat e)
 else if x.k=5 then q x.a.toNat e+qP (1,1)*q x.b.toNat e else if x.k=6 then q x.a.toNat e+qP (-1,1)*q x.b.toNat e
 else if x.k=7 then q x.a.toNat e else if x.k=8 then qP (x.n,1)*q x.a.toNat e else if x.k=9 then qP (1,2)*q x.a.toNat e else 0
theorem rok_half:ROk (1,2):=⟨by decide,⟨by decide,by decide⟩,⟨by decide,by decide⟩⟩
theorem rok_mone:ROk (-1,1):=rok_one ⟨by decide,by decide⟩ (by decide)
theorem rok_1:ROk (1,1):=rok_one ⟨by decide,by decide⟩ (by decide)
theorem dimF_some {X:Nat→Nd} {G:Nat→Bool} {D:Nat→Nat→Int×Int} {S0:Nat→Int×Int} {Q:Nat→Pro} {x:Nd} {i m:Nat} {Y:Pro} (hx:Fit x i m) (hxE:Dim64 x.E) (hS:Dim64 S0) (rS:drK S0 7=true) (hD:∀v,v<m→G v=true→Dim64 (D v)∧drK (D v) 7=true)
   (hQ:∀j,j<x.ar→POk m (Q (x.at j).toNat)) (h:dimF X G D S0 Q x=some Y) :
   POk m Y∧∀S e,e<7→evP S Y e=evN X (fun v e=>if G v.toNat then qP (D v.toNat e) else S v e) S0 (fun j e=>evP S (Q j) e) x e:=by
 have ka:1≤arG x.k→POk m (Q x.a.toNat):=fun h=>by have:=hQ 0 h;unfold Nd.at at this;rwa [if_pos rfl] at this
 have kb:2≤arG x.k→POk m (Q x.b.toNat):=fun h=>by have:=hQ 1 h;unfold Nd.at at this;rwa [if_neg (by decide)] at this
 have hk:=hx.k
 unfold dimF at h
 unfold evN
 by_cases c1:x.k=1
 · simp only [if_pos c1] at h ⊢
   have e:=Option.some.inj h
   subst e
   exact⟨pOk_dim hxE (hx.const c1),fun S e _=>ev_dim S x.E e⟩
 simp only [if_neg c1] at h ⊢
 by_cases c2:x.k=2
 · simp only [if_pos c2] at h ⊢
   obtain⟨h1,h2⟩:=hx.var c2
   exact varP_some h1 h2 hS rS (hD _ (by omega)) h
 simp only [if_neg c2] at h ⊢
 by_cases c15:x.k=15
 · simp only [if_pos c15] at h ⊢
   have e:=Option.some.inj h
   subst e
   exact⟨pOk_dim hS rS,fun S e _=>ev_dim S S0 e⟩
 simp only [if_neg c15] at h ⊢
 by_cases c3:x.k=3∨x.k=4
 · simp only [if_pos c3] at h ⊢
   have ar:arG x.k=2:=by rcases c3 with c | c <;> rw [c] <;> rfl
   have e:=Option.some.inj h
   subst e
   cases hf:frB (X x.a.toNat) with
   | true=>simp only [if_true];exact⟨kb (by omega),fun _ _ _=>trivial⟩
   | false=>simp only [Bool.false_eq_true,if_false];exact⟨ka (by omega),fun _ _ _=>trivial⟩
 simp only [if_neg c3] at h ⊢
 by_cases c5:x.k=5
 · simp only [if_pos c5] at h ⊢
   have ar:arG x.k=2:=by rw [c5];rfl
   exact timesP_some (ka (by omega)) (kb (by omega)) rok_1 h
 simp only [if_neg c5] at h ⊢
 by_cases c6:x.k=6
 · simp only [if_pos c6] at h ⊢
   have ar:arG x.k=2:=by rw [c6];rfl
   exact timesP_some (ka (by omega)) (kb (by omega)) rok_mone h
 simp only [if_neg c6] at h ⊢
 by_cases c7:x.k=7
 · simp only [if_pos c7] at h ⊢
   have ar:arG x.k=1:=by rw [c7];rfl
   have e:=Option.some.inj h
   subst e
   exact⟨ka (by omega),fun _ _ _=>rfl⟩
 simp only [if_neg c7] at h ⊢
 by_cases c8:x.k=8
 · simp only [if_pos c8] at h ⊢
   have ar:arG x.k=1:=by rw [c8];rfl
   obtain⟨n1,n2⟩:=hx.pow c8
   exact powerP_some (ka (by omega)) (rok_one ⟨by omega,by omega⟩ (by omega)) h
 simp only [if_neg c8] at h ⊢
 by_cases c9:x.k=9
 · simp only [if_pos c9] at h ⊢
   have ar:arG x.k=1:=by rw [c9];rfl
   exact powerP_some (ka (by omega)) rok_half h
 simp only [if_neg c9] at h ⊢
 have e:=Option.some.inj h
 subst e
 exact⟨pOk_plain m,fun S e _=>by rw [ev_dim,qP_pl]⟩
theorem ruleF_some {X:Nat→Nd} {Q:Nat→Pro} {x:Nd} {m:Nat} {L:List Pro} (hQ:∀j,j<x.ar→POk m (Q (x.at j).toNat)) (h:ruleF X Q x=some L):(∀Y,Y∈L→POk m Y)∧L.length≤1:=by
 have ka:1≤arG x.k→POk m (Q x.a.toNat):=fun h=>by have:=hQ 0 h;unfold Nd.at at this;rwa [if_pos rfl] at this
 have kb:2≤arG x.k→POk m (Q x.b.toNat):=fun h=>by have:=hQ 1 h;unfold Nd.at at this;rwa [if_neg (by decide)] at this
 have none:(∀Y,Y∈([]:List Pro)→POk m Y)∧([]:List Pro).length≤1:=⟨fun Y hY=>(by cases hY),by simp⟩
 unfold ruleF at h
 by_cases c3:x.k=3∨x.k=4
 · simp only [if_pos c3] at h
   have ar:arG x.k=2:=by rcases c3 with c | c <;> rw [c] <;> rfl
   cases hf:frB (X x.a.toNat) with
   | true=>rw [hf] at h;have e:=Option.some.inj h;subst e;exact none
   | false =>
     rw [hf] at h
     cases hg:frB (X x.b.toNat) with
     | true=>rw [hg] at h;have e:=Option.some.inj h;subst e;exact none
     | false =>
       rw [hg] at h
       simp only [Bool.false_eq_true,if_false] at h
       cases ht:timesP (Q x.a.toNat) (Q x.b.toNat) (-1,1) with
       | none=>rw [ht] at h;cases h
       | some Y =>
         rw [ht] at h
         have e:=Option.some.inj h
         subst e
         exact⟨fun Z hZ=>by rw [List.mem_singleton.1 hZ];exact (timesP_some (ka (by omega)) (kb (by omega)) rok_mone ht).1,by simp⟩
 · simp only [if_neg c3] at h
   by_cases c:10≤x.k∧x.k≤14
   · rw [if_pos c] at h
     have ar:arG x.k=1:=by rcases (show x.k=10∨x.k=11∨x.k=12∨x.k=13∨x.k=14 by omega) with h | h | h | h | h <;> rw [h] <;> rfl
     cases hf:frB (X x.a.toNat) with
     | true=>rw [hf] at h;have e:=Option.some.inj h;subst e;exact none
     | false=>rw [hf] at h;have e:=Option.some.inj h;subst e;exact⟨fun Z hZ=>(List.mem_singleton.1 hZ) ▸ (ka (by omega)),by simp⟩
   · rw [if_neg c] at h
     have e:=Option.some.inj h
     subst e
     exact none
def stateF (X:Nat→Nd) (N:Nat→Bool) (G:Nat→Bool) (D:Nat→Nat→Int×Int) (S0:Nat→Int×Int):Nat→Option ((Nat→Pro)×List Pro)
 | 0=>some (fun _=>(plE,[]),[])
 | i+1=>(stateF X N G D S0 i).bind fun st=>if N i then (dimF X G D S0 st.1 (X i)).bind fun Y=>(ruleF X (fun j=>if j=i then Y else st.1 j) (X i)).map fun R=>((fun j=>if j=i then Y else st.1 j),st.2++R) else some st
end Go.Proofs.Ytbejmklkicoibaa
namespace Go.Proofs.Ytbejmklkicoibaa
open Go.ChangeShapes Go.WideShapes Go.ChangeAt Go.RowKit
def opH (x:Nd) (s:Nat→Bool):Nat→Nat→Bool
 | 0=>s
 | j+1=>setN (opH x s j) (x.at j).toNat
def backH (X:Nat→Nd) (n:Nat) (s:Nat→Bool):Nat→Nat→Bool
 | 0=>s
 | d+1=>if backH X n s d (n-1-d) then opH (X (n-1-d)) (backH X n s d) (X (n-1-d)).ar else backH X n s d
def needH (X:Nat→Nd) (n:Nat) (Y:Nat→Int) (m:Nat):Nat→Bool:=backH X n (outN Y m) n
set_option maxRecDepth 4000 in
set_option maxHeartbeats 2000000 in
theorem uneeded_w (A:Option Addr) (n C:Nat) (D:Option Addr) (m E:Nat) (X:Nat→Nd) (Y:Nat→Int) (hn:n≤4000) (hm:(m:Int)≤9223372036854775807)
   (hy:∀k,k<m→0≤Y k∧Y k<(n:Int)) (hx:∀i,i<n→∀j,j<(X i).ar→0≤(X i).at j∧(X i).at j<(n:Int)) (w:World) (VX:Nds w A n X) (VY:Ins w D m Y) :
   Calls Try.prog 13 #[.slice D m E,.slice A n C] w fun e w'=>∃g,w.heap.size≤g∧e=.returned (.slice (some ⟨g,0,none⟩) n n)∧Cel w' g n (fun i=>.bool (needH X n Y m i))∧Below w.heap.size w w':=by
 have HY:Hid (∀k,k<m→0≤Y k∧Y k<(n:Int)):=hy
 have HX:Hid (∀i,i<n→∀j,j<(X i).ar→0≤(X i).at j∧(X i).at j<(n:Int)):=hx
 clear hx hy
 go_enter Try.func13,Try.ntmps13
 go_wp2_with (at_make;refine wpList_makeB (by rfl) _ _ (by rfl) n (by rfl) (by rfl) (by omega) ?_;intro w3 I hb3 hS3)
 have hg2:w.heap.size≤w.heap.size:=Nat.le_refl _
 have eb:=hb3
 clear hb3
 go_loopg [16] m (fun G s16 wx=>∃i:Nat,i+G=m∧s16=.int .i64 (i:Int)∧Below w.heap.size w wx∧Cel wx w.heap.size n (fun j=>.bool (outN Y i j)))
 case atStart=>exact⟨0,by omega,rfl,eb,I⟩
 case round =>
   clear eb I hS3
   obtain⟨i,hi,rfl,HB,I⟩:=hrel
   by_cases ci:i=m
   · subst ci
     clear VY HY
     go_wp2_with fail
     go_loopg [8] n (fun G s6 wx=>∃(d:Nat) (z:Int),d+G=n∧z=(n:Int)-1-(d:Int)∧s6=.int .i64 z∧Below w.heap.size w wx∧Cel wx w.heap.size n (fun j=>.bool (backH X n (outN Y i) d j)))
     case atStart=>exact⟨0,(n:Int)-1,by omega,by omega,by first | rfl | go_num,HB,I⟩
     case round =>
       clear HB I
       obtain⟨d,z,hd,hz,rfl,HB,I⟩:=hrel
       by_cases cd:d=n
       · have hz0:¬(0:Int)≤z:=by omega
         rw [cd] at I
         go_wp2_with fail
         go_ret
         exact⟨w.heap.size,hg2,rfl,I,HB⟩
       · obtain⟨t,rfl⟩:∃t:Nat,z=(t:Int):=⟨z.toNat,by omega⟩
         have ht:t=n-1-d:=by omega
         have htn:(t:Int)<(n:Int):=by omega
         have hz0:(0:Int)≤(t:Int):=by omega
         obtain⟨c0, -⟩:=I.2 t (by omega)
         dsimp only at c0
         have gl:=I.1
         have hstep:Hid (backH X n (outN Y i) (d+1)=if backH X n (outN Y i) d t then opH (X t) (backH X n (outN Y i) d) (X t).ar else backH X n (outN Y i) d):=by rw [ht];exact Eq.refl _
         have HZ:Hid ((t:Int)=(n:Int)-1-(d:Int)):=hz
         clear ht hz
         have hcase:backH X n (outN Y i) d t=true∨backH X n (outN Y i) d t=false:=by cases backH X n (outN Y i) d t <;> simp
         rcases hcase with hq | hq
         · rw [hq] at c0
           have hst:Hid (backH X n (outN Y i) (d+1)=opH (X t) (backH X n (outN Y i) d) (X t).ar):=Eq.trans hstep (if_pos hq)
           obtain⟨b,o,hA,hb, -⟩:=(VX.keep HB) t (by omega)
           subst hA
           obtain⟨x,hx⟩:∃x,x=X t:=⟨_,rfl⟩
           have xc:Hid (∀j c,(ndL x)[j]?=some c→wr.cell? ⟨b,o+t*22+j,none⟩=some c):=by rw [hx];exact ((VX.keep HB).at (i:=t) (by omega)).2
           have hop:=HX t (by omega)
           rw [←hx] at hst hop
           have co:=fun W=>uoperands_w x W
           clear hq hstep
           have hL2:x.ar≤2:=arG_le x.k
           have HO:Hid (∀j,j<x.ar→0≤x.at j∧x.at j<(n:Int)):=hop
           clear hop
           obtain⟨s0,hs0⟩:∃s0,s0=backH X n (outN Y i) d:=⟨_,rfl⟩
           rw [←hs0] at I hst
           clear hs0 hx
           generalize hL:x.ar=L at *
           go_wp2_with (first
             | (refine wpList_loadBig (by rfl) _ 54 (by rfl) Try.underlying54 (ndL x) (by kernel_rfl) (by rfl) xc.out (nd_val x) ?_)
             | (go_at_call 31;with_reducible refine (co _).mono ?_;rintro _ w4 ⟨⟨A4,C4,rfl,kk⟩,hb4⟩;replace I:=I.keep hb4;replace HB:=later HB hb4;have sz:=hb4.size))
           replace kk:Hid (∀q,q<L→∃B,A4=some ⟨B,0,none⟩∧w.heap.size<B∧B<w4.heap.size∧w4.cell? ⟨B,q,none⟩=some (.int .i64 (x.at q))):=fun q hq=>by
             obtain⟨B,h1,h2,h3,h4⟩:=kk q hq
             exact⟨B,h1,by omega,h3,h4⟩
           clear co hb4 c0 xc
           go_loopg [42] L (fun G s44 wy=>∃j:Nat,j+G=L∧s44=.int .i64 (j:Int)∧Below w.heap.size w wy∧Cel wy w.heap.size n (fun q=>.bool (opH x s0 j q))∧Hid (∀q,q<L→∃B,A4=some ⟨B,0,none⟩∧w.heap.size<B∧B<wy.heap.size∧wy.cell? ⟨B,q,none⟩=some (.int .i64 (x.at q))))
           case atStart=>exact⟨0,by omega,rfl,HB,I,kk⟩
           case round =>
             clear HB I kk
             obtain⟨j,hj,rfl,HB,I,kk⟩:=hrel
             by_cases cj:j=L
             · rw [cj] at I
               subst cj
               go_wp2_with fail
               go_roundg (n-d-1)
               case measure=>omega
               case rel=>exact⟨d+1,(t:Int)-1,by omega,by have hz:(t:Int)=(n:Int)-1-(d:Int):=HZ;omega,by first | rfl | go_num,HB,by rw [show backH X n (outN Y i) (d+1)=_ from hst];exact I⟩
             · have hlt:(j:Int)<(L:Int):=by omega
               obtain⟨B,hA4,gB,hBs,kj⟩:=kk.out j (by omega)
               subst hA4
               obtain⟨y0,y1⟩:=HO j (by omega)
               obtain⟨c0,c1⟩:=I.2 (x.at j).toNat (by omega)
               have gl:=I.1
               go_wp2_with fail
               go_roundg (L-j-1)
               case measure=>omega
               case rel =>
                 refine⟨j+1,by omega,by go_num,Below.setCell HB hg2 _, ?_, ?_⟩
                 · refine (I.set (x.at j).toNat (.bool true) (by omega)).congr fun q hq=>?_
                   show (if q=(x.at j).toNat then Value.bool true else Value.bool (opH x s0 j q))=Value.bool (setN (opH x s0 j) (x.at j).toNat q)
                   unfold setN
                   split <;> rfl
                 · exact fun q hq=>by
                     obtain⟨B',h1,h2,h3,h4⟩:=kk.out q hq
                     exact⟨B',h1,h2,by simp only [World.size_setCell];exact h3,(World.cell?_setCell_far _ _ _ _ (show w.heap.size≠B' by omega)).trans h4⟩
         · rw [hq] at c0
           have hst:Hid (backH X n (outN Y i) (d+1)=backH X n (outN Y i) d):=Eq.trans hstep (if_neg (by rw [hq];simp))
           clear hq hstep
           go_wp2_with fail
           go_roundg (n-d-1)
           case measure=>omega
           case rel=>exact⟨d+1,(t:Int)-1,by omega,by have hz:(t:Int)=(n:Int)-1-(d:Int):=HZ;omega,by first | rfl | go_num,HB,by rw [show backH X n (outN Y i) (d+1)=_ from hst];exact I⟩
   · have hlt:(i:Int)<(m:Int):=by omega
     obtain⟨b,o,hA,hb,x0⟩:=(VY.keep HB) i (by omega)
     obtain⟨y0,y1⟩:=HY i (by omega)
     obtain⟨c0,c1⟩:=I.2 (Y i).toNat (by omega)
     have gl:=I.1
     subst hA
     go_wp2_with fail
     go_roundg (m-i-1)
     case measure=>omega
     case rel =>
       refine⟨i+1,by omega,by go_num,Below.setCell HB hg2 _, ?_⟩
       refine (I.set (Y i).toNat (.bool true) (by omega)).congr fun q hq=>?_
       show (if q=(Y i).toNat then Value.bool true else Value.bool (outN Y i q))=Value.bool (setN (outN Y i) (Y i).toNat q)
       unfold setN
       split <;> rfl
theorem stateF_none {X:Nat→Nd} {N G:Nat→Bool} {D:Nat→Nat→Int×Int} {S0:Nat→Int×Int} {i:Nat} (h:stateF X N G D S0 i=none):∀n,i≤n→stateF X N G D S0 n=none
 | 0,hn=>by rw [show i=0 by omega] at h;exact h
 | n+1,hn=>by
   by_cases c:i=n+1
   · rw [←c];exact h
   · rw [stateF,stateF_none h n (by omega)];rfl
theorem DimsIn.congr {w:World} {g n:Nat} {K J:Nat→Prop} {Q:Nat→Pro} (h:DimsIn w g n K Q) (e:∀i,J i→K i):DimsIn w g n J Q:=by
 obtain⟨cs,b,l,f⟩:=h
 exact⟨cs,b,l,fun i hi=>f i (e i hi)⟩
theorem OwnRw.base {B B':Nat} {w:World} {v:Value} {L:List PV} (h:OwnRw B w v L) (hb:B'≤B):OwnRw B' w v L:=by
 refine⟨h.1, ?_⟩
 rcases h.2 with hn | ⟨g,cap,cur,hv,hb2,rest⟩
 · exact .inl hn
 · exact .inr ⟨g,cap,cur,hv,Nat.le_trans hb hb2,rest⟩
theorem DimsIn.grow {w W:World} {g n:Nat} {K:Nat→Prop} {Q:Nat→Pro} (h:DimsIn w g n K Q) (b:Below (g+1) w W) (k:∀N,PvOk w N→PvOk W N):DimsIn W g n K Q:=by
 obtain⟨cs,bk,l,f⟩:=h
 refine⟨cs,bk.keep b (by omega),l,fun i hi=>?_⟩
 obtain⟨h1,A',c,h2,h3,h4⟩:=f i hi
 have q:=k [(Q i,.slice A' (Q i).2.length c)] (fun x hx=>by rw [List.mem_singleton.1 hx];exact⟨A',c,rfl,h2,h3⟩) _ (List.mem_singleton.2 rfl)
 obtain⟨A2,c2,e,l2,f2⟩:=q
 injection e with e1 _ e2
 subst e1 e2
 exact⟨h1,_,_,h2,f2,h4⟩
def RsAns (B:Nat) (r:Ending) (w:World) (R:Option (List Pro)):Prop:=(∃(L:List PV) (v:Value),R=some (L.map (·.1))∧r=.returned v∧OwnRw B w v L∧PvOk w L)∨(R=none∧r=.panicked (stopP 3))
theorem RlAns.yes {r:Ending} {w:World} {Z:List Pro} (h:RlAns r w (some Z)):∃(L:List PV) (A:Option Addr) (C:Nat),Z=L.map (·.1)∧r=.returned (.slice A L.length C)∧PvOk w L∧(L≠[]→∃b,A=some ⟨b,0,none⟩∧BlkAt w b 79 (proLs L)):=by
 rcases h with ⟨L,A,C,e,r⟩ | ⟨e,_⟩
 · exact⟨L,A,C,Option.some.inj e,r⟩
 · cases e
theorem RlAns.no {r:Ending} {w:World} (h:RlAns r w none):r=.panicked (stopP 3):=by
 rcases h with ⟨L,A,C,e,_⟩ | ⟨_,hr⟩
 · cases e
 · exact hr
set_option maxRecDepth 4000 in
set_option maxHeartbeats 8000000 in
theorem urules_w (AN:Option Addr) (n CN:Nat) (X:Nat→Nd) (g0:Nat) (N:Nat→Bool) (A0 A1:Option Addr) (n0 C0 C1:Nat) (D:Nat→Nat→Int×Int) (G:Nat→Bool) (S:Nat→Int×Int)
   (hn:n≤4000) (hn0:n0≤500) (hX:∀i,i<n→(X i).Ok) (hF:∀i,i<n→N i=true→Fit (X i) i n0) (hN:∀i,i<n→N i=true→∀j,j<(X i).ar→N ((X i).at j).toNat=true)
   (hS:Dim64 S) (rS:drK S 7=true) (hD:∀v,v<n0→G v=true→Dim64 (D v)∧drK (D v) 7=true) (w:World) (VN:Nds w AN n X) (VC:Cel w g0 n (fun i=>.bool (N i))) (VD:Dms w A0 n0 D) (VG:Bls w A1 n0 G) :
   Calls Try.prog 19 #[.slice AN n CN,.slice (some ⟨g0,0,none⟩) n n,vrV (.slice A0 n0 C0) (.slice A1 n0 C1) S] w fun r w'=>RsAns w.heap.size r w' ((stateF X N G D S n).map (·.2))∧Below w.heap.size w w':=by
 obtain⟨R,hR⟩:∃R,Hid (stateF X N G D S n=R):=⟨_,rfl⟩
 rw [hR.out]
 have HX:Hid (∀i,i<n→(X i).Ok):=hX
 have HF:Hid (∀i,i<n→N i=true→Fit (X i) i n0):=hF
 have HN:Hid (∀i,i<n→N i=true→∀j,j<(X i).ar→N ((X i).at j).toNat=true):=hN
 have HS:Hid (Dim64 S∧drK S 7=true):=⟨hS,rS⟩
 have HD:Hid (∀v,v<n0→G v=true→Dim64 (D v)∧drK (D v) 7=true):=hD
 clear hX hF hN hS rS hD
 obtain⟨XV,HB⟩:=blks1 w 43 (vrL (.slice A0 n0 C0) (.slice A1 n0 C1) S)
 show Calls Try.prog _ #[_,_,.agg #[.slice A0 n0 C0,.slice A1 n0 C1,.int .i64 (S 0).1,.int .i64 (S 0).2,.int .i64 (S 1).1,.int .i64 (S 1).2,.int .i64 (S 2).1,.int .i64 (S 2).2,.int .i64 (S 3).1,.int .i64 (S 3).2,.int .i64 (S 4).1,.int .i64 (S 4).2,.int .i64 (S 5).1,.int .i64 (S 5).2,.int .i64 (S 6).1,.int .i64 (S 6).2]] w _
 unfold vrL at XV HB
 go_enter Try.func19,Try.ntmps19
 go_upto_region 1 with fail
 generalize (w.alloc (.cells #[.slice A0 n0 C0,.slice A1 n0 C1,.int .i64 (S 0).1,.int .i64 (S 0).2,.int .i64 (S 1).1,.int .i64 (S 1).2,.int .i64 (S 2).1,.int .i64 (S 2).2,.int .i64 (S 3).1,.int .i64 (S 3).2,.int .i64 (S 4).1,.int .i64 (S 4).2,.int .i64 (S 5).1,.int .i64 (S 5).2,.int .i64 (S 6).1,.int .i64 (S 6).2] 43))=V1 at *
 go_wp2_with (at_make;refine wpList_makeP (by rfl) _ _ (by rfl) n (by rfl) (by rfl) (by omega) ?_;intro w3 ID hb3)
 obtain⟨cs0,ID1,ID2⟩:=ID
 have DI:DimsIn w3 V1.heap.size n (fun j=>j<0∧N j=true) (fun _=>(plE,[])):=⟨cs0,ID1,ID2,fun i hi=>absurd hi.1 (by omega)⟩
 have hg3:V1.heap.size+1≤w3.heap.size:=ID1.lt
 clear ID1 ID2
 have hgv:w.heap.size<V1.heap.size:=XV.lt
 replace XV:=XV.keeps hb3
 replace HB:=later HB hb3
 clear hb3
 obtain⟨g,hg⟩:∃g,g=V1.heap.size:=⟨_,rfl⟩
 rw [←hg] at DI hg3 hgv ⊢
 clear hg
 go_loopg [7,16] n (fun T s7 s16 wx=>∃(i:Nat) (st:(Nat→Pro)×List Pro) (L:List PV),i+T=n∧s16=.int .i64 (i:Int)∧Hid (stateF X N G D S i=some st)∧Hid (st.2=L.map (·.1))∧OwnRw (g+1) wx s7 L∧PvOk wx L∧DimsIn wx g n (fun j=>j<i∧N j=true) st.1∧BlkAt wx w.heap.size 43 (vrL (.slice A0 n0 C0) (.slice A1 n0 C1) S)∧Below w.heap.size w wx∧Hid (L.length≤i)∧Hid (∀j,j<i→N j=true→POk n0 (st.1 j))∧g+1≤wx.heap.size)
 case atStart=>exact⟨0,(fun _=>(plE,[]),[]),[],by omega,rfl,rfl,rfl,ownRw_nil _ _,pvOk_nil _,DI,XV,HB,Nat.le_refl 0,(fun j hj=>absurd hj (by omega)),hg3⟩
 case round =>
   clear DI XV HB hg3
   obtain⟨i,st,L,hi,rfl,hst,hL,I,PV0,DI,XV,HB,hlen,hok,hg3⟩:=hrel
   by_cases ci:i=n
   · have e1:Hid (R=some st):=by have q:=hR.out;subst ci;rw [hst.out] at q;exact q.symm
     clear hR hst
     subst ci
     obtain⟨A7,C7,e7,hc7⟩:=I.form
     subst e7
     go_wp2_with fail
     go_ret
     exact⟨Or.inl ⟨L,_,by rw [e1.out];exact congrArg some hL.out,rfl,I.base (by omega),PV0⟩,HB⟩
   · have hin:i<n:=by omega
     have hlt:(i:Int)<(n:Int):=by omega
     obtain⟨b,o,hA,hb, -⟩:=(VN.keep HB) i hin
     subst hA
     obtain⟨x,hx⟩:∃x,x=X i:=⟨_,rfl⟩
     have xc:Hid (∀j c,(ndL x)[j]?=some c→wr.cell? ⟨b,o+i*22+j,none⟩=some c):=by rw [hx];exact ((VN.keep HB).at (i:=i) hin).2
     replace hx:Hid (x=X i):=hx
     go_upto_region 6 with (first
       | (refine wpList_loadBig (by rfl) _ 54 (by rfl) Try.underlying54 (ndL x) (by kernel_rfl) (by rfl) (xc.out) (nd_val x) ?_)
       | (refine wpList_storeBig (by rfl) _ _ 54 (by rfl) (blk_new _ _ _) (ndL x) (by kernel_rfl) (by rfl) (by rfl) (by rfl) (by rfl) ?_;rintro V2 XB hs2 hB2 hk2))
     have hg0:g<wr.heap.size:=by omega
     have grw:Below wr.heap.size wr V2:=hB2 _ _ (Below.alloc (Below.refl _ _) (Nat.le_refl _) _) (Nat.le_refl _)
     replace HB:=later HB grw
     replace XV:=XV.keeps grw
     replace DI:=DI.keep grw
     replace I:=I.keep grw
     replace PV0:=PV0.keep grw
     replace hg3:g+1≤V2.heap.size:=Nat.le_trans hg3 grw.size
     have cn:=((VC.keep HB).2 i hin).1
     obtain⟨xb,hxb⟩:∃xb,xb=wr.heap.size:=⟨_,rfl⟩
     have hxg:g<wr.heap.size:=hg0
     rw [←hxb] at XB hxg ⊢
     clear hxb hB2 hk2 hs2 grw xc
     dsimp only at cn
     cases hNi:N i with
     | false =>
       have hst2:Hid (stateF X N G D S (i+1)=some st):=by
         show stateF X N G D S (i+1)=some st
         rw [stateF,hst.out]
         simp [hNi]
       rw [hNi] at cn
       have hNi2:Hid (N i=false):=hNi
       have DI2:DimsIn V2 g n (fun j=>j<i+1∧N j=true) st.1:=DI.congr fun j hj=>⟨(by rcases Nat.lt_or_ge j i with c | c;exact c;have:=hj.2;rw [show j=i by omega,hNi2.out] at this;exact absurd this (by simp)),hj.2⟩
       have hok2:Hid (∀j,j<i+1→N j=true→POk n0 (st.1 j)):=fun j hj hj2=>hok.out j (by rcases Nat.lt_or_ge j i with c | c;exact c;rw [show j=i by omega,hNi2.out] at hj2;cases hj2) hj2
       clear hNi DI hok hst
       go_wp2_with fail
       (go_roundg (n-i-1)
        case measure=>omega
        case rel=>exact⟨i+1,st,L,by omega,by go_num,hst2,hL,I,PV0,DI2,XV,HB,Nat.le_succ_of_le hlen.out,hok2,hg3⟩)
     | true =>
       rw [hNi] at cn
       have hfit:Fit x i n0:=by rw [hx.out];exact HF.out i hin hNi
       have hxE:Dim64 x.E:=by rw [hx.out];exact (HX.out i hin).E
       have hKo:∀j,j<x.ar→(x.at j).toNat<i∧N (x.at j).toNat=true:=fun j hj=>⟨by have:=hfit.o j hj;omega,by rw [hx.out] at hj ⊢;exact HN.out i hin hNi j hj⟩
       obtain⟨T,hT⟩:∃T,Hid (dimF X G D S st.1 x=T):=⟨_,rfl⟩
       have cd:=fun W vn vp vd vg=>udim_w x i (some ⟨b,o,none⟩) n CN X (some ⟨g,0,none⟩) n n (fun j=>j<i∧N j=true) st.1 A0 A1 n0 C0 C1 D G S hfit (by omega) (by omega) hn0 HS.out.1 HS.out.2 HD.out hKo (fun j hj=>hok.out j hj.1 hj.2) W vn vp vd vg
       rw [hT.out] at cd
       have hN2:Hid (N i=true):=hNi
       have HFit:Hid (Fit x i n0∧Dim64 x.E∧∀j,j<x.ar→(x.at j).toNat<i∧N (x.at j).toNat=true):=⟨hfit,hxE,hKo⟩
       clear hNi hfit hxE hKo
       cases T with
       | none =>
         have eR:Hid (R=none):=by
           have q:=hR.out
           have q2:stateF X N G D S (i+1)=none:=by
             have q3:=hT.out
             rw [hx.out] at q3
             rw [stateF,hst.out]
             simp [hN2.out,q3]
           rw [stateF_none q2 n (by omega)] at q
           exact q.symm
         clear hR hst hT
         go_wp2_with (first
           | (refine wpList_loadBig (by rfl) _ 54 (by rfl) Try.underlying54 (ndL x) (by kernel_rfl) (by rfl) (XB.cell0) (nd_val x) ?_)
           | (refine wpList_loadBig (by rfl) _ 43 (by rfl) Try.underlying43 (vrL (.slice A0 n0 C0) (.slice A1 n0 C1) S) (by kernel_rfl) (by rfl) (XV.cell0) (vr_val _ _ _) ?_)
           | (go_at_call 38;(with_reducible refine (cd _ (VN.keep HB) DI.prs (VD.keep HB) (VG.keep HB)).mono ?_);rintro r W2 ⟨hM,hb2⟩;have hr:=hM.no;subst hr;exact⟨rfl,Or.inr ⟨by rw [eR.out];rfl,rfl⟩,later HB hb2⟩))
       | some Y =>
         obtain⟨hYok, -⟩:=dimF_some HFit.out.1 HFit.out.2.1 HS.out.1 HS.out.2 HD.out (fun j hj=>hok.out _ (HFit.out.2.2 j hj).1 (HFit.out.2.2 j hj).2) hT.out
         have hYo:Hid (POk n0 Y):=hYok
         clear hYok
         go_upto_region 8 with (first
           | (refine wpList_loadBig (by rfl) _ 54 (by rfl) Try.underlying54 (ndL x) (by kernel_rfl) (by rfl) (XB.cell0) (nd_val x) ?_)
           | (refine wpList_loadBig (by rfl) _ 43 (by rfl) Try.underlying43 (vrL (.slice A0 n0 C0) (.slice A1 n0 C1) S) (by kernel_rfl) (by rfl) (XV.cell0) (vr_val _ _ _) ?_)
           | (go_at_call 38;(with_reducible refine (cd _ (VN.keep HB) DI.prs (VD.keep HB) (VG.keep HB)).mono ?_);rintro r W2 ⟨hM,hb2⟩;obtain⟨s,hr,A9,c9,rfl,hc9,fa9⟩:=hM.yes;subst hr;replace HB:=later HB hb2;replace XV:=XV.keeps hb2;replace XB:=XB.keeps hb2;replace DI:=DI.keep hb2;replace I:=I.keep hb2;replace PV0:=PV0.keep hb2;replace hg3:=Nat.le_trans hg3 hb2.size;clear hb2 hM;obtain⟨cs,DB,Dl,Df⟩:=DI;replace Dl:Hid (cs.length=n*15):=Dl)
           | (refine wpList_storeMid (off:=i*15) (by rfl) _ _ 79 (by rfl) DB (proL Y.1 (.slice A9 Y.2.length c9)) (by kernel_rfl) (by rw [Dl.out,proL_len];omega) (by rfl) (by rfl) (by rfl) ?_;rintro V3 XR hs3 hB3 hk3))
         have DI3:=DimsIn.set DB Dl.out Df hin hc9 fa9 XR hk3
         replace XV:=hk3 _ _ _ (by omega) XV
         replace XB:=hk3 _ _ _ (by omega) XB
         replace I:=I.off (by omega) hk3
         replace PV0:PvOk V3 L:=fun z hz=>(PV0 z hz).other DB (by decide) hk3
         replace HB:=hB3 _ _ HB (by omega)
         replace hg3:g+1≤V3.heap.size:=by omega
         obtain⟨Q2,hQ2⟩:∃Q2,Hid (Q2=fun j=>if j=i then Y else st.1 j):=⟨_,rfl⟩
         have DI4:DimsIn V3 g n (fun j=>j<i+1∧N j=true) Q2:=by
           rw [hQ2.out]
           exact DI3.congr fun j hj=>by
             by_cases e:j=i
             · exact Or.inr e
             · exact Or.inl ⟨by omega,hj.2⟩
         have hok2:Hid (∀j,j<i+1→N j=true→POk n0 (Q2 j)):=by
           intro j hj hj2
           rw [hQ2.out]
           by_cases e:j=i
           · simp only [if_pos e];exact hYo.out
           · simp only [if_neg e];exact hok.out j (by omega) hj2
         have hRu:Hid (∀T2,ruleF X Q2 x=T2→stateF X N G D S (i+1)=T2.map fun Z=>(Q2,st.2++Z)):=by
           intro T2 h2
           have q3:=hT.out
           rw [hx.out] at q3
           rw [hx.out,hQ2.out] at h2
           rw [stateF,hst.out,hQ2.out]
           simp only [Option.bind_some,hN2.out,if_true,q3,h2]
         clear DB Dl Df XR fa9 hB3 hk3 hs3 DI3 hok hYo hT hst cd
         obtain⟨T2,hT2⟩:∃T2,Hid (ruleF X Q2 x=T2):=⟨_,rfl⟩
         have cr:=fun W vn vp=>urule_w x i n0 (some ⟨b,o,none⟩) n CN X (some ⟨g,0,none⟩) n n (fun j=>j<i+1∧N j=true) Q2 HFit.out.1 (by omega) (by omega) hn0 (fun j hj=>⟨by have:=(HFit.out.2.2 j hj).1;omega,(HFit.out.2.2 j hj).2⟩) (fun j hj=>hok2.out j hj.1 hj.2) W vn vp
         rw [hT2.out] at cr
         have hRu2:Hid (stateF X N G D S (i+1)=T2.map fun Z=>(Q2,st.2++Z)):=hRu.out T2 hT2.out
         have hZl:Hid (∀Z,T2=some Z→Z.length≤1):=fun Z e=>(ruleF_some (fun j hj=>hok2.out _ (by have:=(HFit.out.2.2 j hj).1;omega) (HFit.out.2.2 j hj).2) (hT2.out.trans e)).2
         clear hRu hT2 HFit
         cases T2 with
         | none =>
           have eR:Hid (R=none):=by
             have q:=hR.out
             rw [stateF_none hRu2.out n (by omega)] at q
             exact q.symm
           clear hR hRu2 hZl
           go_wp2_with (first
             | (refine wpList_loadBig (by rfl) _ 54 (by rfl) Try.underlying54 (ndL x) (by kernel_rfl) (by rfl) (XB.cell0) (nd_val x) ?_)
             | (go_at_call 39;(with_reducible refine (cr _ (VN.keep HB) DI4.prs).mono ?_);rintro r W2 ⟨hM,hb2⟩;have hr:=hM.no;subst hr;exact⟨rfl,Or.inr ⟨by rw [eR.out];rfl,rfl⟩,later HB hb2⟩))
         | some Z =>
           have hZ1:=hZl.out Z rfl
           go_wp2_with (first
             | (refine wpList_loadBig (by rfl) _ 54 (by rfl) Try.underlying54 (ndL x) (by kernel_rfl) (by rfl) (XB.cell0) (nd_val x) ?_)
             | (go_at_call 39;(with_reducible refine (cr _ (VN.keep HB) DI4.prs).mono ?_);rintro r W2 ⟨hM,hb2⟩;obtain⟨M,A8,C8,hZ,hr,hp,hbk⟩:=hM.yes;subst hr;replace HB:=later HB hb2;replace XV:=XV.keeps hb2;replace DI4:=DI4.keep hb2;replace I:=I.keep hb2;replace PV0:=PV0.keep hb2;replace hg3:=Nat.le_trans hg3 hb2.size;clear hb2 hM XB;have hM1:M.length≤1:=(by rw [hZ,List.length_map] at hZ1;exact hZ1);have hMl:Hid (L.length+M.length≤100000):=(by show _≤_;have:=hlen.out;omega);replace hM1:Hid (M.length≤1):=hM1;replace hZ:Hid (Z=M.map (·.1)):=hZ;clear hZ1)
             | (at_builtin;refine wpList_catP (by rfl) _ _ (by rfl) _ L M A8 M.length C8 (by rfl) (by rfl) rfl I hbk hp hMl.out hg3 ?_;intro v' w8 I8 hb8 hs8 hpv))
           (go_roundg (n-i-1)
            case measure=>omega
            case rel=>exact⟨i+1,(Q2,st.2++Z),L++M,by omega,by go_num,hRu2,(by show st.2++Z=_;rw [hL.out,hZ.out,List.map_append]),I8,(fun z hz=>(List.mem_append.1 hz).elim (hpv L PV0 z) (hpv M hp z)),DI4.grow hb8 hpv,XV.keep hb8 (by omega),HB.trans (hb8.mono (by omega)),(by show (L++M).length≤i+1;rw [List.length_append];have:=hlen.out;have:=hM1.out;omega),hok2,Nat.le_trans hg3 hs8⟩)
theorem rise_from {v:Int}:∀{L:List Fac} {l:Int},Rise v l L→∀(b:Nat) (g:Fac),L[b]?=some g→l≤g.1∧g.1<v
 | [],_,_,b,g,h=>by simp at h
 | f :: L,l,r,0,g,h=>by
   simp at h
   subst h
   exact⟨r.1,r.2.1⟩
 | f :: L,l,r,b+1,g,h=>by
   have:=rise_from r.2.2 b g (by simpa using h)
   have:=r.1
   omega
theorem rise_lt {v:Int}:∀{L:List Fac} {l:Int},Rise v l L→∀(a b:Nat) (f g:Fac),L[a]?=some f→L[b]?=some g→a<b→f.1<g.1
 | [],_,_,a,_,f,_,h,_,_=>by simp at h
 | k :: L,l,r,0,b+1,f,g,hf,hg,_=>by
   simp at hf
   subst hf
   have:=rise_from r.2.2 b g (by simpa using hg)
   omega
 | k :: L,l,r,a+1,b+1,f,g,hf,hg,h=>rise_lt r.2.2 a b f g (by simpa using hf) (by simpa using hg) (by omega)
 | _ :: _,_,_,_,0,_,_,_,_,h=>by omega
theorem low_at (t:Int):∀(L:List Fac) (i:Nat),i≤L.length→(∀k f,L[k]?=some f→k<i→f.1<t)→(∀k f,L[k]?=some f→i≤k→t≤f.1)→restF t L=L.drop i
 | [],i,_,_,_=>by simp [restF]
 | f :: L,0,_,_,h2=>by
   have:=h2 0 f rfl (Nat.le_refl _)
   rw [restF,if_neg (by omega)]
   rfl
 | f :: L,i+1,hi,h1,h2=>by
   have:=h1 0 f rfl (by omega)
   rw [restF,if_pos this,List.drop_succ_cons]
   exact low_at t L i (by simpa using hi) (fun k g hk hl=>h1 (k+1) g (by simpa using hk) (by omega)) (fun k g hk hl=>h2 (k+1) g (by simpa using hk) (by omega))
def coF (t:Int) (L:List Fac):Int×Int:=match restF t L with
 | []=>(0,1)
 | g :: _=>if g.1=t then g.2 else (0,1)
theorem ucmp_w (u e1 e2 t:Int) (hu:0≤u∧u≤1000) (ht:0≤t∧t≤1000) (w:World) :
   Calls Try.prog 75 #[.agg #[.int .i64 u,.int .i64 e1,.int .i64 e2],.int .i64 t] w fun r w'=>r=.returned (.int .i64 (u-t))∧Below w.heap.size w w':=by
 obtain⟨h1,h2⟩:=hu
 obtain⟨h3,h4⟩:=ht
 go_enter Try.func75,Try.ntmps75
 go_wp2_with fail
 go_ret
 exact⟨rfl,by go_grown⟩
theorem half_mid {i j:Nat} (h:i<j):i≤(i+j)/2∧(i+j)/2<j:=by omega
set_option maxRecDepth 4000 in
set_option maxHeartbeats 4000000 in
theorem usearch_w (A:Option Addr) (C n:Nat) (L:List Fac) (t v:Int) (hn:n=L.length) (hv:0≤v∧v≤500) (ht:0≤t∧t≤500) (hr:Rise v 0 L) (w:World) (F:FacAt w A L) :
   Calls Try.prog 74 #[.slice A n C,.int .i64 t,.func (.func 75) #[] #[]] w fun r w'=>(∃i:Nat,i≤n∧restF t L=L.drop i∧r=.returned (.tuple #[.int .i64 (i:Int),.bool (headEq t (restF t L))]))∧Below w.heap.size w w':=by
 have hl:(L.length:Int)≤v:=by have:=hr.length hv.1;omega
 have hn5:n≤500:=by omega
 have HR:Hid (Rise v 0 L):=hr
 have HV:Hid (0≤v∧v≤500):=hv
 have HN:Hid (n=L.length):=hn
 have HF:Hid (FacAt w A L):=F
 clear hr hv hn F hl
 go_enter Try.func74,Try.ntmps74
 go_wp2_with fail
 go_loopg [9,10] n (fun G s9 s10 wx=>∃i j:Nat,s9=.int .i64 (i:Int)∧s10=.int .i64 (j:Int)∧i≤j∧j≤n∧j≤i+G∧Below w.heap.size w wx∧Hid (∀k f,L[k]?=some f→k<i→f.1<t)∧Hid (∀k f,L[k]?=some f→j≤k→t≤f.1))
 case atStart=>exact⟨0,n,rfl,rfl,by omega,by omega,by omega,by go_grown,(fun k f _ h=>absurd h (by omega)),(fun k f h h2=>absurd ((List.getElem?_eq_some_iff.1 h).1) (by have:=HN.out;omega))⟩
 case round =>
   obtain⟨i,j,rfl,rfl,hij,hjn,hG,HB,hlo,hhi⟩:=hrel
   by_cases c:i=j
   · subst c
     have hd:restF t L=L.drop i:=low_at t L i (by have:=HN.out;omega) hlo.out hhi.out
     have HD:Hid (restF t L=L.drop i):=hd
     by_cases c2:i=n
     · have e:headEq t (restF t L)=false:=by rw [hd,List.drop_of_length_le (by have:=HN.out;omega)];rfl
       have E:Hid (headEq t (restF t L)=false):=e
       clear hd e hlo hhi
       subst c2
       go_wp2_with fail
       go_ret2
       exact⟨⟨i,Nat.le_refl _,HD.out,by rw [E.out];rfl⟩,HB⟩
     · obtain⟨g,hg⟩:∃g,L[i]?=some g:=⟨_,List.getElem?_eq_getElem (by have:=HN.out;omega)⟩
       obtain⟨b,o,hA,hb,c0,c1,c2'⟩:=(HF.out.keep HB).at hg
       subst hA
       have hlt:(i:Int)<(n:Int):=by omega
       have hgb:=rise_from HR.out i g hg
       obtain⟨v0,v1⟩:=HV.out
       obtain⟨t0,t1⟩:=ht
       have cc:=fun W=>ucmp_w g.1 g.2.1 g.2.2 t ⟨by omega,by omega⟩ ⟨by omega,by omega⟩ W
       have E:Hid (headEq t (restF t L)=decide (g.1=t)):=by
         show headEq t (restF t L)=_
         have hi':i<L.length:=by have:=HN.out;omega
         have e:=List.getElem?_eq_getElem hi'
         rw [hg] at e
         rw [hd,List.drop_eq_getElem_cons hi',←Option.some.inj e]
         rfl
       replace hg:Hid (L[i]?=some g):=hg
       clear hd hlo hhi hgb v0 v1 t0 t1
       by_cases q:g.1=t
       · have q1:(g.1-t==0)=true:=by simp;omega
         have E2:Hid (headEq t (restF t L)=true):=E.out.trans (decide_eq_true q)
         clear q E
         go_wp2_with (first | (go_at_call 75;(with_reducible refine (cc _).mono ?_);rintro _ W1 ⟨rfl,hb1⟩))
         go_ret2
         exact⟨⟨i,by omega,HD.out,by rw [E2.out];rfl⟩,later HB hb1⟩
       · have q1:(g.1-t==0)=false:=by simp;omega
         have E2:Hid (headEq t (restF t L)=false):=E.out.trans (decide_eq_false q)
         clear q E
         go_wp2_with (first | (go_at_call 75;(with_reducible refine (cc _).mono ?_);rintro _ W1 ⟨rfl,hb1⟩))
         go_ret2
         exact⟨⟨i,by omega,HD.out,by rw [E2.out];rfl⟩,later HB hb1⟩
   · have hlt:(i:Int)<(j:Int):=by omega
     obtain⟨m1,m2⟩:=half_mid (show i<j by omega)
     go_upto_region 5 with fail
     obtain⟨h,hh,h1,h2⟩:∃h:Nat,((i:Int)+(j:Int))/2=(h:Int)∧i≤h∧h<j:=⟨(i+j)/2,by omega,m1,m2⟩
     rw [hh]
     obtain⟨g,hg⟩:∃g,L[h]?=some g:=⟨_,List.getElem?_eq_getElem (by have:=HN.out;omega)⟩
     obtain⟨b,o,hA,hb,c0,c1,c2'⟩:=(HF.out.keep HB).at hg
     subst hA
     have hlt2:(h:Int)<(n:Int):=by omega
     have hgb:=rise_from HR.out h g hg
     obtain⟨v0,v1⟩:=HV.out
     obtain⟨t0,t1⟩:=ht
     have cc:=fun W=>ucmp_w g.1 g.2.1 g.2.2 t ⟨by omega,by omega⟩ ⟨by omega,by omega⟩ W
     have hlo2:Hid (g.1<t→∀k f,L[k]?=some f→k<h+1→f.1<t):=fun q k f hk hl=>by
       rcases Nat.lt_or_ge k h with e | e
       · have:=rise_lt HR.out k h f g hk hg e;omega
       · rw [show k=h by omega,hg] at hk;rw [←Option.some.inj hk];exact q
     have hhi2:Hid (¬g.1<t→∀k f,L[k]?=some f→h≤k→t≤f.1):=fun q k f hk hl=>by
       by_cases e:k=h
       · rw [e,hg] at hk;rw [←Option.some.inj hk];omega
       · have:=rise_lt HR.out h k g f hg hk (by omega);omega
     replace hg:Hid (L[h]?=some g):=hg
     clear hh hgb v0 v1 t0 t1 m1 m2
     by_cases q:g.1<t
     · have q1:g.1-t<0:=by omega
       have hl3:Hid (∀k f,L[k]?=some f→k<h+1→f.1<t):=hlo2.out q
       clear q hlo2 hhi2
       go_wp2_with (first | (go_at_call 75;(with_reducible refine (cc _).mono ?_);rintro _ W1 ⟨rfl,hb1⟩))
       go_roundg (gk-1)
       case measure=>omega
       case rel=>exact⟨h+1,j,by go_num,rfl,by omega,hjn,by omega,later HB hb1,hl3,hhi⟩
     · have q1:¬g.1-t<0:=by omega
       have hl3:Hid (∀k f,L[k]?=some f→h≤k→t≤f.1):=hhi2.out q
       clear q hlo2 hhi2
       go_wp2_with (first | (go_at_call 75;(with_reducible refine (cc _).mono ?_);rintro _ W1 ⟨rfl,hb1⟩))
       go_roundg (gk-1)
       case measure=>omega
       case rel=>exact⟨i,h,rfl,rfl,h1,by omega,by omega,later HB hb1,hlo,hl3⟩
theorem coF_no {t:Int} {L:List Fac} (h:headEq t (restF t L)=false):coF t L=(0,1):=by
 unfold coF
 cases hr:restF t L with
 | nil=>rfl
 | cons g K =>
   rw [hr] at h
   have:¬g.1=t:=of_decide_eq_false h
   simp only [if_neg this]
theorem coF_yes {t:Int} {L:List Fac} {i:Nat} (h:headEq t (restF t L)=true) (hd:restF t L=L.drop i):∃g,L[i]?=some g∧coF t L=g.2:=by
 unfold coF
 cases hr:restF t L with
 | nil=>rw [hr] at h;cases h
 | cons g K =>
   rw [hr] at h hd
   have e:g.1=t:=of_decide_eq_true h
   refine⟨g, ?_,by simp only [if_pos e]⟩
   have h0:(L.drop i)[0]?=some g:=by rw [←hd];rfl
   rw [List.getElem?_drop] at h0
   exact h0
set_option maxRecDepth 4000 in
set_option maxHeartbeats 4000000 in
theorem uexponent_w (E:Nat→Int×Int) (A:Option Addr) (c:Nat) (L:List Fac) (t v:Int) (hv:0≤v∧v≤500) (ht:0≤t∧t≤500) (hr:Rise v 0 L) (w:World) (fa:FacAt w A L) :
   Calls Try.prog 55 #[proV E (.slice A L.length c),.int .i64 t] w fun r w'=>r=.returned (.agg #[.int .i64 (coF t L).1,.int .i64 (coF t L).2])∧Below w.heap.size w w':=by
 have cs:=fun W f=>usearch_w A c L.length L t v rfl hv ht hr W f
 have cw:=fun W=>uwhole_w 0 W
 obtain⟨n,hn⟩:∃n,Hid (n=L.length):=⟨_,rfl⟩
 rw [←hn.out] at cs ⊢
 have hn5:Hid (∀(i:Nat) (g:Fac),L[i]?=some g→(i:Int)<(n:Int)):=fun i g h=>by have:=(List.getElem?_eq_some_iff.1 h).1;have:=hn.out;omega
 obtain⟨R,hR⟩:∃R:Int×Int,Hid (coF t L=R):=⟨_,rfl⟩
 rw [hR.out]
 clear hv hr
 show Calls Try.prog _ #[.agg #[.int .i64 (E 0).1,.int .i64 (E 0).2,.int .i64 (E 1).1,.int .i64 (E 1).2,.int .i64 (E 2).1,.int .i64 (E 2).2,.int .i64 (E 3).1,.int .i64 (E 3).2,.int .i64 (E 4).1,.int .i64 (E 4).2,.int .i64 (E 5).1,.int .i64 (E 5).2,.int .i64 (E 6).1,.int .i64 (E 6).2,.slice A n c],_] w _
 obtain⟨XB,RB,HB⟩:=blks2 w 79 27 [.int .i64 (E 0).1,.int .i64 (E 0).2,.int .i64 (E 1).1,.int .i64 (E 1).2,.int .i64 (E 2).1,.int .i64 (E 2).2,.int .i64 (E 3).1,.int .i64 (E 3).2,.int .i64 (E 4).1,.int .i64 (E 4).2,.int .i64 (E 5).1,.int .i64 (E 5).2,.int .i64 (E 6).1,.int .i64 (E 6).2,.slice A n c] [.int .i64 0,.int .i64 0]
 go_enter Try.func55,Try.ntmps55
 go_upto_region 1 with fail
 generalize ((w.alloc (.cells #[.int .i64 (E 0).1,.int .i64 (E 0).2,.int .i64 (E 1).1,.int .i64 (E 1).2,.int .i64 (E 2).1,.int .i64 (E 2).2,.int .i64 (E 3).1,.int .i64 (E 3).2,.int .i64 (E 4).1,.int .i64 (E 4).2,.int .i64 (E 5).1,.int .i64 (E 5).2,.int .i64 (E 6).1,.int .i64 (E 6).2,.slice A n c] 79)).alloc (.cells #[.int .i64 0,.int .i64 0] 27))=V1 at *
 have x14:=XB.cell 14 _ rfl
 cases hb:headEq t (restF t L) with
 | false =>
   rw [hb] at cs
   have eR:R=(0,1):=hR.out.symm.trans (coF_no hb)
   subst eR
   clear hb hR
   go_wp2_with (first
     | (go_at_call 74;(with_reducible refine (cs _ (fa.keep HB)).mono ?_);rintro _ W2 ⟨⟨i,hi,hd,rfl⟩,hb1⟩;replace HB:=later HB hb1;replace RB:=RB.keeps hb1;replace XB:=XB.keeps hb1;clear hb1 x14;have x14:=XB.cell 14 _ rfl;replace hd:Hid (restF t L=L.drop i):=hd)
     | (go_at_call 56;(with_reducible refine (cw _).mono ?_);rintro _ W3 ⟨rfl,hb1⟩;replace HB:=later HB hb1;replace RB:=RB.keeps hb1;clear hb1)
     | (refine wpList_storeBig (by rfl) _ _ 27 (by rfl) (RB) ([.int .i64 0,.int .i64 1]) (by kernel_rfl) (by rfl) (by rfl) (by rfl) (by rfl) ?_;rintro V2 XR hs2 hB2 hk2))
   exact bodyPost_ret (v:=.agg #[.int .i64 0,.int .i64 1]) (results_cell_row Try.results55 _ V2 (w.heap.size+1) 27 (([.int .i64 0,.int .i64 1]:List Value)).toArray (0,0) _ (by rfl) XR Try.underlying27 (by rfl) (by kernel_rfl)) rfl ⟨rfl,hB2 _ _ HB (by omega)⟩
 | true =>
   rw [hb] at cs
   have hb':Hid (headEq t (restF t L)=true):=hb
   clear hb
   go_upto_region 2 with (first
     | (go_at_call 74;(with_reducible refine (cs _ (fa.keep HB)).mono ?_);rintro _ W2 ⟨⟨i,hi,hd,rfl⟩,hb1⟩;replace HB:=later HB hb1;replace RB:=RB.keeps hb1;replace XB:=XB.keeps hb1;clear hb1 x14;have x14:=XB.cell 14 _ rfl;replace hd:Hid (restF t L=L.drop i):=hd))
   obtain⟨g,hg,hco⟩:=coF_yes hb'.out hd.out
   have eR:R=g.2:=hR.out.symm.trans hco
   subst eR
   have hin:=hn5.out i g hg
   obtain⟨b,o,hA,hbs,c0,c1,c2⟩:=(fa.keep HB).at hg
   subst hA
   clear hco hR hg
   go_wp2_with (first
     | (refine wpList_storeBig (by rfl) _ _ 27 (by rfl) (RB) ([.int .i64 g.2.1,.int .i64 g.2.2]) (by kernel_rfl) (by rfl) (by rfl) (by rfl) (by rfl) ?_;rintro V2 XR hs2 hB2 hk2))
   exact bodyPost_ret (v:=.agg #[.int .i64 g.2.1,.int .i64 g.2.2]) (results_cell_row Try.results55 _ V2 (w.heap.size+1) 27 (([.int .i64 g.2.1,.int .i64 g.2.2]:List Value)).toArray (0,0) _ (by rfl) XR Try.underlying27 (by rfl) (by kernel_rfl)) rfl ⟨rfl,hB2 _ _ HB (by omega)⟩
section
variable {P:Program} {ops:Array Oper} {Q:Exit→Act→World→Prop} {a:Act} {w:World} {o:Oper}
theorem step_storeBig {K:Act→World→Prop} {E:Prop} (hgd:Region.wanted o (yielded ops a.tmps)=true) (p v:Operand) (T:TypeId) (ho:o.op=.store T p v) {g:Nat} {T':TypeId} {old:List Value} (hrow:BlkAt w g T' old) (cs:List Value) (hi:(P.info? T).map (·.size)=some cs.length) (ho2:old.length=cs.length)
   (hp:a.eval p=.pointer (some ⟨g,0,none⟩)) (hv:a.eval v=.agg cs.toArray) (h1:cs.all (·.oneCell')=true)
   (h:∀W,BlkAt W g T' cs→W.heap.size=w.heap.size→(∀B w0,Below B w0 w→B≤g→Below B w0 W)→(∀k Tk ck,g≠k→BlkAt w k Tk ck→BlkAt W k Tk ck)→K (a.put o.dst undef) W):if Region.wanted o (yielded ops a.tmps)=true then Oper.wp P o a w K Q else E:=by
 rw [if_pos hgd]
 unfold Oper.wp
 obtain⟨dst,op,ty,pos,after,guard⟩:=o
 simp only at ho
 subst ho
 have hs:=run_storeVar_row (P:=P) w g T' T old.toArray cs.toArray hrow (by simpa using hi) (by simpa using ho2) (by simpa using h1)
 have e:(Instr.storeAt T (.pointer (some ⟨g,0,none⟩)) (.agg cs.toArray)).run P w=.ok () (w.setRow g cs.toArray):=by
   simp only [Instr.storeAt,Instr.sureAddr,Sem.run_bind,Sem.run_pure,Result.andThen]
   exact hs
 have e2:(execOp a.eval ⟨dst,.store T p v,ty,pos,after,guard⟩).run P w=.ok .skip (w.setRow g cs.toArray):=by
   simp only [execOp,hp,hv,Sem.run_bind,e,Result.andThen,Sem.run_pure]
 rw [e2]
 exact h _ hrow.set (by show (w.heap.modify g _).size=_;rw [Array.size_modify]) (fun B w0 hb hB=>below_setRow hb hB _) (fun k Tk ck hne hk=>hk.far hne _)
end
def kepV (o:Int) (E:Nat→Int×Int) (s:Value):Value:=.agg #[.int .i64 o,.int .i64 (E 0).1,.int .i64 (E 0).2,.int .i64 (E 1).1,.int .i64 (E 1).2,.int .i64 (E 2).1,.int .i64 (E 2).2,.int .i64 (E 3).1,.int .i64 (E 3).2,.int .i64 (E 4).1,.int .i64 (E 4).2,.int .i64 (E 5).1,.int .i64 (E 5).2,.int .i64 (E 6).1,.int .i64 (E 6).2,s]
def kepL (o:Int) (E:Nat→Int×Int) (s:Value):List Value:=[.int .i64 o,.int .i64 (E 0).1,.int .i64 (E 0).2,.int .i64 (E 1).1,.int .i64 (E 1).2,.int .i64 (E 2).1,.int .i64 (E 2).2,.int .i64 (E 3).1,.int .i64 (E 3).2,.int .i64 (E 4).1,.int .i64 (E 4).2,.int .i64 (E 5).1,.int .i64 (E 5).2,.int .i64 (E 6).1,.int .i64 (E 6).2,s]
theorem kep_val (o:Int) (E:Nat→Int×Int) (s:Value):kepV o E s=.agg (kepL o E s).toArray:=rfl
def divO (a p:Int×Int):Option (Int×Int):=if (divV11 a.1 a.2 p.1 p.2).2.2=0 then some ((divV11 a.1 a.2 p.1 p.2).1,(divV11 a.1 a.2 p.1 p.2).2.1) else none
theorem divO_cases {a p:Int×Int} (ha:ROk a) (hp:ROk p) (h0:p.1≠0):(∃m,divO a p=some m∧divV11 a.1 a.2 p.1 p.2=(m.1,m.2,0))∨(divO a p=none∧(divV11 a.1 a.2 p.1 p.2).2.2=3):=by
 have e:(divV11 a.1 a.2 p.1 p.2).2.2=0∨(divV11 a.1 a.2 p.1 p.2).2.2=3:=by
   unfold divV11
   rw [ha.1,hp.1,Bool.and_self,if_pos rfl,if_neg h0]
   exact ofV_err2 _ _ _
 unfold divO
 rcases e with h | h
 · exact Or.inl ⟨_,if_pos h,tri_ext h⟩
 · exact Or.inr ⟨if_neg (by rw [h];decide),h⟩
theorem divO_one {p m:Int×Int} (hp:ROk p) (h0:p.1≠0) (h:divO (1,1) p=some m):ROk m∧qP m*qP p=1:=by
 unfold divO at h
 by_cases c:(divV11 ((1,1):Int×Int).1 ((1,1):Int×Int).2 p.1 p.2).2.2=0
 · rw [if_pos c] at h
   have e:=Option.some.inj h
   have hr:=rightR_D hp.1
   have hd:divV11 1 1 p.1 p.2=ofV (!(decide ((1:Int)<0)==decide (p.1<0))) ((1:Int).natAbs*p.2.natAbs) ((1:Int).natAbs*p.1.natAbs):=by
     unfold divV11
     rw [rok_1.1,hp.1,Bool.and_self,if_pos rfl,if_neg h0]
   have hd2:divV11 1 1 p.1 p.2=(m.1,m.2,0):=by rw [←e];exact tri_ext c
   have h2:(1:Int).natAbs*p.1.natAbs≠0:=Nat.mul_ne_zero (by decide) (by omega)
   obtain⟨o1,o2,o3⟩:=ofV_ok h2 (hd ▸ hd2)
   refine⟨⟨o1,o3⟩, ?_⟩
   have hm:=rightR_D o1
   have z:m.1*p.1=p.2*m.2:=by
     have e1:(((1:Int).natAbs*p.1.natAbs:Nat):Int)=(p.1.natAbs:Int):=by simp
     have e2:(1:Int).natAbs*p.2.natAbs=p.2.natAbs:=by simp
     rw [e1,e2] at o2
     rcases Int.lt_or_gt_of_ne h0 with y | y
     · rw [show (!(decide ((1:Int)<0)==decide (p.1<0)))=true by rw [decide_eq_true y];rfl] at o2
       have q1:(p.1.natAbs:Int)=-p.1:=by omega
       have q2:sgnd true p.2.natAbs=-p.2:=by show -((p.2.natAbs:Nat):Int)=-p.2;omega
       rw [q1,q2] at o2
       grind
     · rw [show (!(decide ((1:Int)<0)==decide (p.1<0)))=false by rw [decide_eq_false (show ¬p.1<0 by omega)];rfl] at o2
       have q1:(p.1.natAbs:Int)=p.1:=by omega
       have q2:sgnd false p.2.natAbs=p.2:=by show ((p.2.natAbs:Nat):Int)=p.2;omega
       rw [q1,q2] at o2
       exact o2
   obtain⟨-,i1⟩:=qR_inv hm
   obtain⟨-,i2⟩:=qR_inv hr
   have zq:(m.1:Rat)*(p.1:Rat)=(p.2:Rat)*(m.2:Rat):=by rw [←Rat.intCast_mul,←Rat.intCast_mul,z]
   unfold qP qR
   grind
 · rw [if_neg c] at h;cases h
def keepO (R:Pro):Option (Int×Pro):=match R.2 with
 | []=>none
 | f :: _=>(divO (1,1) f.2).bind fun d=>(powerP R d).map fun Y=>(f.1,Y)
def KpAns (r:Ending) (w:World) (R:Option (Int×Pro)):Prop:=(∃X s,R=some X∧r=.returned (kepV X.1 X.2.1 s)∧FSl w s X.2.2)∨(R=none∧r=.panicked (stopP 3))
theorem KpAns.yes {r:Ending} {w:World} {X:Int×Pro} (h:KpAns r w (some X)):∃s,r=.returned (kepV X.1 X.2.1 s)∧FSl w s X.2.2:=by
 rcases h with ⟨L2,s,e,hr,f⟩ | ⟨e,_⟩
 · cases e;exact⟨s,hr,f⟩
 · cases e
theorem KpAns.no {r:Ending} {w:World} (h:KpAns r w none):r=.panicked (stopP 3):=by
 rcases h with ⟨_,_,e,_⟩ | ⟨_,hr⟩
 · cases e
 · exact hr
set_option maxRecDepth 4000 in
set_option maxHeartbeats 4000000 in
theorem ukeep_w (E:Nat→Int×Int) (A:Option Addr) (c:Nat) (f:Fac) (L:List Fac) (V:Int) (hV:0≤V∧V≤500) (hc:(f :: L).length≤c) (hR:POk V (E,f :: L)) (h0:f.2.1≠0) (w:World) (fa:FacAt w A (f :: L)) :
   Calls Try.prog 35 #[proV E (.slice A (f :: L).length c)] w fun r w'=>KpAns r w' (keepO (E,f :: L))∧Below w.heap.size w w':=by
 have hfo:ROk f.2:=hR.f f (List.mem_cons_self ..)
 have hl:=hR.s.length hV.1
 have c1:=fun W=>uwhole_w 1 W
 have cd:=fun W=>divRat_w 1 1 f.2.1 f.2.2 rok_1.2 hfo.2 W
 have cp:=fun W d hd fw=>upower_w E (f :: L) (.slice A (f :: L).length c) d hR.d hR.r hd hR.f (by have:=hV.2;have h2:(((f :: L).length:Nat):Int)≤V-0:=hl;omega) W fw
 have fs:FSl w (.slice A (f :: L).length c) (f :: L):=⟨A,c,rfl,hc,fa⟩
 obtain⟨b,o,hA,hbs,d0,d1,d2, -⟩:=fa.head
 obtain⟨n,hn⟩:∃n,Hid (n=(f :: L).length):=⟨_,rfl⟩
 rw [←hn.out] at fs cp ⊢
 have hn0:0<n:=by have:=hn.out;simp at this;omega
 subst hA
 obtain⟨R,hRR⟩:∃R,Hid (keepO (E,f :: L)=R):=⟨_,rfl⟩
 rw [hRR.out]
 have hkO:keepO (E,f :: L)=(divO (1,1) f.2).bind fun d=>(powerP (E,f :: L) d).map fun Y=>(f.1,Y):=rfl
 rw [hkO] at hRR
 have HP:Hid (POk V (E,f :: L)):=hR
 have hdv:=divO_cases rok_1 hfo h0
 have HD:Hid ((∃m,divO (1,1) f.2=some m∧divV11 1 1 f.2.1 f.2.2=(m.1,m.2,0))∨(divO (1,1) f.2=none∧(divV11 1 1 f.2.1 f.2.2).2.2=3)):=hdv
 have HF:Hid (ROk f.2∧f.2.1≠0):=⟨hfo,h0⟩
 clear hR hkO hdv h0 hfo hl hV hc
 show Calls Try.prog _ #[.agg #[.int .i64 (E 0).1,.int .i64 (E 0).2,.int .i64 (E 1).1,.int .i64 (E 1).2,.int .i64 (E 2).1,.int .i64 (E 2).2,.int .i64 (E 3).1,.int .i64 (E 3).2,.int .i64 (E 4).1,.int .i64 (E 4).2,.int .i64 (E 5).1,.int .i64 (E 5).2,.int .i64 (E 6).1,.int .i64 (E 6).2,.slice (some ⟨b,o,none⟩) n c]] w _
 obtain⟨XB,RB,HB⟩:=blks2 w 79 82 [.int .i64 (E 0).1,.int .i64 (E 0).2,.int .i64 (E 1).1,.int .i64 (E 1).2,.int .i64 (E 2).1,.int .i64 (E 2).2,.int .i64 (E 3).1,.int .i64 (E 3).2,.int .i64 (E 4).1,.int .i64 (E 4).2,.int .i64 (E 5).1,.int .i64 (E 5).2,.int .i64 (E 6).1,.int .i64 (E 6).2,.slice (some ⟨b,o,none⟩) n c] [.int .i64 0,.int .i64 0,.int .i64 0,.int .i64 0,.int .i64 0,.int .i64 0,.int .i64 0,.int .i64 0,.int .i64 0,.int .i64 0,.int .i64 0,.int .i64 0,.int .i64 0,.int .i64 0,.int .i64 0,.slice none 0 0]
 go_enter Try.func35,Try.ntmps35
 go_upto_region 1 with fail
 generalize ((w.alloc (.cells #[.int .i64 (E 0).1,.int .i64 (E 0).2,.int .i64 (E 1).1,.int .i64 (E 1).2,.int .i64 (E 2).1,.int .i64 (E 2).2,.int .i64 (E 3).1,.int .i64 (E 3).2,.int .i64 (E 4).1,.int .i64 (E 4).2,.int .i64 (E 5).1,.int .i64 (E 5).2,.int .i64 (E 6).1,.int .i64 (E 6).2,.slice (some ⟨b,o,none⟩) n c] 79)).alloc (.cells #[.int .i64 0,.int .i64 0,.int .i64 0,.int .i64 0,.int .i64 0,.int .i64 0,.int .i64 0,.int .i64 0,.int .i64 0,.int .i64 0,.int .i64 0,.int .i64 0,.int .i64 0,.int .i64 0,.int .i64 0,.slice none 0 0] 82))=V1 at *
 have x14:=XB.cell 14 _ rfl
 have g0:=keepsC HB d0 hbs
 have g1:=keepsC HB d1 hbs
 have g2:=keepsC HB d2 hbs
 go_upto_region 2 with (first
   | (refine wpList_storeBig (by rfl) _ _ 104 (by rfl) (blk_new _ _ _) ([.int .i64 f.1,.int .i64 f.2.1,.int .i64 f.2.2]) (by kernel_rfl) (by rfl) (by rfl) (by rfl) (by rfl) ?_;rintro V2 XR hs2 hB2 hk2))
 have XF:=XR
 have hfb:w.heap.size+1<V1.heap.size:=RB.lt
 replace XB:=hk2 _ _ _ (by omega) (XB.keeps (Below.alloc (Below.refl _ _) (Nat.le_refl _) _))
 replace RB:=hk2 _ _ _ (by omega) (RB.keeps (Below.alloc (Below.refl _ _) (Nat.le_refl _) _))
 replace HB:=hB2 _ _ (Below.alloc HB HB.size _) HB.size
 obtain⟨fb,hfb2⟩:∃fb,fb=V1.heap.size:=⟨_,rfl⟩
 rw [←hfb2] at XF hfb ⊢
 clear XR hB2 hk2 hs2 hfb2 x14 g0 g1 g2
 try simp only [Act.put]
 obtain⟨dN,dD,de,hd⟩:∃x y z,divV11 1 1 f.2.1 f.2.2=(x,y,z):=⟨_,_,_,rfl⟩
 rw [hd] at cd
 replace hd:Hid (divV11 1 1 f.2.1 f.2.2=(dN,dD,de)):=hd
 refine wp_region_held_drew (S:=fun W=>BlkAt W w.heap.size 79 (proL E (.slice (some ⟨b,o,none⟩) n c))∧W.cell? ⟨fb,0,none⟩=some (.int .i64 f.1)∧W.cell? ⟨fb,1,none⟩=some (.int .i64 f.2.1)∧W.cell? ⟨fb,2,none⟩=some (.int .i64 f.2.2)) (by kernel_rfl) ⟨XB,XF.cell 0 _ rfl,XF.cell 1 _ rfl,XF.cell 2 _ rfl⟩ (fun hHeld=>?_)
 refine wpAnyH_take (i:=0) (v:=?_) rfl (by kernel_rfl) (by kernel_rfl) (by kernel_rfl) (fun _ _ _ h=>h) (Or.inl ⟨by rfl, ?_⟩) hHeld ?_;rotate_left;(focus ((intro w hSw;(try dsimp only at hSw);go_simp);try with_reducible rfl));simp only [List.getElem_toArray,List.getElem_cons_zero,Act.put,List.setIfInBounds_toArray,List.set_cons_zero,List.set_cons_succ];refine wpAnyH_take (i:=1) (v:=?_) rfl (by kernel_rfl) (by kernel_rfl) (by kernel_rfl) (fun _ _ _ h=>h) (Or.inl ⟨by rfl, ?_⟩) hHeld ?_;rotate_left;(focus ((intro w hSw;(try dsimp only at hSw);go_simp);try with_reducible rfl));simp only [List.getElem_toArray,List.getElem_cons_zero,List.getElem_cons_succ,Act.put,List.setIfInBounds_toArray,List.set_cons_zero,List.set_cons_succ]
 refine wpAnyH_take (i:=2) (v:=proV E (.slice (some ⟨b,o,none⟩) n c)) rfl (by kernel_rfl) (by kernel_rfl) (by kernel_rfl) (fun _ _ _ h=>h) (yields_loadBig (by rfl) _ 79 (by rfl) Try.underlying79 (proL E (.slice (some ⟨b,o,none⟩) n c)) (by kernel_rfl) (by rfl) (fun W hS=>hS.1.cell0) (pro_val _ _)) hHeld ?_;simp only [List.getElem_toArray,List.getElem_cons_zero,List.getElem_cons_succ,Act.put,List.setIfInBounds_toArray,List.set_cons_zero,List.set_cons_succ]
 refine wpAnyH_take (i:=4) (v:=?_) rfl (by kernel_rfl) (by kernel_rfl) (by kernel_rfl) (fun _ _ _ h=>h) (Or.inl ⟨by rfl, ?_⟩) hHeld ?_;rotate_left;(focus ((intro w hSw;(try dsimp only at hSw);go_simp);try with_reducible rfl));simp only [List.getElem_toArray,List.getElem_cons_zero,List.getElem_cons_succ,Act.put,List.setIfInBounds_toArray,List.set_cons_zero,List.set_cons_succ];refine wpAnyH_take (i:=5) (v:=?_) rfl (by kernel_rfl) (by kernel_rfl) (by kernel_rfl) (fun _ _ _ h=>h) (Or.inl ⟨by rfl, ?_⟩) hHeld ?_;rotate_left;(focus ((intro w hSw;(try dsimp only at hSw);go_simp);try with_reducible rfl));simp only [List.getElem_toArray,List.getElem_cons_zero,List.getElem_cons_succ,Act.put,List.setIfInBounds_toArray,List.set_cons_zero,List.set_cons_succ]
 have HD0:Below V2.heap.size V2 V2.drew:=(Below.refl _ _).drew
 replace HB:=later HB HD0
 replace RB:=RB.keeps HD0
 replace XB:=XB.keeps HD0
 replace XF:=XF.keeps HD0
 clear HD0
 refine wpAnyH_ready (rs:=[3]) (by kernel_rfl) (by simp) ?_;refine AllReadyH.cons rfl (fun K hK=>?_) AllReadyH.nil;simp only [List.getElem_toArray,List.getElem_cons_zero,List.getElem_cons_succ,Act.put,List.setIfInBounds_toArray,List.set_cons_zero,List.set_cons_succ];go_simp
 go_at_call 56
 (with_reducible refine (c1 _).mono ?_)
 rintro _ W3 ⟨rfl,hb1⟩
 replace HB:=later HB hb1
 replace RB:=RB.keeps hb1
 replace XB:=XB.keeps hb1
 replace XF:=XF.keeps hb1
 clear hb1
 dsimp only
 refine hK.out _ _ ⟨XB,XF.cell 0 _ rfl,XF.cell 1 _ rfl,XF.cell 2 _ rfl⟩ (fun hHeld=>?_)
 clear hK K
 refine wpAnyH_ready (rs:=[6]) (by kernel_rfl) (by simp) ?_;refine AllReadyH.cons rfl (fun K hK=>?_) AllReadyH.nil;simp only [List.getElem_toArray,List.getElem_cons_zero,List.getElem_cons_succ,Act.put,List.setIfInBounds_toArray,List.set_cons_zero,List.set_cons_succ];go_simp
 go_at_call 61
 (with_reducible refine (cd _).mono ?_)
 rintro _ W6 ⟨rfl,hb1⟩
 replace HB:=later HB hb1
 replace RB:=RB.keeps hb1
 replace XB:=XB.keeps hb1
 replace XF:=XF.keeps hb1
 clear hb1
 dsimp only
 refine hK.out _ _ ⟨XB,XF.cell 0 _ rfl,XF.cell 1 _ rfl,XF.cell 2 _ rfl⟩ (fun hHeld=>?_)
 clear hK K
 refine wpAnyH_take (i:=7) (v:=?_) rfl (by kernel_rfl) (by kernel_rfl) (by kernel_rfl) (fun _ _ _ h=>h) (Or.inl ⟨by rfl, ?_⟩) hHeld ?_;rotate_left;(focus ((intro w hSw;(try dsimp only at hSw);go_simp);try with_reducible rfl));simp only [List.getElem_toArray,List.getElem_cons_zero,List.getElem_cons_succ,Act.put,List.setIfInBounds_toArray,List.set_cons_zero,List.set_cons_succ];refine wpAnyH_take (i:=8) (v:=?_) rfl (by kernel_rfl) (by kernel_rfl) (by kernel_rfl) (fun _ _ _ h=>h) (Or.inl ⟨by rfl, ?_⟩) hHeld ?_;rotate_left;(focus ((intro w hSw;(try dsimp only at hSw);go_simp);try with_reducible rfl));simp only [List.getElem_toArray,List.getElem_cons_zero,List.getElem_cons_succ,Act.put,List.setIfInBounds_toArray,List.set_cons_zero,List.set_cons_succ]
 clear c1 cd
 rcases HD.out with ⟨m,hm1,hm2⟩ | ⟨hm1,hm2⟩
 · have hd2:=hd.out
   rw [hm2] at hd2
   injection hd2 with e1 e2
   injection e2 with e2 e3
   subst e1 e2 e3
   have hmo:ROk m:=(divO_one HF.out.1 HF.out.2 hm1).1
   obtain⟨T,hT⟩:∃T,Hid (powerP (E,f :: L) m=T):=⟨_,rfl⟩
   have hRR2:Hid ((T.map fun Y=>(f.1,Y))=R):=by have q:=hRR.out;rw [hm1] at q;rw [←hT.out];exact q
   have ct:=fun W fw=>cp W m hmo fw
   rw [hT.out] at ct
   have cu:=fun W=>must_ok m.1 m.2 W
   clear hRR hm1 hm2 HD hd hT cp hmo
   refine wpAnyH_ready (rs:=[9]) (by kernel_rfl) (by simp) ?_;refine AllReadyH.cons rfl (fun K hK=>?_) AllReadyH.nil;simp only [List.getElem_toArray,List.getElem_cons_zero,List.getElem_cons_succ,Act.put,List.setIfInBounds_toArray,List.set_cons_zero,List.set_cons_succ];go_simp
   go_at_call 58
   (with_reducible refine (cu _).mono ?_)
   rintro _ W9 ⟨rfl,hb1⟩
   replace HB:=later HB hb1
   replace RB:=RB.keeps hb1
   replace XB:=XB.keeps hb1
   replace XF:=XF.keeps hb1
   clear hb1
   dsimp only
   refine hK.out _ _ ⟨XB,XF.cell 0 _ rfl,XF.cell 1 _ rfl,XF.cell 2 _ rfl⟩ (fun hHeld=>?_)
   clear hK K
   refine wpAnyH_ready (rs:=[10]) (by kernel_rfl) (by simp) ?_;refine AllReadyH.cons rfl (fun K hK=>?_) AllReadyH.nil;simp only [List.getElem_toArray,List.getElem_cons_zero,List.getElem_cons_succ,Act.put,List.setIfInBounds_toArray,List.set_cons_zero,List.set_cons_succ];go_simp
   go_at_call 60
   (with_reducible refine (ct _ (fs.keep HB)).mono ?_)
   rintro r W2 ⟨hM,hb2⟩
   cases T with
   | none =>
     have eR:Hid (R=none):=hRR2.out.symm
     have hr:=hM.no
     subst hr
     exact⟨rfl,Or.inr ⟨eR.out,rfl⟩,later HB hb2⟩
   | some Y =>
     have eR:Hid (R=some (f.1,Y)):=hRR2.out.symm
     obtain⟨s,hr,A9,c9,rfl,hc9,fa9⟩:=hM.yes
     replace hr:r=.returned (.agg #[.int .i64 (Y.1 0).1,.int .i64 (Y.1 0).2,.int .i64 (Y.1 1).1,.int .i64 (Y.1 1).2,.int .i64 (Y.1 2).1,.int .i64 (Y.1 2).2,.int .i64 (Y.1 3).1,.int .i64 (Y.1 3).2,.int .i64 (Y.1 4).1,.int .i64 (Y.1 4).2,.int .i64 (Y.1 5).1,.int .i64 (Y.1 5).2,.int .i64 (Y.1 6).1,.int .i64 (Y.1 6).2,.slice A9 Y.2.length c9]):=hr
     subst hr
     have fl:FSl W2 (.slice A9 Y.2.length c9) Y.2:=⟨A9,c9,rfl,hc9,fa9⟩
     replace HB:=later HB hb2
     replace RB:=RB.keeps hb2
     replace XB:=XB.keeps hb2
     replace XF:=XF.keeps hb2
     clear hb2 hM
     dsimp only
     refine hK.out _ _ ⟨XB,XF.cell 0 _ rfl,XF.cell 1 _ rfl,XF.cell 2 _ rfl⟩ (fun hHeld=>?_)
     clear hK K
     refine wpAnyH_take (i:=11) (v:=?_) rfl (by kernel_rfl) (by kernel_rfl) (by kernel_rfl) (fun _ _ _ h=>h) (Or.inl ⟨by rfl, ?_⟩) hHeld ?_;rotate_left;(focus ((intro w hSw;(try dsimp only at hSw);go_simp);try with_reducible rfl));simp only [List.getElem_toArray,List.getElem_cons_zero,List.getElem_cons_succ,Act.put,List.setIfInBounds_toArray,List.set_cons_zero,List.set_cons_succ]
     refine wpAnyH_ready (rs:=[12]) (by kernel_rfl) (by simp) ?_
     refine AllReadyH.cons rfl (fun K hK=>?_) AllReadyH.nil
     refine step_storeBig (by rfl) _ _ 82 (by rfl) RB (kepL f.1 Y.1 (.slice A9 Y.2.length c9)) (by kernel_rfl) (by rfl) (by rfl) (by rfl) (by rfl) ?_
     rintro V4 XR hs2 hB2 hk2
     have XB2:=hk2 _ _ _ (by omega) XB
     have XF2:=hk2 _ _ _ (by omega) XF
     refine hK.out _ _ ⟨XB2,XF2.cell 0 _ rfl,XF2.cell 1 _ rfl,XF2.cell 2 _ rfl⟩ (fun _=>wpAnyH_done (by kernel_rfl) ?_ _)
     clear hK K
     have fl2:=fl.other RB (by decide) hk2
     go_wp2_with fail
     exact bodyPost_ret (v:=kepV f.1 Y.1 (.slice A9 Y.2.length c9)) (results_cell_row Try.results35 _ V4 (w.heap.size+1) 82 (kepL f.1 Y.1 (.slice A9 Y.2.length c9)).toArray (0,0) _ (by rfl) XR Try.underlying82 (by rfl) (by kernel_rfl)) rfl ⟨Or.inl ⟨(f.1,Y),_,eR.out,rfl,fl2⟩,hB2 _ _ HB (by omega)⟩
 · have eR:Hid (R=none):=by have q:=hRR.out;rw [hm1] at q;exact q.symm
   have hd2:=hd.out
   have e3:de=3:=by rw [hd2] at hm2;exact hm2
   subst e3
   clear hRR hm1 hm2 hd2 HD hd cp
   refine wpAnyH_ready (rs:=[9]) (by kernel_rfl) (by simp) ?_;refine AllReadyH.cons rfl (fun K hK=>?_) AllReadyH.nil;simp only [List.getElem_toArray,List.getElem_cons_zero,List.getElem_cons_succ,Act.put,List.setIfInBounds_toArray,List.set_cons_zero,List.set_cons_succ];go_simp
   go_at_call 58
   (with_reducible refine (must_no dN dD 3 (by decide) _).mono ?_)
   rintro _ W9 ⟨rfl,hb1⟩
   exact⟨rfl,Or.inr ⟨eR.out,rfl⟩,later HB hb1⟩
end Go.Proofs.Ytbejmklkicoibaa
namespace Go.Proofs.Ytbejmklkicoibaa
def negR (e:Int×Int):Int×Int:=(-e.1,e.2)
theorem rok_neg {e:Int×Int} (h:ROk e):ROk (negR e)∧qP (negR e)=- qP e:=by
 have hn:=rightR_N h.1
 refine⟨⟨rightR_neg h.1 h.2.1, ?_,h.2.2⟩,(qR_neg e.1 e.2).symm⟩
 obtain⟨a,b⟩:=h.2.1
 show -9223372036854775808≤-e.1∧-e.1≤9223372036854775807
 omega
theorem sub_neg {e:Int×Int} (h:ROk e):subV11 0 1 e.1 e.2=((negR e).1,(negR e).2,0):=by
 unfold subV11
 rw [if_pos h.1]
 have n:=rok_neg h
 refine addV11_of rok_zero.1 n.1.1 n.1.1 n.1.2 ?_
 show -e.1*(1*e.2)=(0*e.2+-e.1*1)*e.2
 grind
def freedF (R:Pro):List (Int×Pro)→Option Pro
 | []=>some R
 | k :: ks=>if coF k.1 R.2=(0,1) then freedF R ks else (timesP R k.2 (negR (coF k.1 R.2))).bind fun Y=>freedF Y ks
theorem coF_ok {t:Int} {L:List Fac} (h:FOk L):ROk (coF t L):=by
 unfold coF
 have h2:=FOk.rest (u:=t) h
 cases hr:restF t L with
 | nil=>exact rok_zero
 | cons g K =>
   rw [hr] at h2
   dsimp only
   split
   · exact h2 g (List.mem_cons_self ..)
   · exact rok_zero
def FG (G:Nat→Bool) (L:List Fac):Prop:=∀f,f∈L→G f.1.toNat=false∧f.2≠(0,1)
theorem FG.nil {G:Nat→Bool}:FG G []:=fun f hf=>by cases hf
theorem FG.tail {G:Nat→Bool} {f:Fac} {L:List Fac} (h:FG G (f :: L)):FG G L:=fun k hk=>h k (List.mem_cons_of_mem _ hk)
theorem FG.append {G:Nat→Bool} {L M:List Fac} (h:FG G L) (k:FG G M):FG G (L++M):=fun f hf=>(List.mem_append.1 hf).elim (h f) (k f)
theorem low_mem {u:Int}:∀{L:List Fac} {f:Fac},f∈lowF u L→f∈L
 | [],f,h=>by cases h
 | g :: L,f,h=>by
   unfold lowF at h
   split at h
   · rcases List.mem_cons.1 h with e | e
     · rw [e];exact List.mem_cons_self ..
     · exact List.mem_cons_of_mem _ (low_mem e)
   · cases h
theorem rest_mem {u:Int}:∀{L:List Fac} {f:Fac},f∈restF u L→f∈L
 | [],f,h=>by cases h
 | g :: L,f,h=>by
   unfold restF at h
   split at h
   · exact List.mem_cons_of_mem _ (rest_mem h)
   · exact h
theorem FG.keep {G:Nat→Bool} {u:Int} {e:Int×Int} (h:G u.toNat=false):FG G (keepF u e):=by
 unfold keepF
 split
 · exact FG.nil
 · rename_i c
   intro f hf
   rw [List.mem_singleton.1 hf]
   exact⟨h,c⟩
theorem stepF_fg {G:Nat→Bool} {p:Int×Int} {f:Fac} {r:List Fac} {x:(Int×Int)×List Fac} (hr:FG G r) (h:stepF p f r=some x):FG G x.2:=by
 unfold stepF at h
 cases hm:mulO f.2 p with
 | none=>rw [hm] at h;cases h
 | some m =>
   rw [hm] at h
   match r,hr,h with
   | [],_,h=>have e:=Option.some.inj h;subst e;exact FG.nil
   | g :: a,hr,h =>
     simp only [Option.bind_some] at h
     by_cases c:g.1=f.1
     · rw [if_pos c] at h
       cases hs:addO g.2 m with
       | none=>rw [hs] at h;cases h
       | some e=>rw [hs] at h;have e2:=Option.some.inj h;subst e2;exact hr.tail
     · rw [if_neg c] at h
       have e:=Option.some.inj h
       subst e
       exact hr
theorem mergeF_fg {G:Nat→Bool} {p:Int×Int}:∀{b a r:List Fac},FG G a→FG G b→mergeF p a b=some r→FG G r
 | [],a,r,ha,_,h=>by have e:=Option.some.inj h;subst e;exact ha
 | f :: b,a,r,ha,hb,h=>by
   unfold mergeF at h
   cases hs:stepF p f (restF f.1 a) with
   | none=>rw [hs] at h;cases h
   | some x =>
     rw [hs] at h
     simp only [Option.bind_some] at h
     have hx:=stepF_fg (G:=G) (fun k hk=>ha k (rest_mem hk)) hs
     cases hm:mergeF p x.2 b with
     | none=>rw [hm] at h;cases h
     | some t =>
       rw [hm] at h
       have e:=Option.some.inj h
       subst e
       exact FG.append (fun k hk=>ha k (low_mem hk)) (FG.append (FG.keep (hb f (List.mem_cons_self ..)).1) (mergeF_fg hx hb.tail hm))
theorem timesP_fg {G:Nat→Bool} {a b Y:Pro} {p:Int×Int} (ha:FG G a.2) (hb:FG G b.2) (h:timesP a b p=some Y):FG G Y.2:=by
 unfold timesP at h
 by_cases z:tmF a.1 b.1 p.1 p.2 7=0
 · rw [if_pos z] at h
   cases hm:mergedF p a.2 b.2 with
   | none=>rw [hm] at h;cases h
   | some L =>
     rw [hm] at h
     have e:=Option.some.inj h
     subst e
     unfold mergedF at hm
     by_cases c:b.2.length=0∨p=(0,1)
     · rw [if_pos c] at hm;have e:=Option.some.inj hm;subst e;exact ha
     · rw [if_neg c] at hm;exact mergeF_fg ha hb hm
 · rw [if_neg z] at h;cases h
theorem dimF_fg {X:Nat→Nd} {G:Nat→Bool} {D:Nat→Nat→Int×Int} {S0:Nat→Int×Int} {Q:Nat→Pro} {x:Nd} {Y:Pro}
   (ka:1≤arG x.k→FG G (Q x.a.toNat).2) (kb:2≤arG x.k→FG G (Q x.b.toNat).2) (h:dimF X G D S0 Q x=some Y):FG G Y.2:=by
 unfold dimF at h
 by_cases c1:x.k=1
 · rw [if_pos c1] at h;have e:=Option.some.inj h;subst e;exact FG.nil
 rw [if_neg c1] at h
 by_cases c2:x.k=2
 · rw [if_pos c2] at h
   unfold varP at h
   refine timesP_fg ?_ FG.nil h
   cases hG:G x.v.toNat with
   | true=>rw [if_pos rfl];exact FG.nil
   | false=>rw [if_neg (by simp)];intro f hf;rw [List.mem_singleton.1 hf];exact⟨hG,by show ((1,1):Int×Int)≠(0,1);decide⟩
 rw [if_neg c2] at h
 by_cases c15:x.k=15
 · rw [if_pos c15] at h;have e:=Option.some.inj h;subst e;exact FG.nil
 rw [if_neg c15] at h
 by_cases c3:x.k=3∨x.k=4
 · rw [if_pos c3] at h
   have ar:arG x.k=2:=by rcases c3 with c | c <;> rw [c] <;> rfl
   have e:=Option.some.inj h
   subst e
   cases frB (X x.a.toNat) with
   | true=>exact kb (by omega)
   | false=>exact ka (by omega)
 rw [if_neg c3] at h
 by_cases c5:x.k=5
 · rw [if_pos c5] at h
   have ar:arG x.k=2:=by rw [c5];rfl
   exact timesP_fg (ka (by omega)) (kb (by omega)) h
 rw [if_neg c5] at h
 by_cases c6:x.k=6
 · rw [if_pos c6] at h
   have ar:arG x.k=2:=by rw [c6];rfl
   exact timesP_fg (ka (by omega)) (kb (by omega)) h
 rw [if_neg c6] at h
 by_cases c7:x.k=7
 · rw [if_pos c7] at h
   have ar:arG x.k=1:=by rw [c7];rfl
   have e:=Option.some.inj h
   subst e
   exact ka (by omega)
 rw [if_neg c7] at h
 by_cases c8:x.k=8
 · rw [if_pos c8] at h
   have ar:arG x.k=1:=by rw [c8];rfl
   exact timesP_fg FG.nil (ka (by omega)) h
 rw [if_neg c8] at h
 by_cases c9:x.k=9
 · rw [if_pos c9] at h
   have ar:arG x.k=1:=by rw [c9];rfl
   exact timesP_fg FG.nil (ka (by omega)) h
 rw [if_neg c9] at h
 have e:=Option.some.inj h
 subst e
 exact FG.nil
theorem ruleF_fg {X:Nat→Nd} {G:Nat→Bool} {Q:Nat→Pro} {x:Nd} {L:List Pro}
   (ka:1≤arG x.k→FG G (Q x.a.toNat).2) (kb:2≤arG x.k→FG G (Q x.b.toNat).2) (h:ruleF X Q x=some L):∀Y,Y∈L→FG G Y.2:=by
 have none:∀Y,Y∈([]:List Pro)→FG G Y.2:=fun Y hY=>by cases hY
 unfold ruleF at h
 by_cases c3:x.k=3∨x.k=4
 · rw [if_pos c3] at h
   have ar:arG x.k=2:=by rcases c3 with c | c <;> rw [c] <;> rfl
   cases hf:frB (X x.a.toNat) with
   | true=>rw [hf] at h;have e:=Option.some.inj h;subst e;exact none
   | false =>
     rw [hf] at h
     cases hg:frB (X x.b.toNat) with
     | true=>rw [hg] at h;have e:=Option.some.inj h;subst e;exact none
     | false =>
       rw [hg] at h
       simp only [Bool.false_eq_true,if_false] at h
       cases ht:timesP (Q x.a.toNat) (Q x.b.toNat) (-1,1) with
       | none=>rw [ht] at h;cases h
       | some Y =>
         rw [ht] at h
         have e:=Option.some.inj h
         subst e
         intro Z hZ
         rw [List.mem_singleton.1 hZ]
         exact timesP_fg (ka (by omega)) (kb (by omega)) ht
 · rw [if_neg c3] at h
   by_cases c:10≤x.k∧x.k≤14
   · rw [if_pos c] at h
     have ar:arG x.k=1:=by rcases (show x.k=10∨x.k=11∨x.k=12∨x.k=13∨x.k=14 by omega) with h | h | h | h | h <;> rw [h] <;> rfl
     cases hf:frB (X x.a.toNat) with
     | true=>rw [hf] at h;have e:=Option.some.inj h;subst e;exact none
     | false =>
       rw [hf] at h
       have e:=Option.some.inj h
       subst e
       intro Z hZ
       rw [List.mem_singleton.1 hZ]
       exact ka (by omega)
   · rw [if_neg c] at h
     have e:=Option.some.inj h
     subst e
     exact none
def oneAt (t:Int) (u:Int):Rat:=if u=t then 1 else 0
theorem evF_none {t v:Int}:∀{L:List Fac} {l:Int},Rise v l L→t<l→evF (oneAt t) L=0
 | [],_,_,_=>rfl
 | f :: L,l,r,h=>by
   have:=r.1
   have c:¬f.1=t:=by omega
   simp only [evF]
   rw [evF_none r.2.2 (by omega)]
   unfold oneAt
   rw [if_neg c]
   grind
theorem co_ev {t v:Int}:∀{L:List Fac} {l:Int},Rise v l L→evF (oneAt t) L=qP (coF t L)
 | [],_,_=>by show (0:Rat)=qP (0,1);rw [qP_zero]
 | f :: L,l,r=>by
   simp only [evF]
   unfold coF restF
   by_cases c:f.1<t
   · rw [if_pos c]
     have e:=co_ev (t:=t) r.2.2
     unfold coF at e
     rw [e]
     unfold oneAt
     rw [if_neg (by omega)]
     grind
   · rw [if_neg c]
     dsimp only
     rw [evF_none r.2.2 (by omega)]
     unfold oneAt
     by_cases d:f.1=t
     · rw [if_pos d,if_pos d];grind
     · rw [if_neg d,if_neg d,qP_zero];grind
theorem co_mem {v:Int}:∀{L:List Fac} {l:Int},Rise v l L→∀f,f∈L→coF f.1 L=f.2
 | [],_,_,f,h=>by cases h
 | g :: L,l,r,f,h=>by
   unfold coF restF
   rcases List.mem_cons.1 h with e | e
   · subst e
     rw [if_neg (by omega)]
     dsimp only
     rw [if_pos rfl]
   · obtain⟨i,hi⟩:=List.getElem?_of_mem e
     have:=(rise_from r.2.2 i f hi).1
     rw [if_pos (by omega)]
     have q:=co_mem r.2.2 f e
     unfold coF at q
     exact q
theorem evF_zero0:∀L,evF (fun _=>0) L=0
 | []=>rfl
 | f :: L=>by simp only [evF,evF_zero0 L];grind
theorem coF_times {V:Int} {a b Y:Pro} {p:Int×Int} (ha:POk V a) (hb:POk V b) (hp:ROk p) (h:timesP a b p=some Y) (t:Int):qP (coF t Y.2)=qP (coF t a.2)+qP p*qP (coF t b.2):=by
 obtain⟨hY,q⟩:=timesP_some ha hb hp h
 have q1:=q (fun u _=>oneAt t u) 0 (by decide)
 have q0:=q (fun _ _=>0) 0 (by decide)
 unfold evP at q1 q0
 rw [evF_zero0,evF_zero0,evF_zero0] at q0
 have e1:evF (fun u=>oneAt t u) Y.2=qP (coF t Y.2):=co_ev hY.s
 have e2:evF (fun u=>oneAt t u) a.2=qP (coF t a.2):=co_ev ha.s
 have e3:evF (fun u=>oneAt t u) b.2=qP (coF t b.2):=co_ev hb.s
 rw [e1,e2,e3] at q1
 grind
structure KOk (V:Int) (G:Nat→Bool) (k:Int×Pro):Prop where
 p:POk V k.2
 l:0≤k.1
 h:k.1<V
 g:FG G k.2.2
 n:G k.1.toNat=false
 o:qP (coF k.1 k.2.2)=1
theorem freedF_some {V:Int} {G:Nat→Bool}:∀{K:List (Int×Pro)} {R Y:Pro},(∀k,k∈K→KOk V G k)→K.Pairwise (fun a b=>coF a.1 b.2.2=(0,1))→POk V R→FG G R.2→freedF R K=some Y →
   POk V Y∧FG G Y.2∧(∀k,k∈K→coF k.1 Y.2=(0,1))∧(∀t,coF t R.2=(0,1)→(∀k,k∈K→coF t k.2.2=(0,1))→coF t Y.2=(0,1))∧∀S,(∀k,k∈K→∀e,e<7→evP S k.2 e=0)→∀e,e<7→evP S Y e=evP S R e
 | [],R,Y,_,_,hR,hG,h=>by
   have e:=Option.some.inj h
   subst e
   exact⟨hR,hG,fun k hk=>(by cases hk),fun t ht _=>ht,fun _ _ _ _=>rfl⟩
 | k :: K,R,Y,hK,hP,hR,hG,h=>by
   unfold freedF at h
   have hk:=hK k (List.mem_cons_self ..)
   have hK2:=fun j hj=>hK j (List.mem_cons_of_mem _ hj)
   obtain⟨hp1,hp2⟩:=List.pairwise_cons.1 hP
   by_cases c:coF k.1 R.2=(0,1)
   · rw [if_pos c] at h
     obtain⟨a1,a2,a3,a4,a5⟩:=freedF_some hK2 hp2 hR hG h
     refine⟨a1,a2,fun j hj=>?_,fun t ht hj=>a4 t ht fun j hj2=>hj j (List.mem_cons_of_mem _ hj2),fun S hS=>a5 S fun j hj=>hS j (List.mem_cons_of_mem _ hj)⟩
     rcases List.mem_cons.1 hj with e | e
     · rw [e];exact a4 k.1 c hp1
     · exact a3 j e
   · rw [if_neg c] at h
     cases ht:timesP R k.2 (negR (coF k.1 R.2)) with
     | none=>rw [ht] at h;cases h
     | some Z =>
       rw [ht] at h
       simp only [Option.bind_some] at h
       have ro:=coF_ok (t:=k.1) hR.f
       obtain⟨rn,qn⟩:=rok_neg ro
       obtain⟨z1,z2⟩:=timesP_some hR hk.p rn ht
       have zc:=coF_times hR hk.p rn ht
       obtain⟨a1,a2,a3,a4,a5⟩:=freedF_some hK2 hp2 z1 (timesP_fg hG hk.g ht) h
       refine⟨a1,a2,fun j hj=>?_,fun t h0 hj=>?_,fun S hS e he=>?_⟩
       · rcases List.mem_cons.1 hj with e | e
         · rw [e]
           refine a4 k.1 (qP_eq0 (coF_ok z1.f) ?_) hp1
           rw [zc,qn,hk.o]
           grind
         · exact a3 j e
       · refine a4 t (qP_eq0 (coF_ok z1.f) ?_) fun j hj2=>hj j (List.mem_cons_of_mem _ hj2)
         rw [zc,h0,hj k (List.mem_cons_self ..),qP_zero]
         grind
       · rw [a5 S (fun j hj=>hS j (List.mem_cons_of_mem _ hj)) e he,z2 S e he,hS k (List.mem_cons_self ..) e he]
         grind
theorem fac_n0 {e:Int×Int} (h:ROk e) (n:e≠(0,1)):e.1≠0:=fun c=>n (qP_eq0 h (by unfold qP qR;rw [c];simp))
theorem keepO_some {V:Int} {G:Nat→Bool} {Y:Pro} {k:Int×Pro} (hY:POk V Y) (hG:FG G Y.2) (h:keepO Y=some k) :
   KOk V G k∧(∀t,coF t Y.2=(0,1)→coF t k.2.2=(0,1))∧∀S,(∀e,e<7→evP S k.2 e=0)→∀e,e<7→evP S Y e=0:=by
 obtain⟨E,L⟩:=Y
 cases L with
 | nil=>cases h
 | cons f L =>
   have h2:((divO (1,1) f.2).bind fun d=>(powerP (E,f :: L) d).map fun Y=>(f.1,Y))=some k:=h
   have hf:=hG f (List.mem_cons_self ..)
   have rf:=hY.f f (List.mem_cons_self ..)
   have n0:=fac_n0 rf hf.2
   cases hd:divO (1,1) f.2 with
   | none=>rw [hd] at h2;cases h2
   | some d =>
     rw [hd] at h2
     obtain⟨rd,qd⟩:=divO_one rf n0 hd
     simp only [Option.bind_some] at h2
     cases hp:powerP (E,f :: L) d with
     | none=>rw [hp] at h2;cases h2
     | some Z =>
       rw [hp] at h2
       have e:=Option.some.inj h2
       subst e
       obtain⟨z1,z2⟩:=powerP_some hY rd hp
       have zc:=coF_times (pOk_plain V) hY rd hp
       have c0:∀t,qP (coF t ([]:List Fac))=0:=fun t=>qP_zero
       have cf:coF f.1 (f :: L)=f.2:=co_mem hY.s f (List.mem_cons_self ..)
       refine⟨⟨z1,hY.s.1,hY.s.2.1,timesP_fg FG.nil hG hp,hf.1, ?_⟩,fun t ht=>?_,fun S hS e he=>?_⟩
       · show qP (coF f.1 Z.2)=1
         rw [zc f.1]
         show qP (coF f.1 ([]:List Fac))+qP d*qP (coF f.1 (f :: L))=1
         rw [c0,cf]
         grind
       · refine qP_eq0 (coF_ok z1.f) ?_
         show qP (coF t Z.2)=0
         rw [zc t]
         show qP (coF t ([]:List Fac))+qP d*qP (coF t (f :: L))=0
         have ht2:coF t (f :: L)=(0,1):=ht
         rw [c0,ht2,qP_zero]
         grind
       · have q1:=hS e he
         have q2:=z2 S e he
         have q3:evP S Z e=0:=q1
         rw [q3] at q2
         have q4:evP S (E,f :: L) e=(qP d*qP f.2)*evP S (E,f :: L) e:=by rw [qd];grind
         rw [q4]
         grind
def plainB (E:Nat→Int×Int):Bool:=eqD E plE
def solveF (K:List (Int×Pro)):List Pro→Except Int (List (Int×Pro))
 | []=>.ok K
 | R :: Rs=>match freedF R K with
   | none=>.error 3
   | some Y=>match Y.2 with
     | []=>if plainB Y.1 then solveF K Rs else .error 140
     | _ :: _=>match keepO Y with
       | none=>.error 3
       | some k=>solveF (K++[k]) Rs
theorem solveF_ok {V:Int} {G:Nat→Bool}:∀{Rs:List Pro} {K K2:List (Int×Pro)},(∀k,k∈K→KOk V G k)→K.Pairwise (fun a b=>coF a.1 b.2.2=(0,1))→(∀R,R∈Rs→POk V R∧FG G R.2)→solveF K Rs=.ok K2 →
   (∀k,k∈K→k∈K2)∧(∀k,k∈K2→KOk V G k)∧K2.Pairwise (fun a b=>coF a.1 b.2.2=(0,1))∧∀S,(∀k,k∈K2→∀e,e<7→evP S k.2 e=0)→∀R,R∈Rs→∀e,e<7→evP S R e=0
 | [],K,K2,hK,hP,_,h=>by
   have e:K=K2:=by unfold solveF at h;exact Except.ok.inj h
   subst e
   exact⟨fun _ h=>h,hK,hP,fun S _ R hR=>by cases hR⟩
 | R :: Rs,K,K2,hK,hP,hR,h=>by
   unfold solveF at h
   obtain⟨r1,r2⟩:=hR R (List.mem_cons_self ..)
   have hR2:=fun Z hZ=>hR Z (List.mem_cons_of_mem _ hZ)
   cases hf:freedF R K with
   | none=>rw [hf] at h;cases h
   | some Y =>
     rw [hf] at h
     obtain⟨y1,y2,y3, -,y5⟩:=freedF_some hK hP r1 r2 hf
     dsimp only at h
     cases hl:Y.2 with
     | nil =>
       rw [hl] at h
       dsimp only at h
       cases hp:plainB Y.1 with
       | false=>rw [hp,if_neg (by simp)] at h;cases h
       | true =>
         rw [hp,if_pos rfl] at h
         obtain⟨a1,a2,a3,a4⟩:=solveF_ok hK hP hR2 h
         refine⟨a1,a2,a3,fun S hS Z hZ e he=>?_⟩
         rcases List.mem_cons.1 hZ with c | c
         · rw [c,←y5 S (fun k hk=>hS k (a1 k hk)) e he]
           unfold evP
           have pl:∀e,e<7→Y.1 e=(0,1):=eqD_iff.1 hp
           rw [hl,pl e he,qP_zero]
           simp only [evF]
           grind
         · exact a4 S hS Z c e he
     | cons f L =>
       rw [hl] at h
       dsimp only at h
       cases hk:keepO Y with
       | none=>rw [hk] at h;cases h
       | some k =>
         rw [hk] at h
         dsimp only at h
         obtain⟨k1,k2,k3⟩:=keepO_some y1 y2 hk
         have hK3:∀j,j∈K++[k]→KOk V G j:=fun j hj=>by
           rcases List.mem_append.1 hj with c | c
           · exact hK j c
           · rw [List.mem_singleton.1 c];exact k1
         have hP3:(K++[k]).Pairwise (fun a b=>coF a.1 b.2.2=(0,1)):=by
           refine List.pairwise_append.2 ⟨hP,List.pairwise_singleton _ _,fun a ha b hb=>?_⟩
           rw [List.mem_singleton.1 hb]
           exact k2 _ (y3 a ha)
         obtain⟨a1,a2,a3,a4⟩:=solveF_ok hK3 hP3 hR2 h
         refine⟨fun j hj=>a1 j (List.mem_append_left _ hj),a2,a3,fun S hS Z hZ e he=>?_⟩
         rcases List.mem_cons.1 hZ with c | c
         · rw [c,←y5 S (fun j hj=>hS j (a1 j (List.mem_append_left _ hj))) e he]
           exact k3 S (hS k (a1 k (List.mem_append_right _ (List.mem_singleton.2 rfl)))) e he
         · exact a4 S hS Z c e he
def toldS (D:Nat→Nat→Int×Int) (o:Int):List Fac→(Nat→Int×Int)→Option (Nat→Int×Int)
 | [],E=>some E
 | f :: L,E=>if f.1=o then toldS D o L E else if tmF E (D f.1.toNat) f.2.1 f.2.2 7=0 then toldS D o L (tmD E (D f.1.toNat) f.2.1 f.2.2 7) else none
def toldF (D:Nat→Nat→Int×Int) (k:Int×Pro):Option (Nat→Int×Int):=(toldS D k.1 k.2.2 k.2.1).bind fun E=>if tmF plE E (-1) 1 7=0 then some (tmD plE E (-1) 1 7) else none
def offF (o:Int):List Fac→List Fac
 | []=>[]
 | f :: L=>if f.1=o then offF o L else f :: offF o L
theorem off_none {o v:Int}:∀{L:List Fac} {l:Int},Rise v l L→o<l→offF o L=L
 | [],_,_,_=>rfl
 | f :: L,l,r,h=>by
   have:=r.1
   unfold offF
   rw [if_neg (by omega),off_none r.2.2 (by omega)]
theorem ev_off {o v:Int} (S:Int→Rat):∀{L:List Fac} {l:Int},Rise v l L→evF S L=qP (coF o L)*S o+evF S (offF o L)
 | [],_,_=>by
   show (0:Rat)=qP (0,1)*S o+0
   rw [qP_zero]
   grind
 | f :: L,l,r=>by
   simp only [evF]
   by_cases c:f.1=o
   · have e:coF o (f :: L)=f.2:=by rw [←c];exact co_mem r f (List.mem_cons_self ..)
     have e2:offF o (f :: L)=L:=by unfold offF;rw [if_pos c,off_none r.2.2 (by omega)]
     rw [e,e2,c]
   · have e2:offF o (f :: L)=f :: offF o L:=by rw [offF,if_neg c]
     have q:=ev_off (o:=o) S r.2.2
     rw [e2]
     simp only [evF]
     by_cases d:f.1<o
     · have e:coF o (f :: L)=coF o L:=by unfold coF;rw [restF,if_pos d]
       rw [e,q]
       grind
     · have e:coF o (f :: L)=(0,1):=by
         unfold coF
         rw [restF,if_neg d]
         dsimp only
         rw [if_neg c]
       have e3:=off_none (o:=o) r.2.2 (by omega)
       rw [e,qP_zero,e3]
       grind
theorem evF_congr {S T:Int→Rat}:∀{L:List Fac},(∀f,f∈L→S f.1=T f.1)→evF S L=evF T L
 | [],_=>rfl
 | f :: L,h=>by
   simp only [evF]
   rw [h f (List.mem_cons_self ..),evF_congr fun g hg=>h g (List.mem_cons_of_mem _ hg)]
theorem off_mem {o:Int}:∀{L:List Fac} {f:Fac},f∈offF o L→f∈L∧f.1≠o
 | [],f,h=>by cases h
 | g :: L,f,h=>by
   unfold offF at h
   by_cases c:g.1=o
   · rw [if_pos c] at h
     have q:=off_mem h
     exact⟨List.mem_cons_of_mem _ q.1,q.2⟩
   · rw [if_neg c] at h
     rcases List.mem_cons.1 h with e | e
     · rw [e];exact⟨List.mem_cons_self ..,c⟩
     · have q:=off_mem e
       exact⟨List.mem_cons_of_mem _ q.1,q.2⟩
def sgD (D:Nat→Nat→Int×Int):Int→Nat→Rat:=fun u e=>qP (D u.toNat e)
theorem tm_ok {A B:Nat→Int×Int} {p:Int×Int} (rA:drK A 7=true) (rB:drK B 7=true) (hp:ROk p) (z:tmF A B p.1 p.2 7=0) :
   Dim64 (tmD A B p.1 p.2 7)∧drK (tmD A B p.1 p.2 7) 7=true∧∀e,e<7→qP (tmD A B p.1 p.2 7 e)=qP (A e)+qP p*qP (B e):=by
 have ok:=tmD_ok rA rB hp.1 z
 refine⟨fun i hi=>(ok i hi).2.1,drK_all 7 fun i hi=>(ok i hi).1,fun e he=>?_⟩
 have q:=(ok e he).2.2
 unfold qP
 rw [q]
 grind
theorem toldS_some {D:Nat→Nat→Int×Int} {V:Int} (hD:∀v:Nat,(v:Int)<V→Dim64 (D v)∧drK (D v) 7=true) (o:Int):∀{L:List Fac} {l:Int} {E Y:Nat→Int×Int},0≤l→Rise V l L→FOk L→Dim64 E→drK E 7=true→toldS D o L E=some Y →
   Dim64 Y∧drK Y 7=true∧∀e,e<7→qP (Y e)=qP (E e)+evF (fun u=>sgD D u e) (offF o L)
 | [],l,E,Y,_,_,_,hE,rE,h=>by
   have e:=Option.some.inj h
   subst e
   exact⟨hE,rE,fun e _=>by show _=_+(0:Rat);grind⟩
 | f :: L,l,E,Y,h0,hr,hf,hE,rE,h=>by
   unfold toldS at h
   have:=hr.1
   have:=hr.2.1
   by_cases c:f.1=o
   · rw [if_pos c] at h
     obtain⟨a1,a2,a3⟩:=toldS_some hD o (by omega) hr.2.2 hf.tail hE rE h
     refine⟨a1,a2,fun e he=>?_⟩
     rw [a3 e he,offF,if_pos c]
   · rw [if_neg c] at h
     by_cases z:tmF E (D f.1.toNat) f.2.1 f.2.2 7=0
     · rw [if_pos z] at h
       obtain⟨d1,d2⟩:=hD f.1.toNat (by omega)
       obtain⟨t1,t2,t3⟩:=tm_ok (p:=f.2) rE d2 (hf f (List.mem_cons_self ..)) z
       obtain⟨a1,a2,a3⟩:=toldS_some hD o (by omega) hr.2.2 hf.tail t1 t2 h
       refine⟨a1,a2,fun e he=>?_⟩
       rw [a3 e he,t3 e he,offF,if_neg c]
       simp only [evF]
       unfold sgD
       grind
     · rw [if_neg z] at h;cases h
theorem toldF_some {D:Nat→Nat→Int×Int} {V:Int} {G:Nat→Bool} (hD:∀v:Nat,(v:Int)<V→Dim64 (D v)∧drK (D v) 7=true) {k:Int×Pro} (hk:KOk V G k) {Y:Nat→Int×Int} (h:toldF D k=some Y) :
   Dim64 Y∧drK Y 7=true∧∀e,e<7→evP (sgD (fun v=>if v=k.1.toNat then Y else D v)) k.2 e=0:=by
 unfold toldF at h
 cases hs:toldS D k.1 k.2.2 k.2.1 with
 | none=>rw [hs] at h;cases h
 | some E =>
   rw [hs] at h
   simp only [Option.bind_some] at h
   obtain⟨a1,a2,a3⟩:=toldS_some hD k.1 (Int.le_refl 0) hk.p.s hk.p.f hk.p.d hk.p.r hs
   by_cases z:tmF plE E (-1) 1 7=0
   · rw [if_pos z] at h
     have e:=Option.some.inj h
     subst e
     obtain⟨t1,t2,t3⟩:=tm_ok (p:=(-1,1)) plE_ok.2 a2 rok_mone z
     refine⟨t1,t2,fun e he=>?_⟩
     have q1:=t3 e he
     have q2:=a3 e he
     have m1:qP (-1,1)=-1:=by
       have:=(rok_neg rok_1).2
       rw [qP_one] at this
       exact this
     rw [qP_pl,m1,q2] at q1
     unfold evP
     rw [ev_off (o:=k.1) _ hk.p.s,hk.o]
     have c1:evF (fun u=>sgD (fun v=>if v=k.1.toNat then tmD plE E (-1) 1 7 else D v) u e) (offF k.1 k.2.2)=evF (fun u=>sgD D u e) (offF k.1 k.2.2):=by
       refine evF_congr fun f hf=>?_
       obtain⟨m,n⟩:=off_mem hf
       obtain⟨i,hi⟩:=List.getElem?_of_mem m
       have:=(rise_from hk.p.s i f hi).1
       have:=hk.l
       unfold sgD
       dsimp only
       rw [if_neg (by omega)]
     rw [c1]
     have c2:sgD (fun v=>if v=k.1.toNat then tmD plE E (-1) 1 7 else D v) k.1 e=qP (tmD plE E (-1) 1 7 e):=by
       unfold sgD
       dsimp only
       rw [if_pos rfl]
     rw [c2,q1]
     grind
   · rw [if_neg z] at h;cases h
def backF:List (Int×Pro)→(Nat→Nat→Int×Int)→Option (Nat→Nat→Int×Int)
 | [],D=>some D
 | k :: K,D=>(toldF D k).bind fun E=>backF K (fun v=>if v=k.1.toNat then E else D v)
theorem backF_some {V:Int} {G:Nat→Bool}:∀{K:List (Int×Pro)} {D Y:Nat→Nat→Int×Int},(∀v:Nat,(v:Int)<V→Dim64 (D v)∧drK (D v) 7=true)→(∀k,k∈K→KOk V G k)→K.Pairwise (fun a b=>coF b.1 a.2.2=(0,1))→backF K D=some Y →
   (∀v:Nat,(v:Int)<V→Dim64 (Y v)∧drK (Y v) 7=true)∧(∀v:Nat,(∀k,k∈K→k.1.toNat≠v)→Y v=D v)∧∀k,k∈K→∀e,e<7→evP (sgD Y) k.2 e=0
 | [],D,Y,hD,_,_,h=>by
   have e:=Option.some.inj h
   subst e
   exact⟨hD,fun _ _=>rfl,fun k hk=>by cases hk⟩
 | k :: K,D,Y,hD,hK,hP,h=>by
   unfold backF at h
   cases ht:toldF D k with
   | none=>rw [ht] at h;cases h
   | some E =>
     rw [ht] at h
     simp only [Option.bind_some] at h
     have hk:=hK k (List.mem_cons_self ..)
     obtain⟨e1,e2,e3⟩:=toldF_some hD hk ht
     obtain⟨p1,p2⟩:=List.pairwise_cons.1 hP
     have hD2:∀v:Nat,(v:Int)<V→Dim64 ((fun v=>if v=k.1.toNat then E else D v) v)∧drK ((fun v=>if v=k.1.toNat then E else D v) v) 7=true:=fun v hv=>by
       dsimp only
       by_cases c:v=k.1.toNat
       · rw [if_pos c];exact⟨e1,e2⟩
       · rw [if_neg c];exact hD v hv
     obtain⟨a1,a2,a3⟩:=backF_some hD2 (fun j hj=>hK j (List.mem_cons_of_mem _ hj)) p2 h
     refine⟨a1,fun v hv=>?_,fun j hj e he=>?_⟩
     · rw [a2 v fun j hj=>hv j (List.mem_cons_of_mem _ hj)]
       rw [if_neg fun c=>hv k (List.mem_cons_self ..) c.symm]
     · rcases List.mem_cons.1 hj with c | c
       · rw [c,←e3 e he]
         unfold evP
         refine congrArg (fun x:Rat=>qP (k.2.1 e)+x) (evF_congr fun f hf=>?_)
         unfold sgD
         rw [a2 f.1.toNat fun j hj=>?_]
         intro q
         obtain⟨i,hi⟩:=List.getElem?_of_mem hf
         have r0:=(rise_from hk.p.s i f hi).1
         have j0:=(hK j (List.mem_cons_of_mem _ hj)).l
         have q2:j.1=f.1:=by omega
         have z:=p1 j hj
         rw [q2,co_mem hk.p.s f hf] at z
         exact (hk.g f hf).2 z
       · exact a3 j c e he
theorem solved_fits {V:Int} {G:Nat→Bool} {Rs:List Pro} {K:List (Int×Pro)} {D Y:Nat→Nat→Int×Int} (hD:∀v:Nat,(v:Int)<V→Dim64 (D v)∧drK (D v) 7=true) (hR:∀R,R∈Rs→POk V R∧FG G R.2) (h:solveF [] Rs=.ok K) (hb:backF K.reverse D=some Y) :
   (∀v:Nat,(v:Int)<V→Dim64 (Y v)∧drK (Y v) 7=true)∧(∀v:Nat,G v=true→Y v=D v)∧∀R,R∈Rs→∀e,e<7→evP (sgD Y) R e=0:=by
 obtain⟨-,a2,a3,a4⟩:=solveF_ok (V:=V) (G:=G) (fun k hk=>by cases hk) List.Pairwise.nil hR h
 obtain⟨b1,b2,b3⟩:=backF_some hD (fun k hk=>a2 k (List.mem_reverse.1 hk)) (List.pairwise_reverse.2 a3) hb
 refine⟨b1,fun v hv=>b2 v fun k hk e=>?_,a4 _ fun k hk=>b3 k (List.mem_reverse.2 hk)⟩
 have:=(a2 k (List.mem_reverse.1 hk)).n
 rw [e,hv] at this
 cases this
end Go.Proofs.Ytbejmklkicoibaa
