/- A region as in the text before, whose first operation hangs on nothing and is waited for by one of the last alone: it may come up at any time. PicardFinds: the reference's wide box walked, and the law. PicardShorter of tapes and boxes as they lie in memory. -/
import Derived.Lib.Strings
import Derived.Lib.Slices
import Derived.Lib.Small
import Derived.Lib.Walk
import Derived.Lib.BitFns
import Derived.KernelRfl
import Derived.WalkKit
import Derived.Laws.Cover2
import Derived.Laws.FloatArith
import Derived.Laws.BitsAllLaws
import Derived.ProofKit
import Derived.OpenShut
import Derived.WalkSpells
import Derived.WalkLawsBesides
import Derived.Laws.Externs
import Derived.Laws.Bits64b
import Derived.Handy
import Derived.Deep.RegionWith
import Derived.Deep.QuietTactic
import Derived.BigQuiet
import Derived.Deep.RegionHeld3
import Derived.Deep.CutRange
import Derived.Deep.CutBlock
import Derived.Deep.LoopGhost
import Derived.WalkSmall
import Derived.ChangeSame
import Derived.JoinedOf
import Derived.JoinedAt
import Derived.RowKit3
import Derived.Deep.Slices
import Derived.WideKeyArgs
import Derived.Deep.Quiet
import Derived.StillTail
import Derived.Deep.SlicePairs
import Derived.Deep.AppendLies
import Derived.Deep.RegionLaw
import Derived.Lib.SliceRun
import Derived.Test.YtnnfafilgiajoaaGreatZ01
import Derived.Test.YtnnfafilgiajoaaGreatZ02
import Derived.Test.YtnnfafilgiajoaaGreatZ03
import Derived.Test.YtnnfafilgiajoaaGreatZ04
import Derived.Test.YtnnfafilgiajoaaGreatZ05
import Derived.Test.YtnnfafilgiajoaaGreatZ06
import Derived.Test.YtnnfafilgiajoaaGreatZ07
import Derived.Test.YtnnfafilgiajoaaGreatZ08
import Derived.Test.YtnnfafilgiajoaaGreatZ09
import Derived.Test.YtnnfafilgiajoaaGreatZ10
import Derived.Test.YtnnfafilgiajoaaGreatZ11
import Derived.Test.YtnnfafilgiajoaaGreatZ12
import Derived.Test.YtnnfafilgiajoaaGreatZ13
import Derived.Test.YtnnfafilgiajoaaGreatZ14
import Derived.Test.YtnnfafilgiajoaaGreatZ15
import Derived.Test.YtnnfafilgiajoaaGreatZ16
import Derived.Test.YtnnfafilgiajoaaGreatZ17
import Derived.Test.YtnnfafilgiajoaaGreatZ18
import Derived.Test.YtnnfafilgiajoaaGreatZ19
import Derived.Test.YtnnfafilgiajoaaGreatZ20
import Derived.Test.YtnnfafilgiajoaaGreatZ21
import Derived.Test.YtnnfafilgiajoaaGreatZ22
import Derived.Test.YtnnfafilgiajoaaGreatZ23
import Derived.Test.YtnnfafilgiajoaaGreatZ24
import Derived.Test.YtnnfafilgiajoaaGreatZ25
import Derived.Test.YtnnfafilgiajoaaGreatZ26
import Derived.Test.YtnnfafilgiajoaaGreatZ27
import Derived.Test.YtnnfafilgiajoaaGreatZ28
import Derived.Test.YtnnfafilgiajoaaGreatZ29
import Derived.Test.YtnnfafilgiajoaaGreatZ30
import Derived.Test.YtnnfafilgiajoaaGreatZ31
import Derived.Test.YtnnfafilgiajoaaGreatZ32
import Derived.Test.YtnnfafilgiajoaaGreatZ33
import Derived.Test.YtnnfafilgiajoaaGreatZ34
import Derived.Test.YtnnfafilgiajoaaGreatZ35
import Derived.Test.YtnnfafilgiajoaaGreatZ36
import Derived.Test.YtnnfafilgiajoaaGreatZ37
import Derived.Test.YtnnfafilgiajoaaGreatZ38
import Derived.Test.YtnnfafilgiajoaaGreatZ39
import Derived.Test.YtnnfafilgiajoaaGreatZ40
import Derived.Test.YtnnfafilgiajoaaGreatZ41
import Derived.Test.YtnnfafilgiajoaaGreatZ42
import Derived.Test.YtnnfafilgiajoaaGreatZ43
import Derived.Test.YtnnfafilgiajoaaGreatZ44
import Derived.Test.YtnnfafilgiajoaaGreatZ45
import Derived.Test.YtnnfafilgiajoaaGreatZ46
import Derived.Test.YtnnfafilgiajoaaGreatZ47
import Derived.Test.YtnnfafilgiajoaaGreatZ48
import Derived.Test.YtnnfafilgiajoaaGreatZ49
import Derived.Test.YtnnfafilgiajoaaGreatY02
namespace Go.Proofs.YtnnfafilgiajoaaGreat
open Go.ChangeShapes Go.WideShapes Go.ChangeAt Go.RowKit
section
variable {P:Program} {ops hd:Array Oper} {C:World→Prop}
def sink1B (md:Region.Mode) (ops:Array Oper) (n:Nat):Bool:=(List.range n).all fun i=>i==0 || (List.range (n+1)).any fun j=>decide (i<j)&&Region.waitsFor md ops j i
theorem waits1 {md:Region.Mode} {n:Nat} {listed:Array Bool} (hs:sink1B md ops n=true) (hc:Region.chainB md ops n=true) (inv:HeadInv md ops n listed) :
   ∀d i,n-i=d→0<i→i<n→listed.getD i true=false→∀t,n≤t→t ∉ Region.ready md ops listed:=by
 intro d
 induction d using Nat.strongRecOn with
 | _ d ih =>
   intro i hd h0 hi hun t ht hr
   obtain⟨-,ot,hot,hall⟩:=mem_ready.1 hr
   have htl:t<ops.size:=(Array.getElem?_eq_some_iff.1 hot).1
   rcases Nat.eq_or_lt_of_le ht with e | ht'
   · have s1:=List.all_eq_true.1 hs i (List.mem_range.2 hi)
     have hne:(i==0)=false:=by simp;omega
     rw [hne,Bool.false_or] at s1
     obtain⟨j,hj,s2⟩:=List.any_eq_true.1 s1
     simp only [Bool.and_eq_true,decide_eq_true_eq] at s2
     obtain⟨oj,hoj,x,hx,hxb,hxo⟩:=Region.waitsFor_spec s2.2
     have hjn:=List.mem_range.1 hj
     have un:=getD_both hun
     by_cases ej:j=t
     · subst ej
       have:ot=oj:=Option.some.inj (hot.symm.trans hoj)
       subst this
       have l:=hall x hx hxb
       rw [hxo,un] at l
       cases l
     · have jn:j<n:=by omega
       cases hl:listed.getD j true with
       | true =>
         have jl:j<listed.size:=by rw [inv.size];exact (Array.getElem?_eq_some_iff.1 hoj).1
         have l:=inv.closed j oj hoj (by rw [getD_any jl false true];exact hl) x hx hxb
         rw [hxo,un] at l
         cases l
       | false=>exact ih (n-j) (by omega) j rfl (by omega) jn hl t ht hr
   · have s1:=List.all_eq_true.1 hc t (List.mem_range.2 htl)
     rw [decide_eq_false (by omega),Bool.false_or] at s1
     obtain⟨o',ho',x,hx,hxb,hxo⟩:=Region.waitsFor_spec s1
     have:ot=o':=Option.some.inj (hot.symm.trans ho')
     subst this
     have l:=hall x hx hxb
     rw [hxo,getD_both (inv.tail (t-1) (by omega) (by omega))] at l
     cases l
theorem head_split1 {md:Region.Mode} {n g:Nat} {Q:Exit→Act→World→Prop} {Qh:Act→Prop} (H:Heads md ops hd n) (hs:sink1B md ops n=true) (hc:Region.chainB md ops n=true)
   (hT:∀listed a w,HeadInv md ops n listed→(∀j,j<n→listed.getD j true=true)→C w→Qh a→wpAny P md ops Q g listed a w) :
   ∀(f:Nat) (lh listed:Array Bool) (a:Act) (w:World),HeadInv md ops n listed→listed.getD 0 true=true→lh.size=n→(∀j,j<n→lh.getD j true=listed.getD j true)→C w→wpAnyQ P md hd C Qh f lh a→wpAny P md ops Q (f+g) listed a w:=by
 have up:∀(lh listed:Array Bool),HeadInv md ops n listed→lh.size=n→(∀j,j<n→lh.getD j true=listed.getD j true)→∀j,j<n→(j∈Region.ready md hd lh↔j∈Region.ready md ops listed):=fun lh listed inv hsz ag j hj=>by
   have hn:=H.lt
   rw [mem_ready,mem_ready,ag j hj,H.same j hj]
   have key:∀o,ops[j]?=some o→∀e∈o.after,Region.binds md e=true→lh.getD e.on false=listed.getD e.on false:=fun o ho e he hb=>by
     have hl:=H.low j o hj ho e he hb
     rw [getD_any (l:=lh) (by omega) false true,getD_any (l:=listed) (by rw [inv.size];omega) false true]
     exact ag e.on (by omega)
   refine and_congr_right fun _=>⟨fun ⟨o,ho,h⟩=>⟨o,ho,fun e he hb=>?_⟩,fun ⟨o,ho,h⟩=>⟨o,ho,fun e he hb=>?_⟩⟩
   · rw [←key o ho e he hb];exact h e he hb
   · rw [key o ho e he hb];exact h e he hb
 have full:∀(lh listed:Array Bool),HeadInv md ops n listed→lh.size=n→(∀j,j<n→lh.getD j true=listed.getD j true)→Region.ready md hd lh=[]→∀j,j<n→listed.getD j true=true:=fun lh listed inv hsz ag hr j=>by
   induction j using Nat.strongRecOn with
   | _ j ih =>
     intro hj
     cases hl:listed.getD j true with
     | true=>rfl
     | false =>
       have hn:=H.lt
       have:j∈Region.ready md hd lh:=by
         rw [up lh listed inv hsz ag j hj,mem_ready]
         refine⟨hl,ops[j]'(by omega),by simp,fun e he hb=>?_⟩
         have lw:=H.low j (ops[j]'(by omega)) hj (by simp) e he hb
         rw [getD_any (l:=listed) (by rw [inv.size];omega) false true]
         exact ih e.on lw (by omega)
       rw [hr] at this
       cases this
 intro f
 induction f with
 | zero =>
   intro lh listed a w inv h0 hsz ag hC h
   rw [Nat.zero_add]
   exact hT listed a w inv (full lh listed inv hsz ag h.1) hC h.2
 | succ f ih =>
   intro lh listed a w inv h0 hsz ag hC h
   by_cases hr:Region.ready md hd lh=[]
   · exact any_more' (hT listed a w inv (full lh listed inv hsz ag hr) hC (h.1 hr)) _
   · obtain⟨i,hi⟩:=List.exists_mem_of_ne_nil _ hr
     have hin:i<n:=by
       obtain⟨_,o,ho,_⟩:=mem_ready.1 hi
       have:=(Array.getElem?_eq_some_iff.1 ho).1
       rw [H.size] at this
       exact this
     have hi':=(up lh listed inv hsz ag i hin).1 hi
     have hpos:0<i:=by
       rcases Nat.eq_zero_or_pos i with e | e
       · subst e
         have:=(mem_ready.1 hi').1
         rw [h0] at this
         cases this
       · exact e
     rw [show f+1+g=(f+g)+1 by omega]
     refine⟨fun hz=>(by rw [hz] at hi';cases hi'),fun j hj=>?_⟩
     have hjn:j<n:=by
       rcases Nat.lt_or_ge j n with c | c
       · exact c
       · exact absurd hj (waits1 hs hc inv _ i rfl hpos hin (mem_ready.1 hi').1 j c)
     have hj0:j≠0:=fun e=>by
       subst e
       have:=(mem_ready.1 hj).1
       rw [h0] at this
       cases this
     refine wpOp_of_qOp hC (fun a' w' hw' hK=>ih (lh.setIfInBounds j true) (listed.setIfInBounds j true) a' w' (inv.set hj hjn) (by rw [Go.getD_set_ne true hj0];exact h0) (by simp [hsz]) (fun k hk=>?_) hw' hK) (head_q H hjn (h.2 j ((up lh listed inv hsz ag j hjn).2 hj)))
     by_cases hjk:j=k
     · subst hjk
       have:=H.lt
       simp [hsz,hk,inv.size,show j<ops.size by omega]
     · rw [Go.getD_set_ne true hjk,Go.getD_set_ne true hjk]
       exact ag k hk
def tail1B (l:List Oper) (n:Nat):Bool:=Region.noSelect l.toArray&&Region.noSelect (l.take n).toArray&&decide (1<n)&&decide (n<l.length)&&Region.free .any l.toArray (Array.replicate l.length false) 0&&(Region.ready .any l.toArray (Array.replicate l.length false)).contains 0 &&
 Region.lexFrom .any (l.take n).toArray ((l.take n).drop 1).length 1 ((Array.replicate n false).setIfInBounds 0 true)&&sink1B .any l.toArray n&&Region.chainB .any l.toArray n&&lowB l n&&(match l[0]? with | some o=>o.after.isEmpty | none=>false) &&
 Region.seqB .any l.toArray (l.length-n) n (List.replicate n true++List.replicate (l.length-n) false).toArray
theorem region_first {id:Nat} {Q:Exit→Act→World→Prop} {a:Act} {w:World} {l:List Oper} (n:Nat) (o:Oper) (v:Value) (hm:P.follows .mixedOrders=true) (hB:tail1B l n=true) (ho:l[0]?=some o) (hC:C w.drew)
   (hQ:∀c a w,Q (.panic c) (a.put o.dst v) w→Q (.panic c) a w) (hy:Yields P l.toArray o v a)
   (h:wpQuiet P (l.take n).toArray C (fun a'=>∀w',C w'→wpList P l.toArray Q (l.drop n) a' w') ((l.take n).drop 1) (a.put o.dst v)):(Code.region id l.toArray true).wp P Q a w:=by
 simp only [tail1B,Bool.and_eq_true,decide_eq_true_eq] at hB
 obtain⟨⟨⟨⟨⟨⟨⟨⟨⟨⟨⟨b1,b2⟩,b3⟩,b4⟩,b5⟩,b6⟩,b7⟩,b8⟩,b9⟩,b10⟩,b11⟩,b12⟩:=hB
 have H:=heads_of b4 b10
 rw [ho] at b11
 have oa:o.after=#[]:=by simpa using b11
 have q:=wpAnyQ_lex (P:=P) (C:=C) (md:=.any) b2 ((l.take n).drop 1) 1 ((Array.replicate n false).setIfInBounds 0 true) (a.put o.dst v) (fun j=>by simp [Nat.add_comm 1 j]) b7 h
 refine wp_region_any hm ?_
 have hl:((l.take n).drop 1).length=n-1:=by simp;omega
 have inv:HeadInv .any l.toArray n ((Array.replicate l.length false).setIfInBounds 0 true):=by
   refine⟨by simp,fun j oj hoj hl' e he hb=>?_,fun t ht htl=>?_⟩
   · by_cases hj:j=0
     · subst hj
       have:oj=o:=Option.some.inj ((by simpa using hoj.symm:some oj=l[0]?).trans ho)
       subst this
       rw [oa] at he
       simp at he
     · rw [Go.getD_set_ne false (fun e=>hj e.symm),getD_replicate_false] at hl'
       cases hl'
   · rw [Go.getD_set_ne true (by omega)]
     exact getD_in (by simpa using htl) (getD_replicate_false _ _)
 have t:=head_split1 (P:=P) (C:=C) (Q:=Q) (g:=l.length-n) H b8 b9 (fun listed a' w' inv full hw' hq=>by
   have e:listed=(List.replicate n true++List.replicate (l.length-n) false).toArray:=by
     have sz:=inv.size
     refine Array.ext (by simp [sz];omega) fun i h1 h2=>?_
     have hi:i<l.length:=by rw [sz] at h1;simpa using h1
     rcases Nat.lt_or_ge i n with c | c
     · have:=full i c
       simp [h1] at this
       simp [this,c]
     · have:=inv.tail i c (by simpa using hi)
       simp [h1] at this
       rw [this]
       simp [c]
   have s:=wpAny_of_seq (P:=P) (md:=.any) (Q':=Q) (l.drop n) n listed a' w' (fun j=>by simp [List.getElem?_drop]) (by rw [e,List.length_drop];exact b12) (hq w' hw')
   rwa [List.length_drop] at s) ((l.take n).drop 1).length ((Array.replicate n false).setIfInBounds 0 true) ((Array.replicate l.length false).setIfInBounds 0 true) (a.put o.dst v) w.drew inv (by simp) (by simp) (fun j hj=>?_) hC q
 · rw [hl,show n-1+(l.length-n)=l.length-1 by omega] at t
   have r:=wpAny_take (P:=P) (i:=0) (v:=v) (by simpa using ho) b1 b5 b6 hQ hy t
   rw [show l.length-1+1=l.length by omega] at r
   simpa using r
 · by_cases e:(0:Nat)=j
   · subst e
     simp [show 0<n by omega,show 0<l.length by omega]
   · rw [Go.getD_set_ne true e,Go.getD_set_ne true e]
     simp [hj,show j<l.length by omega]
theorem tail_first {id:Nat} {Q:Exit→Act→World→Prop} {a:Act} {w:World} {l:List Oper} (n:Nat) (o:Oper) (v:Value) (hm:P.follows .mixedOrders=true) (hB:tail1B l n=true) (ho:l[0]?=some o)
   (hQ:∀c a w,Q (.panic c) (a.put o.dst v) w→Q (.panic c) a w) (hy:Yields P l.toArray o v a)
   (h:wpQuiet P (l.take n).toArray (fun w'=>∃n:Behind w,w'=n.W) (fun a'=>∀w',(∃n:Behind w,w'=n.W)→wpList P l.toArray Q (l.drop n) a' w') ((l.take n).drop 1) (a.put o.dst v)):(Code.region id l.toArray true).wp P Q a w :=
 region_first (C:=fun w'=>∃n:Behind w,w'=n.W) n o v hm hB ho ⟨⟨w.drew,(Below.refl _ _).drew⟩,rfl⟩ hQ hy h
end
set_option maxHeartbeats 4000000 in
theorem rwide_w (A:Option Addr) (k C:Nat) (X:Nat→Nat×Nat) (hk:k≤24) (hn:∀i,i<k→nanB (roomQ (X i))=false) (w:World) (V:Ivs w A k X) :
   Calls Tryz.prog 14 #[.slice A k C] w fun e w'=>(∃v,e=.returned v∧OwnI w.heap.size w' v (wdL X k))∧Below w.heap.size w w':=by
 have hO:W2 (ptQ 4607182418800017408):=ptQ_W2 (by omega)
 have hF:W2 (ptQ 4589168020290535424):=ptQ_W2 (by omega)
 have co:∀w,Calls Tryz.prog 16 #[.float .f64 4607182418800017408,.float .f64 4607182418800017408] w fun e w'=>e=.returned (.agg #[.float .f64 (ptQ 4607182418800017408).1,.float .f64 (ptQ 4607182418800017408).2])∧Below w.heap.size w w':=fun w=>rmake_w _ _ (by omega) (by omega) w
 have cf:∀w,Calls Tryz.prog 16 #[.float .f64 4589168020290535424,.float .f64 4589168020290535424] w fun e w'=>e=.returned (.agg #[.float .f64 (ptQ 4589168020290535424).1,.float .f64 (ptQ 4589168020290535424).2])∧Below w.heap.size w w':=fun w=>rmake_w _ _ (by omega) (by omega) w
 have hR:Hid (∀i,roomQ (X i)=(mulQ (ptQ 4589168020290535424) (addQ (ptQ 4607182418800017408) (ptQ (magQ (X i))))).2):=fun _=>rfl
 have hW:Hid (∀i,wideR (X i)=addQ (X i) (mkQ (zminus (roomQ (X i))) (roomQ (X i)))):=fun _=>rfl
 have HN:Hid (∀i,i<k→nanB (roomQ (X i))=false):=hn
 have HE:Hid (∀n,wdL X (n+1)=wdL X n++[((wideR (X n)).1,(wideR (X n)).2)]):=wdL_step X
 have HL:Hid (∀n,(wdL X n).length=n):=wdL_len X
 have E:=ownI_empty w
 have hB0:Below w.heap.size w (w.alloc (.cells #[] 40)):=below_alloc (Below.refl _ _) _
 clear hn
 generalize ptQ 4607182418800017408=one at *
 generalize ptQ 4589168020290535424=fac at *
 go_enter Tryz.func14,Tryz.ntmps14
 go_wp2_with fail
 go_loopg [3,11] k (fun G s3 s11 wx=>Below w.heap.size w wx∧∃r:Nat,r+G=k∧s11=.int .i64 (r:Int)∧OwnI w.heap.size wx s3 (wdL X r))
 case atStart=>exact⟨hB0,0,by omega,rfl,E⟩
 case round =>
   clear E hB0
   obtain⟨HB,r,hr,rfl,hown⟩:=hrel
   by_cases cr:r=k
   · subst cr
     go_wp2_with fail
     go_ret
     exact⟨⟨_,rfl,hown⟩,HB⟩
   · have hlt:(r:Int)<(k:Int):=by omega
     obtain⟨b,o,hA,hb,x0,x1,l0,l1⟩:=(V.keep HB) r (by omega)
     have hst:=HE.out r
     have hlen:(wdL X r).length≤2000000:=by rw [HL.out r];omega
     have hrn:=HN.out r (by omega)
     have e1:=hR.out r
     have e2:=hW.out r
     generalize X r=x at *
     have hx2:W2 x:=⟨l0,l1⟩
     have c1:∀w,Calls Tryz.prog 17 #[.agg #[.float .f64 x.1,.float .f64 x.2]] w fun e w'=>e=.returned (.float .f64 (magQ x))∧Below w.heap.size w w':=fun w=>rMag_w x.1 x.2 l0 l1 w
     have c2:∀w,Calls Tryz.prog 16 #[.float .f64 (magQ x),.float .f64 (magQ x)] w fun e w'=>e=.returned (.agg #[.float .f64 (ptQ (magQ x)).1,.float .f64 (ptQ (magQ x)).2])∧Below w.heap.size w w':=fun w=>rmake_w _ _ magQ_lt magQ_lt w
     have c3:=fun w=>rAddQ (p:=one) (q:=ptQ (magQ x)) hO (ptQ_W2 magQ_lt) w
     have c4:=fun w=>rMulQ (p:=fac) (q:=addQ one (ptQ (magQ x))) hF (addQ_W2 hO (ptQ_W2 magQ_lt)) w
     have hrl:=roomQ_lt x
     have hsub:=fun t w=>run_subz hrl hrn t w
     have hz:=zminus_lt hrl
     rw [e1] at e2 hsub hz hrl hrn
     generalize ptQ (magQ x)=pm at *
     generalize magQ x=mg at *
     generalize addQ one pm=am at *
     generalize mulQ fac am=ml at *
     generalize zminus ml.2=nm at *
     have c5:∀w,Calls Tryz.prog 16 #[.float .f64 nm,.float .f64 ml.2] w fun e w'=>e=.returned (.agg #[.float .f64 (mkQ nm ml.2).1,.float .f64 (mkQ nm ml.2).2])∧Below w.heap.size w w':=fun w=>rmake_w _ _ hz hrl w
     have c6:=fun w=>rAddQ (p:=x) (q:=mkQ nm ml.2) hx2 (mkQ_W2 hz hrl) w
     rw [←e2] at c6
     generalize mkQ nm ml.2=mk at *
     generalize wideR x=p at *
     clear e1 e2
     replace hst:Hid (wdL X (r+1)=wdL X r++[(p.1,p.2)]):=hst
     replace hlen:Hid ((wdL X r).length≤2000000):=hlen
     subst hA
     go_upto_region 5 with fail
     have D:Has2 (wr.alloc (.cells #[.float .f64 x.1,.float .f64 x.2] 40)) wr.heap.size (.float .f64 x.1) (.float .f64 x.2):=has2_new _ _ _ _
     have hb1:Below wr.heap.size wr (wr.alloc (.cells #[.float .f64 x.1,.float .f64 x.2] 40)):=by go_grown
     replace hown:=hown.keep hb1
     replace HB:=later HB hb1
     clear x0 x1 hb hb1
     generalize wr.alloc (.cells #[.float .f64 x.1,.float .f64 x.2] 40)=V4 at *
     generalize wr.heap.size=xb at *
     obtain⟨y0,y1,y2,y3,y4⟩:=id D
     go_upto_region 7 with (first
       | (go_at_call 17;refine (c1 _).mono ?_;rintro _ VV ⟨rfl,hb1⟩;replace hown:=hown.keep hb1;replace D:=D.keep hb1;replace HB:=later HB hb1;clear hb1;clear y0 y1 y2 y3 y4;obtain⟨y0,y1,y2,y3,y4⟩:=id D)
       | (go_at_call_of 16 (Value.float FloatKind.f64 4589168020290535424);refine (cf _).mono ?_;rintro _ VV ⟨rfl,hb1⟩;replace hown:=hown.keep hb1;replace D:=D.keep hb1;replace HB:=later HB hb1;clear hb1;clear y0 y1 y2 y3 y4;obtain⟨y0,y1,y2,y3,y4⟩:=id D)
       | (go_at_call_of 16 (Value.float FloatKind.f64 4607182418800017408);refine (co _).mono ?_;rintro _ VV ⟨rfl,hb1⟩;replace hown:=hown.keep hb1;replace D:=D.keep hb1;replace HB:=later HB hb1;clear hb1;clear y0 y1 y2 y3 y4;obtain⟨y0,y1,y2,y3,y4⟩:=id D)
       | (go_at_call_of 16 (Value.float FloatKind.f64 mg);refine (c2 _).mono ?_;rintro _ VV ⟨rfl,hb1⟩;replace hown:=hown.keep hb1;replace D:=D.keep hb1;replace HB:=later HB hb1;clear hb1;clear y0 y1 y2 y3 y4;obtain⟨y0,y1,y2,y3,y4⟩:=id D)
       | (go_at_call 34;refine (c3 _).mono ?_;rintro _ VV ⟨rfl,hb1⟩;replace hown:=hown.keep hb1;replace D:=D.keep hb1;replace HB:=later HB hb1;clear hb1;clear y0 y1 y2 y3 y4;obtain⟨y0,y1,y2,y3,y4⟩:=id D)
       | (go_at_call 33;refine (c4 _).mono ?_;rintro _ VV ⟨rfl,hb1⟩;replace hown:=hown.keep hb1;replace D:=D.keep hb1;replace HB:=later HB hb1;clear hb1;clear y0 y1 y2 y3 y4;obtain⟨y0,y1,y2,y3,y4⟩:=id D))
     clear y0 y1 y2 y3 y4 c1 c2 c3 c4
     have kD0:=fun n:Behind VV=>n.cell D.1 D.2.2.2.2;have kD1:=fun n:Behind VV=>n.cell D.2.1 D.2.2.2.2
     refine tail_first 7 _ u3 (by kernel_rfl) (by kernel_rfl) rfl (fun _ _ _ h=>h) (Or.inl ⟨by rfl,fun w=>by go_simp⟩) ?_
     simp only [List.take_succ_cons,List.take_zero,List.drop_succ_cons,List.drop_zero,Act.put,List.setIfInBounds_toArray,List.set_cons_succ,List.set_cons_zero]
     repeat (go_big_quiet_step (first | (go_at_call 16;with_reducible refine Behind.call (c5 _)) | (go_at_call 34;with_reducible refine Behind.call (c6 _))))
     refine wpQuiet_nil ?_
     rintro _ ⟨q',rfl⟩
     obtain⟨V7,hb1⟩:=q'
     dsimp only
     replace hown:=hown.keep hb1
     clear kD0 kD1 c5 c6 D
     replace HB:=later HB hb1
     clear hb1
     have hSz:=HB.size
     go_wp2_with (at_builtin;refine wpList_pushI (by rfl) _ _ (by rfl) _ (wdL X r) p.1 p.2 (by rfl) (by rfl) hown hlen.out hSz HB ?_;intro v' w' hown' hB' hS')
     go_roundg (k-r-1)
     case measure=>omega
     case rel=>exact⟨hB',r+1,by omega,by go_num,by rw [hst.out];exact hown'⟩
theorem bound_fair (v:Int) (A:Option Addr) (n C:Nat) (D:Option Addr) (m E:Nat) (O:Nat→Opw) (Y:Nat→Int) (AX:Option Addr) (mx CX:Nat) (X:Nat→Nat×Nat) (t:Nat) (hn:n≤9223372036854775807) (hm:m≤9223372036854775807) (hmx:mx≤9223372036854775807) (ht:t<18446744073709551616)
   (hmm:((rightT v n O m Y&&fldB v m)&&(allB mx X&&((mx:Int)==v))&&tmB t)=true) (hbb:allBd mx X=true) (w:World) (VO:Ops w A n O) (VY:Ins w D m Y) (VX:Ivs w AX mx X) :
   Calls Tryz.prog 7 #[tapeV v A n C D m E,.slice AX mx CX,.float .f64 t] w fun e' w'=>(∃r,e'=.returned r∧BndR ⟨v,A,n,C,D,m,E,AX,mx,CX,t⟩ (okE n O mx) (rtE n O Y) X w' r)∧Below w.heap.size w w':=by
 have F:Fair v n O m Y mx t X:=fair_of ht hmm hbb
 let q:Qst:=⟨v,A,n,C,D,m,E,AX,mx,CX,t⟩
 have K:Ask q (okE n O mx) (rtE n O Y) X w:=Fair.ask (q:=q) F VO VY VX
 have hX:∀i,i<mx→W2 (X i):=fun i hi=>ivs_words VX i hi
 have h0:eqB t 0=true→okE n O mx X=true→gdB q (okE n O mx) (rtE n O Y) X X=true:=fun hz ho=>by
   unfold gdB
   rw [ho,Bool.true_and]
   refine allIn_iff.2 fun i hi=>?_
   obtain⟨r1,r2⟩:=F.facts VO ho i hi
   exact rch_zero (hs_iff.1 (F.hs i hi)) (hX i hi) r2 r1 F.tm hz
 refine bound_good (q:=q) K F.bnd h0 (fun W hW=>?_)
 have c:=pref_w v A n C D m E O Y AX mx CX t X hn hm hmx ht W (VO.keep hW) (VY.keep hW) (VX.keep hW)
 simp only [Bool.and_eq_true,beq_iff_eq] at hmm
 obtain⟨⟨⟨h1,h2⟩,h3,h4⟩,h5⟩:=hmm
 have e1:(anyU mx fun i=>!hsB (X i).1 (X i).2)=false:=anyU_false.2 fun i hi=>by rw [F.hs i hi];rfl
 have e2:(anyU mx fun i=>!bndB (X i))=false:=anyU_false.2 fun i hi=>by rw [F.bnd i hi];rfl
 have e3:((mx:Int) != v)=false:=by simp [h4]
 rw [h1,h2,h5,e1,e2,e3] at c
 exact c
end Go.Proofs.YtnnfafilgiajoaaGreat
