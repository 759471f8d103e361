/- A region that draws the order of its first operations, all of them quiet over a class of worlds, and then has others one by one: the first ones are walked once, in the text's order. A region that draws its order and makes memory of its own beside quiet operations (x := f(y); x, y := f(z), g(z)): walked once. -/
import Derived.Test.YtgfppdboogldlaaGreatZs12
import Derived.Deep.Quiet
import Derived.StillTail
namespace Go.Proofs.YtgfppdboogldlaaGreat
open Go.ChangeShapes Go.WideShapes Go.ChangeAt Go.RowKit
section
variable {P:Program} {ops hd:Array Oper} {C:World→Prop}
theorem any_more {md:Region.Mode} {Q:Exit→Act→World→Prop}:∀(f:Nat) (listed:Array Bool) (a:Act) (w:World),wpAny P md ops Q f listed a w→wpAny P md ops Q (f+1) listed a w
 | 0,_,_,_,h=>⟨fun _=>h.2,fun i hi=>by rw [h.1] at hi;cases hi⟩
 | f+1,_,_,_,h=>⟨h.1,fun i hi=>wpOp_mono (fun a' w' h'=>any_more f _ a' w' h') (h.2 i hi)⟩
theorem any_more' {md:Region.Mode} {Q:Exit→Act→World→Prop} {g:Nat} {listed:Array Bool} {a:Act} {w:World} (h:wpAny P md ops Q g listed a w):∀f,wpAny P md ops Q (f+g) listed a w
 | 0=>by rw [Nat.zero_add];exact h
 | f+1=>by rw [show f+1+g=(f+g)+1 by omega];exact any_more _ _ _ _ (any_more' h f)
structure Heads (md:Region.Mode) (ops hd:Array Oper) (n:Nat):Prop where
 size:hd.size=n
 lt:n<ops.size
 same:∀j,j<n→hd[j]?=ops[j]?
 low:∀j o,j<n→ops[j]?=some o→∀e∈o.after,Region.binds md e=true→e.on<j
 guard:∀j o k b,j<n→ops[j]?=some o→o.guard=some (k,b)→k<n
theorem head_wanted {md:Region.Mode} {n j:Nat} {o:Oper} (H:Heads md ops hd n) (hj:j<n) (ho:ops[j]?=some o) (t:Array Value):Region.wanted o (yielded hd t)=Region.wanted o (yielded ops t):=by
 unfold Region.wanted
 cases hg:o.guard with
 | none=>rfl
 | some p =>
   obtain⟨k,b⟩:=p
   have hk:=H.guard j o k b hj ho hg
   have e:=H.same k hk
   simp only [yielded,e]
theorem getD_any {l:Array Bool} {i:Nat} (hi:i<l.size) (b c:Bool):l.getD i b=l.getD i c:=by
 simp [hi]
theorem head_q {md:Region.Mode} {n j:Nat} (H:Heads md ops hd n) (hj:j<n) {K:Act→Prop} {a:Act} (h:qOp P hd C j K a):qOp P ops C j K a:=by
 have e:=H.same j hj
 unfold qOp at h ⊢
 rw [e] at h
 cases ho:ops[j]? with
 | none=>rw [ho] at h;exact h
 | some o =>
   rw [ho] at h
   simp only at h ⊢
   rw [head_wanted H hj ho] at h
   exact h
theorem head_split {md:Region.Mode} {n g:Nat} {Q:Exit→Act→World→Prop} {Qh:Act→Prop} (H:Heads md ops hd n) (hs:Region.sinkB md ops n=true) (hc:Region.chainB md ops n=true)
   (hT:∀listed a w,HeadInv md ops n listed→(∀j,j<n→listed.getD j true=true)→C w→Qh a→wpAny P md ops Q g listed a w) :
   ∀(f:Nat) (lh listed:Array Bool) (a:Act) (w:World),HeadInv md ops n listed→lh.size=n→(∀j,j<n→lh.getD j true=listed.getD j true)→C w→wpAnyQ P md hd C Qh f lh a→wpAny P md ops Q (f+g) listed a w:=by
 have up:∀(lh listed:Array Bool),HeadInv md ops n listed→lh.size=n→(∀j,j<n→lh.getD j true=listed.getD j true)→∀j,j<n→(j∈Region.ready md hd lh↔j∈Region.ready md ops listed):=fun lh listed inv hsz ag j hj=>by
   have hn:=H.lt
   rw [mem_ready,mem_ready,ag j hj,H.same j hj]
   have key:∀o,ops[j]?=some o→∀e∈o.after,Region.binds md e=true→lh.getD e.on false=listed.getD e.on false:=fun o ho e he hb=>by
     have hl:=H.low j o hj ho e he hb
     rw [getD_any (l:=lh) (by omega) false true,getD_any (l:=listed) (by rw [inv.size];omega) false true]
     exact ag e.on (by omega)
   refine and_congr_right fun _=>⟨fun ⟨o,ho,h⟩=>⟨o,ho,fun e he hb=>?_⟩,fun ⟨o,ho,h⟩=>⟨o,ho,fun e he hb=>?_⟩⟩
   · rw [←key o ho e he hb];exact h e he hb
   · rw [key o ho e he hb];exact h e he hb
 have full:∀(lh listed:Array Bool),HeadInv md ops n listed→lh.size=n→(∀j,j<n→lh.getD j true=listed.getD j true)→Region.ready md hd lh=[]→∀j,j<n→listed.getD j true=true:=fun lh listed inv hsz ag hr j=>by
   induction j using Nat.strongRecOn with
   | _ j ih =>
     intro hj
     cases hl:listed.getD j true with
     | true=>rfl
     | false =>
       have hn:=H.lt
       have:j∈Region.ready md hd lh:=by
         rw [up lh listed inv hsz ag j hj,mem_ready]
         refine⟨hl,ops[j]'(by omega),by simp,fun e he hb=>?_⟩
         have lw:=H.low j (ops[j]'(by omega)) hj (by simp) e he hb
         rw [getD_any (l:=listed) (by rw [inv.size];omega) false true]
         exact ih e.on lw (by omega)
       rw [hr] at this
       cases this
 intro f
 induction f with
 | zero =>
   intro lh listed a w inv hsz ag hC h
   rw [Nat.zero_add]
   exact hT listed a w inv (full lh listed inv hsz ag h.1) hC h.2
 | succ f ih =>
   intro lh listed a w inv hsz ag hC h
   by_cases hr:Region.ready md hd lh=[]
   · exact any_more' (hT listed a w inv (full lh listed inv hsz ag hr) hC (h.1 hr)) _
   · obtain⟨i,hi⟩:=List.exists_mem_of_ne_nil _ hr
     have hin:i<n:=by
       obtain⟨_,o,ho,_⟩:=mem_ready.1 hi
       have:=(Array.getElem?_eq_some_iff.1 ho).1
       rw [H.size] at this
       exact this
     have hi':=(up lh listed inv hsz ag i hin).1 hi
     rw [show f+1+g=(f+g)+1 by omega]
     refine⟨fun h0=>(by rw [h0] at hi';cases hi'),fun j hj=>?_⟩
     have hjn:j<n:=by
       rcases Nat.lt_or_ge j n with c | c
       · exact c
       · exact absurd hj (tail_waits hs hc H.lt inv _ i rfl hin (mem_ready.1 hi').1 j c)
     refine wpOp_of_qOp hC (fun a' w' hw' hK=>ih (lh.setIfInBounds j true) (listed.setIfInBounds j true) a' w' (inv.set hj hjn) (by simp [hsz]) (fun k hk=>?_) hw' hK) (head_q H hjn (h.2 j ((up lh listed inv hsz ag j hjn).2 hj)))
     by_cases hjk:j=k
     · subst hjk
       have:=H.lt
       simp [hsz,hk,inv.size,show j<ops.size by omega]
     · rw [Go.getD_set_ne true hjk,Go.getD_set_ne true hjk]
       exact ag k hk
def lowB (l:List Oper) (n:Nat):Bool:=(List.range n).all fun j=>match l[j]? with
 | some o=>(o.after.all fun e=>!Region.binds .any e || decide (e.on<j))&&(match o.guard with | some (k,_)=>decide (k<n) | none=>true)
 | none=>true
def tailB (l:List Oper) (n:Nat):Bool:=Region.lexB .any (l.take n).toArray&&decide (n<l.length)&&Region.sinkB .any l.toArray n&&Region.chainB .any l.toArray n&&lowB l n&&Region.seqB .any l.toArray (l.length-n) n (List.replicate n true++List.replicate (l.length-n) false).toArray
theorem heads_of {l:List Oper} {n:Nat} (hn:n<l.length) (h:lowB l n=true):Heads .any l.toArray (l.take n).toArray n:=by
 have g:∀j o,j<n→l.toArray[j]?=some o→(o.after.all fun e=>!Region.binds .any e || decide (e.on<j))=true∧(match o.guard with | some (k,_)=>decide (k<n) | none=>true)=true:=fun j o hj ho=>by
   have h1:=List.all_eq_true.1 h j (List.mem_range.2 hj)
   have ho':l[j]?=some o:=by simpa using ho
   rw [ho'] at h1
   exact Bool.and_eq_true_iff.1 h1
 refine⟨by simp;omega,by simpa using hn,fun j hj=>by simp [hj],fun j o hj ho e he hb=>?_,fun j o k b hj ho hg=>?_⟩
 · have h2:=Array.all_eq_true_iff_forall_mem.1 (g j o hj ho).1 e he
   rw [hb] at h2
   simpa using h2
 · have h2:=(g j o hj ho).2
   rw [hg] at h2
   simpa using h2
theorem region_tail {id:Nat} {Q:Exit→Act→World→Prop} {a:Act} {w:World} {l:List Oper} (n:Nat) (hm:P.follows .mixedOrders=true) (hB:tailB l n=true) (hC:C w.drew)
   (h:wpQuiet P (l.take n).toArray C (fun a'=>∀w',C w'→wpList P l.toArray Q (l.drop n) a' w') (l.take n) a):(Code.region id l.toArray true).wp P Q a w:=by
 simp only [tailB,Bool.and_eq_true,decide_eq_true_eq] at hB
 obtain⟨⟨⟨⟨⟨hlex,hn⟩,hs⟩,hc⟩,hlow⟩,hseq⟩:=hB
 have H:=heads_of hn hlow
 simp only [Region.lexB,Bool.and_eq_true] at hlex
 have hl:(l.take n).length=n:=by simp;omega
 have q:=wpAnyQ_lex (P:=P) (C:=C) (md:=.any) hlex.1 (l.take n) 0 (Array.replicate (l.take n).toArray.size false) a (by simp) (by simpa using hlex.2) h
 refine wp_region_any hm ?_
 have:=head_split (P:=P) (C:=C) (Q:=Q) (g:=l.length-n) H hs hc (fun listed a' w' inv full hw' hq=>by
   have e:listed=(List.replicate n true++List.replicate (l.length-n) false).toArray:=by
     have sz:=inv.size
     refine Array.ext (by simp [sz];omega) fun i h1 h2=>?_
     have hi:i<l.length:=by rw [sz] at h1;simpa using h1
     rcases Nat.lt_or_ge i n with c | c
     · have:=full i c
       simp [h1] at this
       simp [this,c]
     · have:=inv.tail i c (by simpa using hi)
       simp [h1] at this
       rw [this]
       simp [c]
   have s:=wpAny_of_seq (P:=P) (md:=.any) (Q':=Q) (l.drop n) n listed a' w' (fun j=>by simp [List.getElem?_drop]) (by rw [e,List.length_drop];exact hseq) (hq w' hw')
   rwa [List.length_drop] at s) (l.take n).length (Array.replicate (l.take n).toArray.size false) (Array.replicate l.toArray.size false) a w.drew
   ⟨by simp,fun j oj _ hl=>(by rw [getD_replicate_false] at hl;cases hl),fun t _ ht=>getD_in (by simpa using ht) (getD_replicate_false _ _)⟩ (by simp;omega) (fun j hj=>?_) hC q
 · rw [hl,show n+(l.length-n)=l.toArray.size by simp;omega] at this
   exact this
 · have hj':j<l.length:=by omega
   have hm':min n l.length=n:=by omega
   simp [hm',hj,hj']
theorem tail_behind {id:Nat} {Q:Exit→Act→World→Prop} {a:Act} {w:World} {l:List Oper} (n:Nat) (hm:P.follows .mixedOrders=true) (hB:tailB l n=true)
   (h:wpQuiet P (l.take n).toArray (fun w'=>∃n:Behind w,w'=n.W) (fun a'=>∀w',(∃n:Behind w,w'=n.W)→wpList P l.toArray Q (l.drop n) a' w') (l.take n) a):(Code.region id l.toArray true).wp P Q a w :=
 region_tail (C:=fun w'=>∃n:Behind w,w'=n.W) n hm hB ⟨⟨w.drew,(Below.refl _ _).drew⟩,rfl⟩ h
end
section
variable {P:Program} {ops hd:Array Oper}
end
def HasI (w:World) (b:Nat) (x:Value):Prop:=w.cell? ⟨b,0,none⟩=some x∧b<w.heap.size
theorem HasI.keep {W0 w2:World} {b:Nat} {x:Value} (h:HasI W0 b x) (hb:Below W0.heap.size W0 w2):HasI w2 b x:=⟨(hb.cell h.2).trans h.1,Nat.lt_of_lt_of_le h.2 hb.size⟩
end Go.Proofs.YtgfppdboogldlaaGreat
