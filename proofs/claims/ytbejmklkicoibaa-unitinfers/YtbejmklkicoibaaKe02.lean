/- The walk of Split: how the program takes a float apart. The walk of sum: the exact sum of two finite floats, with a mark for what is lost. The walk of product: the exact product of two amounts, with a mark for what is lost. Plain facts on the program's rounding, whatever is rounded: its three sides stand in order, no more than neighbours apart. Plain facts: what the program rounds an amount to is what the document asks for, of any exact amount that the parts stand for. Plain facts: numbers with signs, rounded down: the place of the greatest float that is not above; the greater the number, the greater the place. The walks of the program's small functions on intervals: infinite ends, signs of nought, which intervals hold some number. The walks of holdsSome and someEmpty: which intervals hold some number. The walks of Make, Point, Whole, mirror, Neg: intervals made of ends. The walks of Point, Whole, Right, and of math.Abs and math.IsInf. The walks of Has, Inside and Strict: what is asked of intervals. The walks of Inside and Strict. Whole numbers as floats: what is exact is rounded to itself, to whichever side; the walk of the statement UlpWhole. The walks of counted, Hull and Meet. The walks of Meet, of the laws' hull, and of Add and Mul with an interval that holds nothing. Plain facts: hulls hold both, meets lie in both and hold just what both hold. What is taken off itself holds nought, what is divided by itself one; negatives twice; the least amount is not above the greatest. A region that draws its order, whose callees make memory of their own but change none: one walk, in the text's order, over all worlds that are as the first one was below its end. The walk of the statement IvalLattice: its two variables. IvalLattice: for every two intervals and every float64 the statement's answer is true. A region that draws the order of its first operations, all of them quiet over a class of worlds, and then has others one by one: the first ones are walked once, in the text's order. A region that draws its order and makes memory of its own beside quiet operations (x := f(y); x, y := f(z), g(z)): walked once. -/
import Derived.Test.YtbejmklkicoibaaKe01
import Derived.Deep.QuietTactic
import Derived.BigQuiet
import Derived.Deep.RegionHeld3
import Derived.Deep.CutRange
import Derived.WalkSmall
import Derived.Deep.LoopGhost
import Derived.WalkKit
import Derived.Deep.CutBlock
import Derived.Deep.RegionWith
import Derived.Deep.Quiet
import Derived.StillTail
namespace Go.Proofs.Ytbejmklkicoibaa
open Go.ChangeShapes Go.WideShapes Go.ChangeAt Go.RowKit
theorem keepsC {W0 w2:World} (hb:Below W0.heap.size W0 w2) {b o:Nat} {v:Value} (hc:W0.cell? ⟨b,o,none⟩=some v) (hlt:b<W0.heap.size):w2.cell? ⟨b,o,none⟩=some v:=(hb.cell hlt).trans hc
theorem keepsF {W0 w2:World} (hb:Below W0.heap.size W0 w2) {b o:Nat} {v:Bool} (hc:W0.frozen? ⟨b,o,none⟩=v) (hlt:b<W0.heap.size):w2.frozen? ⟨b,o,none⟩=v:=(hb.frozen hlt).trans hc
def Has3 (w:World) (b:Nat) (x y z:Value):Prop:=w.cell? ⟨b,0,none⟩=some x/\w.cell? ⟨b,1,none⟩=some y/\w.cell? ⟨b,2,none⟩=some z/\w.frozen? ⟨b,0,none⟩=false/\w.frozen? ⟨b,1,none⟩=false/\w.frozen? ⟨b,2,none⟩=false/\b<w.heap.size
theorem Has3.keep {W0 w2:World} {b:Nat} {x y z:Value} (h:Has3 W0 b x y z) (hb:Below W0.heap.size W0 w2):Has3 w2 b x y z:=by
 obtain⟨h0,h1,h2,f0,f1,f2,hl⟩:=h
 exact⟨keepsC hb h0 hl,keepsC hb h1 hl,keepsC hb h2 hl,keepsF hb f0 hl,keepsF hb f1 hl,keepsF hb f2 hl,Nat.lt_of_lt_of_le hl hb.size⟩
theorem Has3.far {w:World} {b c:Nat} {x y z:Value} (h:Has3 w b x y z) (hne:c≠b) (x' y' z':Value):Has3 (((w.setCell ⟨c,0,none⟩ x').setCell ⟨c,1,none⟩ y').setCell ⟨c,2,none⟩ z') b x y z:=by
 obtain⟨h0,h1,h2,f0,f1,f2,hl⟩:=h
 have hne':b≠c:=fun e=>hne e.symm
 refine⟨by simp [World.cell?_setCell_far, *],by simp [World.cell?_setCell_far, *],by simp [World.cell?_setCell_far, *],by go_simp,by go_simp,by go_simp, ?_⟩
 simp only [World.size_setCell];exact hl
end Go.Proofs.Ytbejmklkicoibaa
namespace Go.Proofs.Ytbejmklkicoibaa
end Go.Proofs.Ytbejmklkicoibaa
namespace Go.Proofs.Ytbejmklkicoibaa
end Go.Proofs.Ytbejmklkicoibaa
namespace Go.Proofs.Ytbejmklkicoibaa
def V (k:Int):Int:=if k<0 then -(val (-k).toNat:Int) else (val k.toNat:Int)
end Go.Proofs.Ytbejmklkicoibaa
namespace Go.Proofs.Ytbejmklkicoibaa
open Go.ChangeShapes Go.WideShapes Go.ChangeAt Go.RowKit
@[go_sem] theorem run_store_float (P:Program) (w:World) (a:Addr) (m:Mode) (k:FloatKind) (n:Nat):(store a (.float k n) m).run P w=stored P w a (.float k n) m:=run_store P w a _ m rfl
def infI (s:Int):Nat:=if s<0 then 18442240474082181120 else 9218868437227405312
def mz (x:Nat):Bool:=decide (x=9223372036854775808)
def pz (x:Nat):Nat:=if x=9223372036854775808 then 0 else x
def hsB (lo hi:Nat):Bool:=!nanB lo&&!nanB hi&&decide (key lo<=key hi)&&decide (key lo<9218868437227405312)&&decide (-9218868437227405312<key hi)&&!mz lo&&!mz hi
def Has2 (w:World) (b:Nat) (x y:Value):Prop:=w.cell? ⟨b,0,none⟩=some x/\w.cell? ⟨b,1,none⟩=some y/\w.frozen? ⟨b,0,none⟩=false/\w.frozen? ⟨b,1,none⟩=false/\b<w.heap.size
theorem Has2.keep {W0 w2:World} {b:Nat} {x y:Value} (h:Has2 W0 b x y) (hb:Below W0.heap.size W0 w2):Has2 w2 b x y:=by
 obtain⟨h0,h1,f0,f1,hl⟩:=h
 exact⟨keepsC hb h0 hl,keepsC hb h1 hl,keepsF hb f0 hl,keepsF hb f1 hl,Nat.lt_of_lt_of_le hl hb.size⟩
def makeP (lo hi:Nat):Nat×Nat:=if hsB (pz lo) (pz hi) then (pz lo,pz hi) else (infI 1,infI (-1))
@[go_sem] theorem equalIn_float (a b:Nat) (w:World):(Op.equalIn 9999 66 (.float .f64 a) (.float .f64 b)).run Try.prog w=.ok (FloatKind.f64.format.order a b==some .eq) w:=by
 unfold Op.equalIn
 simp [go_sem]
 rfl
theorem both {k:Int} (h:-9218868437227405311<=k/\k<=9218868437227405311):(-9218868437227405312<=k/\k<=9218868437227405311)/\(-9218868437227405312<=-k/\-k<=9218868437227405311):=by omega
theorem Has2.put {w:World} {b:Nat} {x y:Value} (h:Has2 w b x y) (x' y':Value):Has2 ((w.setCell ⟨b,0,none⟩ x').setCell ⟨b,1,none⟩ y') b x' y':=by
 obtain⟨h0,h1,f0,f1,hl⟩:=h
 refine⟨by go_simp,by go_simp,by go_simp,by go_simp, ?_⟩
 simp only [World.size_setCell];exact hl
theorem Has2.far {w:World} {b c:Nat} {x y:Value} (h:Has2 w b x y) (hne:c≠b) (x' y':Value):Has2 ((w.setCell ⟨c,0,none⟩ x').setCell ⟨c,1,none⟩ y') b x y:=by
 obtain⟨h0,h1,f0,f1,hl⟩:=h
 have hne':b≠c:=fun e=>hne e.symm
 refine⟨by simp [World.cell?_setCell_far, *],by simp [World.cell?_setCell_far, *],by go_simp,by go_simp, ?_⟩
 simp only [World.size_setCell];exact hl
structure Some2 (lo hi:Nat):Prop where
 nl:nanB lo=false
 nh:nanB hi=false
 le:key lo<=key hi
 lt:key lo<9218868437227405312
 gt:-9218868437227405312<key hi
 zl:lo≠9223372036854775808
 zh:hi≠9223372036854775808
structure Behind (w0:World) where
 W:World
 bel:Below w0.heap.size w0 W
instance (w0:World):Nonempty (Behind w0):=⟨⟨w0,Below.refl _ _⟩⟩
theorem region_behind {P:Program} {id:Nat} {Q:Exit->Act->World->Prop} {a:Act} {w:World} {l:List Oper} (hm:P.follows .mixedOrders=true) (hB:Region.lexB .any l.toArray=true)
  (h:wpQuiet P l.toArray (fun w'=>∃n:Behind w,w'=n.W) (fun a'=>∀w',(∃n:Behind w,w'=n.W)->Q .normal a' w') l a):(Code.region id l.toArray true).wp P Q a w :=
 wp_region_quiet (C:=fun w'=>∃n:Behind w,w'=n.W) hm hB ⟨⟨w.drew,(Below.refl _ _).drew⟩,rfl⟩ (by simpa using h)
theorem Behind.call {P:Program} {f:FuncId} {args:Array Value} {w0:World} {n:Behind w0} {v:Value} (h:Calls P f args n.W fun e w'=>e=.returned v/\Below n.W.heap.size n.W w') :
  Calls P f args n.W fun e w''=>e=.returned v/\∃m:Behind w0,w''=m.W :=
 h.mono fun _ w' ⟨a,b⟩=>⟨a,⟨⟨w',later n.bel b⟩,rfl⟩⟩
theorem Behind.same {P:Program} {f:FuncId} {args:Array Value} {w0:World} {n:Behind w0} {v:Value} (h:Calls P f args n.W fun e w'=>e=.returned v/\n.W=w') :
  Calls P f args n.W fun e w''=>e=.returned v/\∃m:Behind w0,w''=m.W :=
 h.mono fun _ _ ⟨a,b⟩=>⟨a,⟨n,b.symm⟩⟩
theorem Behind.cell {w0:World} (n:Behind w0) {b o:Nat} {v:Value} (h:w0.cell? ⟨b,o,none⟩=some v) (hl:b<w0.heap.size):n.W.cell? ⟨b,o,none⟩=some v:=keepsC n.bel h hl
theorem has2_new (w:World) (x y:Value) (T:TypeId):Has2 (w.alloc (.cells #[x,y] T)) w.heap.size x y:=⟨by go_simp,by go_simp,by go_simp,by go_simp,by go_size⟩
section
variable {P:Program} {ops hd:Array Oper} {C:World->Prop}
theorem any_more {md:Region.Mode} {Q:Exit->Act->World->Prop}:∀(f:Nat) (listed:Array Bool) (a:Act) (w:World),wpAny P md ops Q f listed a w->wpAny P md ops Q (f+1) listed a w
 | 0,_,_,_,h=>⟨fun _=>h.2,fun i hi=>by rw [h.1] at hi;cases hi⟩
 | f+1,_,_,_,h=>⟨h.1,fun i hi=>wpOp_mono (fun a' w' h'=>any_more f _ a' w' h') (h.2 i hi)⟩
theorem any_more' {md:Region.Mode} {Q:Exit->Act->World->Prop} {g:Nat} {listed:Array Bool} {a:Act} {w:World} (h:wpAny P md ops Q g listed a w):∀f,wpAny P md ops Q (f+g) listed a w
 | 0=>by rw [Nat.zero_add];exact h
 | f+1=>by rw [show f+1+g=(f+g)+1 by omega];exact any_more _ _ _ _ (any_more' h f)
structure Heads (md:Region.Mode) (ops hd:Array Oper) (n:Nat):Prop where
 size:hd.size=n
 lt:n<ops.size
 same:∀j,j<n->hd[j]?=ops[j]?
 low:∀j o,j<n->ops[j]?=some o->∀e∈o.after,Region.binds md e=true->e.on<j
 guard:∀j o k b,j<n->ops[j]?=some o->o.guard=some (k,b)->k<n
theorem head_wanted {md:Region.Mode} {n j:Nat} {o:Oper} (H:Heads md ops hd n) (hj:j<n) (ho:ops[j]?=some o) (t:Array Value):Region.wanted o (yielded hd t)=Region.wanted o (yielded ops t):=by
 unfold Region.wanted
 cases hg:o.guard with
 | none=>rfl
 | some p =>
  obtain⟨k,b⟩:=p
  have hk:=H.guard j o k b hj ho hg
  have e:=H.same k hk
  simp only [yielded,e]
theorem getD_any {l:Array Bool} {i:Nat} (hi:i<l.size) (b c:Bool):l.getD i b=l.getD i c:=by
 simp [hi]
theorem head_q {md:Region.Mode} {n j:Nat} (H:Heads md ops hd n) (hj:j<n) {K:Act->Prop} {a:Act} (h:qOp P hd C j K a):qOp P ops C j K a:=by
 have e:=H.same j hj
 unfold qOp at h ⊢
 rw [e] at h
 cases ho:ops[j]? with
 | none=>rw [ho] at h;exact h
 | some o =>
  rw [ho] at h
  simp only at h ⊢
  rw [head_wanted H hj ho] at h
  exact h
theorem head_split {md:Region.Mode} {n g:Nat} {Q:Exit->Act->World->Prop} {Qh:Act->Prop} (H:Heads md ops hd n) (hs:Region.sinkB md ops n=true) (hc:Region.chainB md ops n=true)
  (hT:∀listed a w,HeadInv md ops n listed->(∀j,j<n->listed.getD j true=true)->C w->Qh a->wpAny P md ops Q g listed a w) :
  ∀(f:Nat) (lh listed:Array Bool) (a:Act) (w:World),HeadInv md ops n listed->lh.size=n->(∀j,j<n->lh.getD j true=listed.getD j true)->C w->wpAnyQ P md hd C Qh f lh a->wpAny P md ops Q (f+g) listed a w:=by
 have up:∀(lh listed:Array Bool),HeadInv md ops n listed->lh.size=n->(∀j,j<n->lh.getD j true=listed.getD j true)->∀j,j<n->(j∈Region.ready md hd lh↔j∈Region.ready md ops listed):=fun lh listed inv hsz ag j hj=>by
  have hn:=H.lt
  rw [mem_ready,mem_ready,ag j hj,H.same j hj]
  have key:∀o,ops[j]?=some o->∀e∈o.after,Region.binds md e=true->lh.getD e.on false=listed.getD e.on false:=fun o ho e he hb=>by
   have hl:=H.low j o hj ho e he hb
   rw [getD_any (l:=lh) (by omega) false true,getD_any (l:=listed) (by rw [inv.size];omega) false true]
   exact ag e.on (by omega)
  refine and_congr_right fun _=>⟨fun ⟨o,ho,h⟩=>⟨o,ho,fun e he hb=>?_⟩,fun ⟨o,ho,h⟩=>⟨o,ho,fun e he hb=>?_⟩⟩
  ·rw [<-key o ho e he hb];exact h e he hb
  ·rw [key o ho e he hb];exact h e he hb
 have full:∀(lh listed:Array Bool),HeadInv md ops n listed->lh.size=n->(∀j,j<n->lh.getD j true=listed.getD j true)->Region.ready md hd lh=[]->∀j,j<n->listed.getD j true=true:=fun lh listed inv hsz ag hr j=>by
  induction j using Nat.strongRecOn with
  | _ j ih =>
   intro hj
   cases hl:listed.getD j true with
   | true=>rfl
   | false =>
    have hn:=H.lt
    have:j∈Region.ready md hd lh:=by
     rw [up lh listed inv hsz ag j hj,mem_ready]
     refine⟨hl,ops[j]'(by omega),by simp,fun e he hb=>?_⟩
     have lw:=H.low j (ops[j]'(by omega)) hj (by simp) e he hb
     rw [getD_any (l:=listed) (by rw [inv.size];omega) false true]
     exact ih e.on lw (by omega)
    rw [hr] at this
    cases this
 intro f
 induction f with
 | zero =>
  intro lh listed a w inv hsz ag hC h
  rw [Nat.zero_add]
  exact hT listed a w inv (full lh listed inv hsz ag h.1) hC h.2
 | succ f ih =>
  intro lh listed a w inv hsz ag hC h
  by_cases hr:Region.ready md hd lh=[]
  ·exact any_more' (hT listed a w inv (full lh listed inv hsz ag hr) hC (h.1 hr)) _
  ·obtain⟨i,hi⟩:=List.exists_mem_of_ne_nil _ hr
   have hin:i<n:=by
    obtain⟨_,o,ho,_⟩:=mem_ready.1 hi
    have:=(Array.getElem?_eq_some_iff.1 ho).1
    rw [H.size] at this
    exact this
   have hi':=(up lh listed inv hsz ag i hin).1 hi
   rw [show f+1+g=(f+g)+1 by omega]
   refine⟨fun h0=>(by rw [h0] at hi';cases hi'),fun j hj=>?_⟩
   have hjn:j<n:=by
    rcases Nat.lt_or_ge j n with c | c
    ·exact c
    ·exact absurd hj (tail_waits hs hc H.lt inv _ i rfl hin (mem_ready.1 hi').1 j c)
   refine wpOp_of_qOp hC (fun a' w' hw' hK=>ih (lh.setIfInBounds j true) (listed.setIfInBounds j true) a' w' (inv.set hj hjn) (by simp [hsz]) (fun k hk=>?_) hw' hK) (head_q H hjn (h.2 j ((up lh listed inv hsz ag j hjn).2 hj)))
   by_cases hjk:j=k
   ·subst hjk
    have:=H.lt
    simp [hsz,hk,inv.size,show j<ops.size by omega]
   ·rw [Go.getD_set_ne true hjk,Go.getD_set_ne true hjk]
    exact ag k hk
def lowB (l:List Oper) (n:Nat):Bool:=(List.range n).all fun j=>match l[j]? with
 | some o=>(o.after.all fun e=>!Region.binds .any e || decide (e.on<j))&&(match o.guard with | some (k,_)=>decide (k<n) | none=>true)
 | none=>true
def tailB (l:List Oper) (n:Nat):Bool:=Region.lexB .any (l.take n).toArray&&decide (n<l.length)&&Region.sinkB .any l.toArray n&&Region.chainB .any l.toArray n&&lowB l n&&Region.seqB .any l.toArray (l.length-n) n (List.replicate n true++List.replicate (l.length-n) false).toArray
theorem heads_of {l:List Oper} {n:Nat} (hn:n<l.length) (h:lowB l n=true):Heads .any l.toArray (l.take n).toArray n:=by
 have g:∀j o,j<n->l.toArray[j]?=some o->(o.after.all fun e=>!Region.binds .any e || decide (e.on<j))=true/\(match o.guard with | some (k,_)=>decide (k<n) | none=>true)=true:=fun j o hj ho=>by
  have h1:=List.all_eq_true.1 h j (List.mem_range.2 hj)
  have ho':l[j]?=some o:=by simpa using ho
  rw [ho'] at h1
  exact Bool.and_eq_true_iff.1 h1
 refine⟨by simp;omega,by simpa using hn,fun j hj=>by simp [hj],fun j o hj ho e he hb=>?_,fun j o k b hj ho hg=>?_⟩
 ·have h2:=Array.all_eq_true_iff_forall_mem.1 (g j o hj ho).1 e he
  rw [hb] at h2
  simpa using h2
 ·have h2:=(g j o hj ho).2
  rw [hg] at h2
  simpa using h2
theorem region_tail {id:Nat} {Q:Exit->Act->World->Prop} {a:Act} {w:World} {l:List Oper} (n:Nat) (hm:P.follows .mixedOrders=true) (hB:tailB l n=true) (hC:C w.drew)
  (h:wpQuiet P (l.take n).toArray C (fun a'=>∀w',C w'->wpList P l.toArray Q (l.drop n) a' w') (l.take n) a):(Code.region id l.toArray true).wp P Q a w:=by
 simp only [tailB,Bool.and_eq_true,decide_eq_true_eq] at hB
 obtain⟨⟨⟨⟨⟨hlex,hn⟩,hs⟩,hc⟩,hlow⟩,hseq⟩:=hB
 have H:=heads_of hn hlow
 simp only [Region.lexB,Bool.and_eq_true] at hlex
 have hl:(l.take n).length=n:=by simp;omega
 have q:=wpAnyQ_lex (P:=P) (C:=C) (md:=.any) hlex.1 (l.take n) 0 (Array.replicate (l.take n).toArray.size false) a (by simp) (by simpa using hlex.2) h
 refine wp_region_any hm ?_
 have:=head_split (P:=P) (C:=C) (Q:=Q) (g:=l.length-n) H hs hc (fun listed a' w' inv full hw' hq=>by
  have e:listed=(List.replicate n true++List.replicate (l.length-n) false).toArray:=by
   have sz:=inv.size
   refine Array.ext (by simp [sz];omega) fun i h1 h2=>?_
   have hi:i<l.length:=by rw [sz] at h1;simpa using h1
   rcases Nat.lt_or_ge i n with c | c
   ·have:=full i c
    simp [h1] at this
    simp [this,c]
   ·have:=inv.tail i c (by simpa using hi)
    simp [h1] at this
    rw [this]
    simp [c]
  have s:=wpAny_of_seq (P:=P) (md:=.any) (Q':=Q) (l.drop n) n listed a' w' (fun j=>by simp [List.getElem?_drop]) (by rw [e,List.length_drop];exact hseq) (hq w' hw')
  rwa [List.length_drop] at s) (l.take n).length (Array.replicate (l.take n).toArray.size false) (Array.replicate l.toArray.size false) a w.drew
  ⟨by simp,fun j oj _ hl=>(by rw [getD_replicate_false] at hl;cases hl),fun t _ ht=>getD_in (by simpa using ht) (getD_replicate_false _ _)⟩ (by simp;omega) (fun j hj=>?_) hC q
 ·rw [hl,show n+(l.length-n)=l.toArray.size by simp;omega] at this
  exact this
 ·have hj':j<l.length:=by omega
  have hm':min n l.length=n:=by omega
  simp [hm',hj,hj']
theorem tail_behind {id:Nat} {Q:Exit->Act->World->Prop} {a:Act} {w:World} {l:List Oper} (n:Nat) (hm:P.follows .mixedOrders=true) (hB:tailB l n=true)
  (h:wpQuiet P (l.take n).toArray (fun w'=>∃n:Behind w,w'=n.W) (fun a'=>∀w',(∃n:Behind w,w'=n.W)->wpList P l.toArray Q (l.drop n) a' w') (l.take n) a):(Code.region id l.toArray true).wp P Q a w :=
 region_tail (C:=fun w'=>∃n:Behind w,w'=n.W) n hm hB ⟨⟨w.drew,(Below.refl _ _).drew⟩,rfl⟩ h
end
section
variable {P:Program} {ops hd:Array Oper}
def Beh (W:World):World->Prop:=fun w'=>∃n:Behind W,w'=n.W
theorem beh_of {W w':World} (h:Below W.heap.size W w'):Beh W w':=⟨⟨w',h⟩,rfl⟩
theorem Beh.below {W w':World} (h:Beh W w'):Below W.heap.size W w':=by
 obtain⟨⟨V,hb⟩,rfl⟩:=h
 exact hb
theorem pin {md:Region.Mode} {C:World->Prop} {A:Act} (s:Nat):∀(f:Nat) (lh:Array Bool) (a:Act),wpAnyQ P md hd C (fun a'=>a'=A) f lh a->(∀j o,hd[j]?=some o->lh.getD j true=false->o.dst≠some s)->A.tmps[s]?=a.tmps[s]?
 | 0,_,_,h,_=>by rw [h.2]
 | f+1,lh,a,h,hn=>by
  by_cases hr:Region.ready md hd lh=[]
  ·rw [h.1 hr]
  ·obtain⟨i,hi⟩:=List.exists_mem_of_ne_nil _ hr
   obtain⟨hl,o,ho, -⟩:=mem_ready.1 hi
   obtain⟨v, -,hK⟩:=yieldsIn_of_qOp ho (h.2 i hi)
   have e:=pin s f _ _ hK (fun j oj hj hlj=>by
    by_cases hij:i=j
    ·subst hij
     have:oj=o:=Option.some.inj (hj.symm.trans ho)
     subst this
     exact hn i oj hj hl
    ·rw [Go.getD_set_ne true hij] at hlj
     exact hn j oj hj hlj)
   rw [e]
   have hd':=hn i o ho hl
   cases hdst:o.dst with
   | none=>rfl
   | some d =>
    rw [hdst] at hd'
    have:d≠s:=fun e=>hd' (by rw [e])
    simp [Act.put,Array.getElem?_setIfInBounds_ne this]
def distB (l:List Oper):Bool:=(List.range l.length).all fun i=>(List.range l.length).all fun j=>i==j || match l[i]?,l[j]? with
 | some x,some y=>(match x.dst with | some d=>y.dst != some d | none=>true)
 | _,_=>true
theorem dist_of {l:List Oper} (h:distB l=true) {i j:Nat} {x y:Oper} (hi:l[i]?=some x) (hj:l[j]?=some y) (hne:i≠j) {d:Nat} (hd:x.dst=some d):y.dst≠some d:=by
 have li:i<l.length:=(List.getElem?_eq_some_iff.1 hi).1
 have lj:j<l.length:=(List.getElem?_eq_some_iff.1 hj).1
 have h1:=List.all_eq_true.1 h i (List.mem_range.2 li)
 have h2:=List.all_eq_true.1 h1 j (List.mem_range.2 lj)
 simp only [hi,hj,hd,Bool.or_eq_true,beq_iff_eq,hne,false_or,bne_iff_ne] at h2
 exact h2
theorem put_pinned {md:Region.Mode} {C C':World->Prop} {A:Act} {l:List Oper} (hD:distB l=true) {i:Nat} {o:Oper} (ho:l.toArray[i]?=some o) {f f':Nat} {lh:Array Bool} (hs:i<lh.size) {a:Act} {v v':Value}
  (h:wpAnyQ P md l.toArray C (fun a'=>a'=A) f (lh.setIfInBounds i true) (a.put o.dst v)) (h':wpAnyQ P md l.toArray C' (fun a'=>a'=A) f' (lh.setIfInBounds i true) (a.put o.dst v')):a.put o.dst v=a.put o.dst v':=by
 cases hd:o.dst with
 | none=>rfl
 | some d =>
  rw [hd] at h h'
  have hn:∀j oj,l.toArray[j]?=some oj->(lh.setIfInBounds i true).getD j true=false->oj.dst≠some d:=fun j oj hj hlj=>by
   by_cases hij:i=j
   ·subst hij
    simp [hs] at hlj
   ·exact dist_of hD (by simpa using ho) (by simpa using hj) hij hd
  have e:=(pin d f _ _ h hn).symm.trans (pin d f' _ _ h' hn)
  by_cases hb:d<a.tmps.size
  ·simp [Act.put,hb] at e
   rw [e]
  ·simp [Act.put,Array.setIfInBounds,hb]
def putL (dst:Nat->Option Nat):List (Nat×Nat)->Act->Act
 | [],a=>a
 | (m,b) :: tk,a=>(putL dst tk a).put (dst m) (.pointer (some ⟨b,0,none⟩))
theorem putL_put {dst:Nat->Option Nat} {x:Option Nat} {v:Value} (h:∀m d,dst m=some d->x≠some d):∀(tk:List (Nat×Nat)) (a:Act),putL dst tk (a.put x v)=(putL dst tk a).put x v
 | [],_=>rfl
 | (m,b) :: tk,a=>by
  unfold putL
  rw [putL_put h tk a]
  rw [Act.put_comm _ _ _ (fun d hd e=>h m d e hd)]
theorem exec_putL {dst:Nat->Option Nat} {o:Oper} (hs:∀cs b,o.op≠.select cs b) (h:∀m d,dst m=some d->d ∉ o.looksAt ops):∀(tk:List (Nat×Nat)) (a:Act),execOp (putL dst tk a).eval o=execOp a.eval o/\Region.wanted o (yielded ops (putL dst tk a).tmps)=Region.wanted o (yielded ops a.tmps)
 | [],_=>⟨rfl,rfl⟩
 | (m,b) :: tk,a=>by
  unfold putL
  rw [execOp_put (ops:=ops) o hs _ (dst m) _ (h m),wanted_put o _ (dst m) _ (h m)]
  exact exec_putL hs h tk a
def reachB (l:List Oper) (n:Nat):Nat->Nat->Nat->Bool
 | 0,_,_=>false
 | f+1,j,i=>Region.waitsFor .any l.toArray j i || (List.range n).any fun m=>Region.waitsFor .any l.toArray j m&&reachB l n f m i
def allocsB (l:List Oper) (n k:Nat):Bool :=
 Region.lexB .any (l.take n).toArray&&decide (n+k<l.length)&&lowB l n&&distB (l.take n)&&Region.noSelect l.toArray
 && ((List.range k).all fun m=>match l[n+m]? with | some o=>o.after.isEmpty&&o.guard.isNone&&((List.range n).all fun j=>match l[j]? with | some oj=>o.apart l.toArray oj | none=>true) | none=>false)
 && ((List.range l.length).all fun j=>decide (j<n+k) || (List.range (n+k)).all fun i=>reachB l n 6 j i)
 && Region.seqB .any l.toArray (l.length-(n+k)) (n+k) (List.replicate (n+k) true++List.replicate (l.length-(n+k)) false).toArray
theorem reach_listed {l:List Oper} {n:Nat} {listed:Array Bool} (cl:∀j oj,l.toArray[j]?=some oj->listed.getD j false=true->∀e∈oj.after,Region.binds .any e=true->listed.getD e.on false=true) (hsz:listed.size=l.length) :
  ∀(f j i:Nat) (o:Oper),l.toArray[j]?=some o->(∀e∈o.after,Region.binds .any e=true->listed.getD e.on false=true)->reachB l n f j i=true->listed.getD i false=true
 | 0,_,_,_,_,_,h=>by simp [reachB] at h
 | f+1,j,i,o,ho,hw,h=>by
  simp only [reachB,Bool.or_eq_true] at h
  have dir:∀i,Region.waitsFor .any l.toArray j i=true->listed.getD i false=true:=fun i hi=>by
   obtain⟨oj,hoj,e,he,hb,hei⟩:=Region.waitsFor_spec hi
   have:oj=o:=Option.some.inj (hoj.symm.trans ho)
   subst this
   rw [<-hei]
   exact hw e he hb
  rcases h with h | h
  ·exact dir i h
  ·obtain⟨m, -,hm⟩:=List.any_eq_true.1 h
   simp only [Bool.and_eq_true] at hm
   have lm:=dir m hm.1
   have ml:m<l.length:=by
    rcases Nat.lt_or_ge m listed.size with c | c
    ·omega
    ·simp [Array.getElem?_eq_none c] at lm
   have om:l.toArray[m]?=some (l[m]'ml):=by simp [ml]
   exact reach_listed cl hsz f m i _ om (cl m _ om lm) hm.2
theorem all_listed {n:Nat} (H:Heads .any ops hd n) {lh:Array Bool} (hsz:lh.size=n) (hr:Region.ready .any hd lh=[]):∀j,j<n->lh.getD j true=true:=fun j=>by
 induction j using Nat.strongRecOn with
 | _ j ih =>
  intro hj
  cases hl:lh.getD j true with
  | true=>rfl
  | false =>
   have hn:=H.lt
   have:j∈Region.ready .any hd lh:=by
    rw [mem_ready]
    refine⟨hl,ops[j]'(by omega),by rw [H.same j hj];simp,fun e he hb=>?_⟩
    have lw:=H.low j (ops[j]'(by omega)) hj (by simp) e he hb
    rw [getD_any (l:=lh) (by omega) false true]
    exact ih e.on lw (by omega)
   rw [hr] at this
   cases this
structure LInv (l:List Oper) (n k:Nat) (lh listed:Array Bool) (rem:List Nat):Prop where
 s1:listed.size=l.length
 s2:lh.size=n
 same:∀j,j<n->lh.getD j true=listed.getD j true
 al:∀m,m<k->(listed.getD (n+m) true=false↔m∈rem)
 nd:rem.Nodup
 lo:∀m∈rem,m<k
 tail:∀j,n+k<=j->j<l.length->listed.getD j true=false
 cl:∀j oj,l.toArray[j]?=some oj->listed.getD j false=true->∀e∈oj.after,Region.binds .any e=true->listed.getD e.on false=true
theorem listed_cl {l:List Oper} {listed:Array Bool} (cl:∀j oj,l.toArray[j]?=some oj->listed.getD j false=true->∀e∈oj.after,Region.binds .any e=true->listed.getD e.on false=true) {i:Nat} (hi:i∈Region.ready .any l.toArray listed) :
  ∀j oj,l.toArray[j]?=some oj->(listed.setIfInBounds i true).getD j false=true->∀e∈oj.after,Region.binds .any e=true->(listed.setIfInBounds i true).getD e.on false=true:=fun j oj hj hl e he hb=>by
 obtain⟨_,oi,hoi,hall⟩:=mem_ready.1 hi
 by_cases hij:i=j
 ·subst hij
  have:oj=oi:=Option.some.inj (hj.symm.trans hoi)
  subst this
  exact getD_set_true (hall e he hb)
 ·rw [Go.getD_set_ne false hij] at hl
  exact getD_set_true (cl j oj hj hl e he hb)
theorem region_allocs {id:Nat} {Q:Exit->Act->World->Prop} {a:Act} {w:World} {l:List Oper} (n k:Nat) (obj:Nat->Obj) (Z:Nat->Nat->World->Prop) (A:Act) (hm:P.follows .mixedOrders=true) (hB:allocsB l n k=true)
  (hal:∀m,m<k->∀o,l[n+m]?=some o->∀(a:Act) (w:World),(execOp a.eval o).run P w=.ok (.value (.pointer (some ⟨w.heap.size,0,none⟩))) (w.alloc (obj m)))
  (hZ:∀m,m<k->∀w1:World,Z m w1.heap.size (w1.alloc (obj m))) (hK:∀m b (w1 w2:World),Z m b w1->b<w1.heap.size->Below w1.heap.size w1 w2->Z m b w2)
  (h:∀W,Below w.heap.size w W->wpQuiet P (l.take n).toArray (Beh W) (fun a'=>a'=A) (l.take n) a)
  (hT:∀(tk:List (Nat×Nat)) (W:World),(tk.map (·.1)).Perm (List.range k)->(tk.map (·.2)).Nodup->(∀m b,(m,b)∈tk->Z m b W/\w.heap.size<=b/\b<W.heap.size)->Below w.heap.size w W ->
   wpList P l.toArray Q (l.drop (n+k)) (putL (fun m=>(l[n+m]?).bind (·.dst)) tk A) W):(Code.region id l.toArray true).wp P Q a w:=by
 simp only [allocsB,Bool.and_eq_true,decide_eq_true_eq] at hB
 obtain⟨⟨⟨⟨⟨⟨⟨hlex,hn⟩,hlow⟩,hdist⟩,hsel⟩,hall⟩,hwait⟩,hseq⟩:=hB
 have H:=heads_of (l:=l) (n:=n) (by omega) hlow
 have nosel:=Region.noSelect_spec hsel
 simp only [Region.lexB,Bool.and_eq_true] at hlex
 have hl:(l.take n).length=n:=by simp;omega
 have mk:∀m,m<k->∃o,l[n+m]?=some o/\o.after=#[]/\o.guard=none/\∀j oj,j<n->l[j]?=some oj->o.apart l.toArray oj=true:=fun m hmk=>by
  have h1:=List.all_eq_true.1 hall m (List.mem_range.2 hmk)
  have h0:l[n+m]?=some (l[n+m]'(by omega)):=by simp
  rw [h0] at h1
  simp only [Bool.and_eq_true,Array.isEmpty_iff,Option.isNone_iff_eq_none] at h1
  refine⟨_,h0,h1.1.1,h1.1.2,fun j oj hj hoj=>?_⟩
  have h2:=List.all_eq_true.1 h1.2 j (List.mem_range.2 hj)
  rw [hoj] at h2
  exact h2
 have apart:∀j oj,j<n->l[j]?=some oj->∀m d,((l[n+m]?).bind (·.dst))=some d->m<k->d ∉ oj.looksAt l.toArray/\oj.dst≠some d:=fun j oj hj hoj m d hd hmk=>by
  obtain⟨o,ho, -, -,ha⟩:=mk m hmk
  rw [ho] at hd
  obtain⟨h1,h2, -⟩:=Oper.apart_spec (ha j oj hj hoj)
  exact⟨h1 d hd,h2 d hd⟩
 have late:∀(listed:Array Bool) (i:Nat),i<n+k->listed.getD i true=false->listed.size=l.length->(∀j oj,l.toArray[j]?=some oj->listed.getD j false=true->∀e∈oj.after,Region.binds .any e=true->listed.getD e.on false=true)->∀j∈Region.ready .any l.toArray listed,j<n+k:=fun listed i hi hli hsz cl j hj=>by
  rcases Nat.lt_or_ge j (n+k) with c | c
  ·exact c
  ·exfalso
   obtain⟨-,o,ho,hw⟩:=mem_ready.1 hj
   have hjl:j<l.length:=by have:=(Array.getElem?_eq_some_iff.1 ho).1;simpa using this
   have h1:=List.all_eq_true.1 hwait j (List.mem_range.2 hjl)
   simp only [Bool.or_eq_true,decide_eq_true_eq] at h1
   rcases h1 with h1 | h1
   ·omega
   ·have h3:=reach_listed cl hsz 6 j i o ho hw (List.all_eq_true.1 h1 i (List.mem_range.2 hi))
    rw [getD_both hli] at h3
    cases h3
 let dst:Nat->Option Nat:=fun m=>(l[n+m]?).bind (·.dst)
 have main:∀(F f:Nat) (rem:List Nat) (tk:List (Nat×Nat)) (lh listed:Array Bool) (a:Act) (w':World),F=f+rem.length->LInv l n k lh listed rem->(tk.map (·.1)++rem).Perm (List.range k)->(tk.map (·.2)).Nodup->(∀m b,(m,b)∈tk->Z m b w'/\w.heap.size<=b/\b<w'.heap.size) ->
   Below w.heap.size w w'->(∀W,Below w.heap.size w W->wpAnyQ P .any (l.take n).toArray (Beh W) (fun a'=>a'=A) f lh a)->wpAny P .any l.toArray Q (F+(l.length-(n+k))) listed (putL dst tk a) w':=by
  have fin:∀(f:Nat) (tk:List (Nat×Nat)) (lh listed:Array Bool) (a:Act) (w':World),LInv l n k lh listed []->(tk.map (·.1)).Perm (List.range k)->(tk.map (·.2)).Nodup->(∀m b,(m,b)∈tk->Z m b w'/\w.heap.size<=b/\b<w'.heap.size) ->
   Below w.heap.size w w'->Region.ready .any (l.take n).toArray lh=[]->a=A->wpAny P .any l.toArray Q (f+(l.length-(n+k))) listed (putL dst tk a) w':=fun f tk lh listed a w' inv hp hnd hz hb hr ha=>by
   subst ha
   have full:=all_listed H inv.s2 hr
   have e:listed=(List.replicate (n+k) true++List.replicate (l.length-(n+k)) false).toArray:=by
    refine Array.ext (by simp [inv.s1];omega) fun i h1 h2=>?_
    have hi:i<l.length:=by rw [inv.s1] at h1;exact h1
    rcases Nat.lt_or_ge i n with c | c
    ·have t:=(inv.same i c).symm.trans (full i c)
     simp [h1] at t
     simp [t,show i<n+k by omega]
    ·rcases Nat.lt_or_ge i (n+k) with c2 | c2
     ·have t:¬listed.getD (n+(i-n)) true=false:=fun hf=>by
       have:=(inv.al (i-n) (by omega)).1 hf
       cases this
      rw [show n+(i-n)=i by omega] at t
      simp [h1] at t
      simp [t,c2]
     ·have t:=inv.tail i c2 hi
      simp [h1] at t
      rw [t]
      simp only [List.getElem_toArray]
      rw [List.getElem_append_right (by simpa using c2)]
      simp
   have s:=wpAny_of_seq (P:=P) (md:=.any) (Q':=Q) (l.drop (n+k)) (n+k) listed (putL dst tk a) w' (fun j=>by simp [List.getElem?_drop]) (by rw [e,List.length_drop];exact hseq) (hT tk w' hp hnd hz hb)
   rw [List.length_drop] at s
   exact any_more' s f
  have made:∀(F f:Nat) (rem:List Nat) (tk:List (Nat×Nat)) (lh listed:Array Bool) (a:Act) (w':World) (m:Nat),m<k->m∈rem->LInv l n k lh listed rem->(tk.map (·.1)++rem).Perm (List.range k)->(tk.map (·.2)).Nodup->(∀m b,(m,b)∈tk->Z m b w'/\w.heap.size<=b/\b<w'.heap.size) ->
    Below w.heap.size w w' ->
    (∀(tk':List (Nat×Nat)) (w'':World),LInv l n k lh (listed.setIfInBounds (n+m) true) (rem.erase m)->(tk'.map (·.1)++rem.erase m).Perm (List.range k)->(tk'.map (·.2)).Nodup->(∀m b,(m,b)∈tk'->Z m b w''/\w.heap.size<=b/\b<w''.heap.size)->Below w.heap.size w w'' ->
     wpAny P .any l.toArray Q F (listed.setIfInBounds (n+m) true) (putL dst tk' a) w'') ->
    wpOp P l.toArray Q (n+m) (wpAny P .any l.toArray Q F (listed.setIfInBounds (n+m) true)) (putL dst tk a) w':=fun F f rem tk lh listed a w' m hmk hmr inv hp hnd hz hb go=>by
   obtain⟨o,ho,haf,hg, -⟩:=mk m hmk
   have ho':l.toArray[n+m]?=some o:=by simpa using ho
   unfold wpOp
   simp only [ho']
   have hw:Region.wanted o (yielded l.toArray (putL dst tk a).tmps)=true:=by unfold Region.wanted;rw [hg]
   rw [if_pos hw]
   refine .inl ?_
   unfold Oper.wp
   rw [hal m hmk o ho]
   simp only [Oper.upon]
   have hd:o.dst=dst m:=by show o.dst=(l[n+m]?).bind (·.dst);rw [ho];rfl
   rw [hd]
   refine go ((m,w'.heap.size) :: tk) _ ⟨by simp [inv.s1],inv.s2,fun j hj=>by rw [Go.getD_set_ne true (by omega)];exact inv.same j hj,fun m' hm'=>?_,inv.nd.erase m,fun m' hm'=>inv.lo m' (List.mem_of_mem_erase hm'),fun j hj hjl=>by rw [Go.getD_set_ne true (by omega)];exact inv.tail j hj hjl,listed_cl inv.cl (mem_ready.2 ⟨(inv.al m hmk).2 hmr,o,ho',fun e he=>by rw [haf] at he;simp at he⟩)⟩ ?_ ?_ ?_ ?_
   ·by_cases hmm:m=m'
    ·subst hmm
     have:n+m<listed.size:=by rw [inv.s1];omega
     simp [this,inv.nd.mem_erase_iff]
    ·rw [Go.getD_set_ne true (by omega),inv.al m' hm',inv.nd.mem_erase_iff]
     exact⟨fun h=>⟨fun e=>hmm e.symm,h⟩,fun h=>h.2⟩
   ·simp only [List.map_cons,List.cons_append]
    refine List.Perm.trans ?_ hp
    refine List.Perm.symm ?_
    refine List.Perm.trans (List.Perm.append_left _ (List.perm_cons_erase hmr)) ?_
    exact List.perm_middle
   ·simp only [List.map_cons,List.nodup_cons]
    refine⟨fun hmem=>?_,hnd⟩
    obtain⟨⟨m1,b1⟩,h1,h2⟩:=List.mem_map.1 hmem
    have:=(hz m1 b1 h1).2.2
    simp only at h2
    omega
   ·intro m1 b1 h1
    have gr:Below w'.heap.size w' (w'.alloc (obj m)):=(Below.refl _ _).alloc (Nat.le_refl _) _
    rcases List.mem_cons.1 h1 with h1 | h1
    ·cases h1
     exact⟨hZ m hmk w',hb.size,by simp⟩
    ·obtain⟨z1,z2,z3⟩:=hz m1 b1 h1
     exact⟨hK _ _ _ _ z1 z3 gr,z2,Nat.lt_of_lt_of_le z3 gr.size⟩
   ·exact hb.alloc hb.size _
  intro F
  induction F with
  | zero =>
   intro f rem tk lh listed a w' hF inv hp hnd hz hb hR
   have f0:f=0:=by omega
   have r0:rem=[]:=List.length_eq_zero_iff.1 (by omega)
   subst f0 r0
   have:=hR w' hb
   exact fin 0 tk lh listed a w' inv (by simpa using hp) hnd hz hb this.1 this.2
  | succ F ih =>
   intro f rem tk lh listed a w' hF inv hp hnd hz hb hR
   by_cases hr:Region.ready .any (l.take n).toArray lh=[]/\rem=[]
   ·obtain⟨hr,r0⟩:=hr
    subst r0
    have ha:a=A:=by
     have:=hR w' hb
     cases f with
     | zero=>exact this.2
     | succ f=>exact this.1 hr
    exact fin (F+1) tk lh listed a w' inv (by simpa using hp) hnd hz hb hr ha
   ·-- something is left of the first ones
    have hup:∀j,j<n->(j∈Region.ready .any (l.take n).toArray lh↔j∈Region.ready .any l.toArray listed):=fun j hj=>by
     rw [mem_ready,mem_ready,inv.same j hj,H.same j hj]
     have key:∀o,l.toArray[j]?=some o->∀e∈o.after,Region.binds .any e=true->lh.getD e.on false=listed.getD e.on false:=fun o ho e he hb=>by
      have hlo:=H.low j o hj ho e he hb
      rw [getD_any (l:=lh) (by rw [inv.s2];omega) false true,getD_any (l:=listed) (by rw [inv.s1];omega) false true]
      exact inv.same e.on (by omega)
     refine and_congr_right fun _=>⟨fun ⟨o,ho,h⟩=>⟨o,ho,fun e he hb=>?_⟩,fun ⟨o,ho,h⟩=>⟨o,ho,fun e he hb=>?_⟩⟩
     ·rw [<-key o ho e he hb];exact h e he hb
     ·rw [key o ho e he hb];exact h e he hb
    obtain⟨i0,hi0,hl0⟩:∃i,i∈Region.ready .any l.toArray listed/\i<n+k:=by
     by_cases h1:Region.ready .any (l.take n).toArray lh=[]
     ·have h2:rem≠[]:=fun h2=>hr ⟨h1,h2⟩
      obtain⟨m,hm'⟩:=List.exists_mem_of_ne_nil _ h2
      have hmk:=inv.lo m hm'
      obtain⟨o,ho,haf, -, -⟩:=mk m hmk
      refine⟨n+m, ?_,by omega⟩
      rw [mem_ready]
      exact⟨(inv.al m hmk).2 hm',o,by simpa using ho,fun e he=>by rw [haf] at he;simp at he⟩
     ·obtain⟨i,hi⟩:=List.exists_mem_of_ne_nil _ h1
      have hin:i<n:=by
       obtain⟨_,o,ho,_⟩:=mem_ready.1 hi
       have:=(Array.getElem?_eq_some_iff.1 ho).1
       rw [H.size] at this
       exact this
      exact⟨i,(hup i hin).1 hi,by omega⟩
    rw [show F+1+(l.length-(n+k))=(F+(l.length-(n+k)))+1 by omega]
    refine⟨fun h0=>(by rw [h0] at hi0;cases hi0),fun j hj=>?_⟩
    have hjk:=late listed i0 hl0 (mem_ready.1 hi0).1 inv.s1 inv.cl j hj
    rcases Nat.lt_or_ge j n with hjn | hjn
    ·-- one of the first
     have hj':=(hup j hjn).2 hj
     have ho:l.toArray[j]?=some (l.toArray[j]'(by simp;omega)):=by simp
     generalize hoo:l.toArray[j]'(by simp;omega)=o at ho
     have hoh:(l.take n).toArray[j]?=some o:=by rw [H.same j hjn];exact ho
     have hol:l[j]?=some o:=by simpa using ho
     cases f with
     | zero =>
      have:=(hR w' hb).1
      rw [this] at hj'
      cases hj'
     | succ f =>
      have q:=(hR w' hb).2 j hj'
      obtain⟨v,hy,hKv⟩:=yieldsIn_of_qOp hoh q
      have hy2:YieldsIn P l.toArray (Beh w') o v (putL dst tk a):=by
       have hlk:∀m d,(m<k->dst m=some d->d ∉ o.looksAt l.toArray/\o.dst≠some d):=fun m d hmk hd=>apart j o hjn hol m d hd hmk
       have hy1:YieldsIn P l.toArray (Beh w') o v a:=by
        unfold YieldsIn at hy ⊢
        rw [head_wanted H hjn ho] at hy
        exact hy
       have e:=exec_putL (ops:=l.toArray) (dst:=fun m=>if m<k then dst m else none) (o:=o) (fun cs b=>nosel j o cs b ho) (fun m d hd=>by
        by_cases hmk:m<k
        ·rw [if_pos hmk] at hd;exact (hlk m d hmk hd).1
        ·rw [if_neg hmk] at hd;cases hd) tk a
       have ep:putL (fun m=>if m<k then dst m else none) tk a=putL dst tk a:=by
        have hin:∀m b,(m,b)∈tk->m<k:=fun m b hmb=>by
         have:m∈List.range k:=hp.mem_iff.1 (List.mem_append_left _ (List.mem_map.2 ⟨(m,b),hmb,rfl⟩))
         exact List.mem_range.1 this
        clear e hy hy1 hKv q hz hnd hp
        induction tk with
        | nil=>rfl
        | cons x tk ihx =>
         obtain⟨m,b⟩:=x
         unfold putL
         rw [ihx (fun m b hmb=>hin m b (List.mem_cons_of_mem _ hmb)),if_pos (hin m b (List.mem_cons_self ..))]
       rw [ep] at e
       exact hy1.of_same e.1 e.2
      have hdst:putL dst tk (a.put o.dst v)=(putL dst tk a).put o.dst v:=by
       have hin:∀m b,(m,b)∈tk->m<k:=fun m b hmb=>by
        have:m∈List.range k:=hp.mem_iff.1 (List.mem_append_left _ (List.mem_map.2 ⟨(m,b),hmb,rfl⟩))
        exact List.mem_range.1 this
       clear hy hy2 hKv q hz hnd hp
       induction tk with
       | nil=>rfl
       | cons x tk ihx =>
        obtain⟨m,b⟩:=x
        unfold putL
        rw [ihx (fun m b hmb=>hin m b (List.mem_cons_of_mem _ hmb))]
        exact Act.put_comm _ _ _ (fun d hd e=>(apart j o hjn hol m d e (hin m b (List.mem_cons_self ..))).2 hd)
      refine wpOp_of_qOp (C:=Beh w') (K:=fun a'=>a'=(putL dst tk a).put o.dst v) (beh_of (Below.refl _ _)) (fun a' w'' hw'' ha'=>?_) (hy2.qOp ho rfl)
      subst ha'
      rw [<-hdst]
      have hbw:=hw''.below
      refine ih f rem tk (lh.setIfInBounds j true) (listed.setIfInBounds j true) (a.put o.dst v) w'' (by omega) ⟨by simp [inv.s1],by simp [inv.s2],fun i hi=>?_,fun m hmk=>by rw [Go.getD_set_ne true (by omega)];exact inv.al m hmk,inv.nd,inv.lo,fun i hi hil=>by rw [Go.getD_set_ne true (by omega)];exact inv.tail i hi hil,listed_cl inv.cl hj⟩ hp hnd (fun m b hmb=>?_) (later hb hbw) (fun W hW=>?_)
      ·by_cases hij:j=i
       ·subst hij
        have h1:j<lh.size:=by rw [inv.s2];omega
        have h2:j<listed.size:=by rw [inv.s1];omega
        simp [h1,h2]
       ·rw [Go.getD_set_ne true hij,Go.getD_set_ne true hij]
        exact inv.same i hi
      ·obtain⟨z1,z2,z3⟩:=hz m b hmb
       exact⟨hK _ _ _ _ z1 z3 hbw,z2,Nat.lt_of_lt_of_le z3 hbw.size⟩
      ·obtain⟨v', -,hKv'⟩:=yieldsIn_of_qOp hoh ((hR W hW).2 j hj')
       rw [put_pinned (md:=.any) hdist hoh (by rw [inv.s2];omega) hKv hKv']
       exact hKv'
    ·-- one that makes memory
     have hmk:j-n<k:=by omega
     have ej:n+(j-n)=j:=by omega
     have hmr:j-n∈rem:=by
      have:=(mem_ready.1 hj).1
      rw [<-ej] at this
      exact (inv.al _ hmk).1 this
     have go:=made (F+(l.length-(n+k))) f rem tk lh listed a w' (j-n) hmk hmr inv hp hnd hz hb (fun tk' w'' inv' hp' hnd' hz' hb'=>by
      have e:F=f+(rem.erase (j-n)).length:=by
       have:=List.length_erase_of_mem hmr
       have:rem.length≠0:=fun h0=>by rw [List.length_eq_zero_iff.1 h0] at hmr;cases hmr
       omega
      exact ih f (rem.erase (j-n)) tk' lh _ a w'' e inv' hp' hnd' hz' hb' hR)
     rw [ej] at go
     exact go
 refine wp_region_any hm ?_
 have R:∀W,Below w.heap.size w W->wpAnyQ P .any (l.take n).toArray (Beh W) (fun a'=>a'=A) n (Array.replicate n false) a:=fun W hW=>by
  have q:=wpAnyQ_lex (P:=P) (C:=Beh W) (md:=.any) hlex.1 (l.take n) 0 (Array.replicate (l.take n).toArray.size false) a (by simp) (by simpa using hlex.2) (h W hW)
  rw [hl] at q
  have:(l.take n).toArray.size=n:=by simpa using hl
  rw [this] at q
  exact q
 have t:=main (n+k) n (List.range k) [] (Array.replicate n false) (Array.replicate l.length false) a w.drew (by simp) ⟨by simp,by simp,fun j hj=>by simp [hj,show j<l.length by omega],fun m hmk=>by simp [hmk,show n+m<l.length by omega],List.nodup_range,fun m hm'=>List.mem_range.1 hm',fun j hj hjl=>by simp [hjl],fun j oj _ hl=>(by rw [getD_replicate_false] at hl;cases hl)⟩ (by simp) (by simp) (fun m b hmb=>by cases hmb) (Below.refl _ _).drew R
 have e:n+k+(l.length-(n+k))=l.toArray.size:=by simp;omega
 rw [e] at t
 have e2:l.length=l.toArray.size:=by simp
 rw [e2] at t
 exact t
end
theorem Has2.lt {w:World} {b:Nat} {x y:Value} (h:Has2 w b x y):b<w.heap.size:=h.2.2.2.2
theorem Has2.far2 {w:World} {b c:Nat} {x y:Value} (h:Has2 w b x y) (hne:c≠b) (u v:Value):Has2 ((w.setCell ⟨c,0,none⟩ u).setCell ⟨c,1,none⟩ v) b x y:=h.far hne u v
end Go.Proofs.Ytbejmklkicoibaa
