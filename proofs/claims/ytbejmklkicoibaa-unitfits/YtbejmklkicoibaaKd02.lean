/- The walk of Split: how the program takes a float apart. The walk of sum: the exact sum of two finite floats, with a mark for what is lost. The walk of product: the exact product of two amounts, with a mark for what is lost. Plain facts on the program's rounding, whatever is rounded: its three sides stand in order, no more than neighbours apart. Plain facts: what the program rounds an amount to is what the document asks for, of any exact amount that the parts stand for. Plain facts: numbers with signs, rounded down: the place of the greatest float that is not above; the greater the number, the greater the place. The walks of the program's small functions on intervals: infinite ends, signs of nought, which intervals hold some number. The walks of holdsSome and someEmpty: which intervals hold some number. The walks of Make, Point, Whole, mirror, Neg: intervals made of ends. The walks of Point, Whole, Right, and of math.Abs and math.IsInf. The walks of Has, Inside and Strict: what is asked of intervals. The walks of Inside and Strict. Whole numbers as floats: what is exact is rounded to itself, to whichever side; the walk of the statement UlpWhole. The walks of counted, Hull and Meet. The walks of Meet, of the laws' hull, and of Add and Mul with an interval that holds nothing. Plain facts: hulls hold both, meets lie in both and hold just what both hold. What is taken off itself holds nought, what is divided by itself one; negatives twice; the least amount is not above the greatest. A region that draws its order, whose callees make memory of their own but change none: one walk, in the text's order, over all worlds that are as the first one was below its end. The walk of the statement IvalLattice: its two variables. IvalLattice: for every two intervals and every float64 the statement's answer is true. A region that draws the order of its first operations, all of them quiet over a class of worlds, and then has others one by one: the first ones are walked once, in the text's order. A region that draws its order and makes memory of its own beside quiet operations (x := f(y); x, y := f(z), g(z)): walked once. The program's whole numbers of one and two words (rat): amounts, divisors, halves, products. The program's whole numbers of two words (rat): products, sums, negatives, signs. The program's whole numbers of two words (rat): sums, negatives, products with a sign. The program's whole numbers of two words (rat): division bit by bit. -/
import Derived.Test.YtbejmklkicoibaaKd01
import Derived.Deep.QuietTactic
import Derived.BigQuiet
import Derived.Deep.RegionHeld3
import Derived.Deep.CutRange
import Derived.WalkSmall
import Derived.Deep.LoopGhost
import Derived.WalkKit
import Derived.Deep.CutBlock
import Derived.Deep.RegionWith
import Derived.Deep.Quiet
import Derived.StillTail
namespace Go.Proofs.Ytbejmklkicoibaa
open Go.ChangeShapes Go.WideShapes Go.ChangeAt Go.RowKit
theorem keepsC {W0 w2:World} (hb:Below W0.heap.size W0 w2) {b o:Nat} {v:Value} (hc:W0.cell? ⟨b,o,none⟩=some v) (hlt:b<W0.heap.size):w2.cell? ⟨b,o,none⟩=some v:=(hb.cell hlt).trans hc
theorem keepsF {W0 w2:World} (hb:Below W0.heap.size W0 w2) {b o:Nat} {v:Bool} (hc:W0.frozen? ⟨b,o,none⟩=v) (hlt:b<W0.heap.size):w2.frozen? ⟨b,o,none⟩=v:=(hb.frozen hlt).trans hc
def Has3 (w:World) (b:Nat) (x y z:Value):Prop:=w.cell? ⟨b,0,none⟩=some x∧w.cell? ⟨b,1,none⟩=some y∧w.cell? ⟨b,2,none⟩=some z∧w.frozen? ⟨b,0,none⟩=false∧w.frozen? ⟨b,1,none⟩=false∧w.frozen? ⟨b,2,none⟩=false∧b<w.heap.size
end Go.Proofs.Ytbejmklkicoibaa
namespace Go.Proofs.Ytbejmklkicoibaa
end Go.Proofs.Ytbejmklkicoibaa
namespace Go.Proofs.Ytbejmklkicoibaa
end Go.Proofs.Ytbejmklkicoibaa
namespace Go.Proofs.Ytbejmklkicoibaa
def V (k:Int):Int:=if k<0 then -(val (-k).toNat:Int) else (val k.toNat:Int)
end Go.Proofs.Ytbejmklkicoibaa
namespace Go.Proofs.Ytbejmklkicoibaa
open Go.ChangeShapes Go.WideShapes Go.ChangeAt Go.RowKit
@[go_sem] theorem run_store_float (P:Program) (w:World) (a:Addr) (m:Mode) (k:FloatKind) (n:Nat):(store a (.float k n) m).run P w=stored P w a (.float k n) m:=run_store P w a _ m rfl
def Has2 (w:World) (b:Nat) (x y:Value):Prop:=w.cell? ⟨b,0,none⟩=some x∧w.cell? ⟨b,1,none⟩=some y∧w.frozen? ⟨b,0,none⟩=false∧w.frozen? ⟨b,1,none⟩=false∧b<w.heap.size
theorem Has2.keep {W0 w2:World} {b:Nat} {x y:Value} (h:Has2 W0 b x y) (hb:Below W0.heap.size W0 w2):Has2 w2 b x y:=by
 obtain⟨h0,h1,f0,f1,hl⟩:=h
 exact⟨keepsC hb h0 hl,keepsC hb h1 hl,keepsF hb f0 hl,keepsF hb f1 hl,Nat.lt_of_lt_of_le hl hb.size⟩
@[go_sem] theorem equalIn_float (a b:Nat) (w:World):(Op.equalIn 9999 66 (.float .f64 a) (.float .f64 b)).run Try.prog w=.ok (FloatKind.f64.format.order a b==some .eq) w:=by
 unfold Op.equalIn
 simp [go_sem]
 rfl
theorem both {k:Int} (h:-9218868437227405311≤k∧k≤9218868437227405311):(-9218868437227405312≤k∧k≤9218868437227405311)∧(-9218868437227405312≤-k∧-k≤9218868437227405311):=by omega
theorem Has2.put {w:World} {b:Nat} {x y:Value} (h:Has2 w b x y) (x' y':Value):Has2 ((w.setCell ⟨b,0,none⟩ x').setCell ⟨b,1,none⟩ y') b x' y':=by
 obtain⟨h0,h1,f0,f1,hl⟩:=h
 refine⟨by go_simp,by go_simp,by go_simp,by go_simp, ?_⟩
 simp only [World.size_setCell];exact hl
theorem Has2.far {w:World} {b c:Nat} {x y:Value} (h:Has2 w b x y) (hne:c≠b) (x' y':Value):Has2 ((w.setCell ⟨c,0,none⟩ x').setCell ⟨c,1,none⟩ y') b x y:=by
 obtain⟨h0,h1,f0,f1,hl⟩:=h
 have hne':b≠c:=fun e=>hne e.symm
 refine⟨by simp [World.cell?_setCell_far, *],by simp [World.cell?_setCell_far, *],by go_simp,by go_simp, ?_⟩
 simp only [World.size_setCell];exact hl
structure Some2 (lo hi:Nat):Prop where
 nl:nanB lo=false
 nh:nanB hi=false
 le:key lo≤key hi
 lt:key lo<9218868437227405312
 gt:-9218868437227405312<key hi
 zl:lo≠9223372036854775808
 zh:hi≠9223372036854775808
structure Behind (w0:World) where
 W:World
 bel:Below w0.heap.size w0 W
instance (w0:World):Nonempty (Behind w0):=⟨⟨w0,Below.refl _ _⟩⟩
theorem region_behind {P:Program} {id:Nat} {Q:Exit→Act→World→Prop} {a:Act} {w:World} {l:List Oper} (hm:P.follows .mixedOrders=true) (hB:Region.lexB .any l.toArray=true)
   (h:wpQuiet P l.toArray (fun w'=>∃n:Behind w,w'=n.W) (fun a'=>∀w',(∃n:Behind w,w'=n.W)→Q .normal a' w') l a):(Code.region id l.toArray true).wp P Q a w :=
 wp_region_quiet (C:=fun w'=>∃n:Behind w,w'=n.W) hm hB ⟨⟨w.drew,(Below.refl _ _).drew⟩,rfl⟩ (by simpa using h)
theorem Behind.call {P:Program} {f:FuncId} {args:Array Value} {w0:World} {n:Behind w0} {v:Value} (h:Calls P f args n.W fun e w'=>e=.returned v∧Below n.W.heap.size n.W w') :
   Calls P f args n.W fun e w''=>e=.returned v∧∃m:Behind w0,w''=m.W :=
 h.mono fun _ w' ⟨a,b⟩=>⟨a,⟨⟨w',later n.bel b⟩,rfl⟩⟩
theorem Behind.same {P:Program} {f:FuncId} {args:Array Value} {w0:World} {n:Behind w0} {v:Value} (h:Calls P f args n.W fun e w'=>e=.returned v∧n.W=w') :
   Calls P f args n.W fun e w''=>e=.returned v∧∃m:Behind w0,w''=m.W :=
 h.mono fun _ _ ⟨a,b⟩=>⟨a,⟨n,b.symm⟩⟩
theorem Behind.cell {w0:World} (n:Behind w0) {b o:Nat} {v:Value} (h:w0.cell? ⟨b,o,none⟩=some v) (hl:b<w0.heap.size):n.W.cell? ⟨b,o,none⟩=some v:=keepsC n.bel h hl
theorem has2_new (w:World) (x y:Value) (T:TypeId):Has2 (w.alloc (.cells #[x,y] T)) w.heap.size x y:=⟨by go_simp,by go_simp,by go_simp,by go_simp,by go_size⟩
section
variable {P:Program} {ops hd:Array Oper} {C:World→Prop}
theorem any_more {md:Region.Mode} {Q:Exit→Act→World→Prop}:∀(f:Nat) (listed:Array Bool) (a:Act) (w:World),wpAny P md ops Q f listed a w→wpAny P md ops Q (f+1) listed a w
 | 0,_,_,_,h=>⟨fun _=>h.2,fun i hi=>by rw [h.1] at hi;cases hi⟩
 | f+1,_,_,_,h=>⟨h.1,fun i hi=>wpOp_mono (fun a' w' h'=>any_more f _ a' w' h') (h.2 i hi)⟩
theorem any_more' {md:Region.Mode} {Q:Exit→Act→World→Prop} {g:Nat} {listed:Array Bool} {a:Act} {w:World} (h:wpAny P md ops Q g listed a w):∀f,wpAny P md ops Q (f+g) listed a w
 | 0=>by rw [Nat.zero_add];exact h
 | f+1=>by rw [show f+1+g=(f+g)+1 by omega];exact any_more _ _ _ _ (any_more' h f)
structure Heads (md:Region.Mode) (ops hd:Array Oper) (n:Nat):Prop where
 size:hd.size=n
 lt:n<ops.size
 same:∀j,j<n→hd[j]?=ops[j]?
 low:∀j o,j<n→ops[j]?=some o→∀e∈o.after,Region.binds md e=true→e.on<j
 guard:∀j o k b,j<n→ops[j]?=some o→o.guard=some (k,b)→k<n
theorem head_wanted {md:Region.Mode} {n j:Nat} {o:Oper} (H:Heads md ops hd n) (hj:j<n) (ho:ops[j]?=some o) (t:Array Value):Region.wanted o (yielded hd t)=Region.wanted o (yielded ops t):=by
 unfold Region.wanted
 cases hg:o.guard with
 | none=>rfl
 | some p =>
   obtain⟨k,b⟩:=p
   have hk:=H.guard j o k b hj ho hg
   have e:=H.same k hk
   simp only [yielded,e]
theorem getD_any {l:Array Bool} {i:Nat} (hi:i<l.size) (b c:Bool):l.getD i b=l.getD i c:=by
 simp [hi]
theorem head_q {md:Region.Mode} {n j:Nat} (H:Heads md ops hd n) (hj:j<n) {K:Act→Prop} {a:Act} (h:qOp P hd C j K a):qOp P ops C j K a:=by
 have e:=H.same j hj
 unfold qOp at h ⊢
 rw [e] at h
 cases ho:ops[j]? with
 | none=>rw [ho] at h;exact h
 | some o =>
   rw [ho] at h
   simp only at h ⊢
   rw [head_wanted H hj ho] at h
   exact h
theorem head_split {md:Region.Mode} {n g:Nat} {Q:Exit→Act→World→Prop} {Qh:Act→Prop} (H:Heads md ops hd n) (hs:Region.sinkB md ops n=true) (hc:Region.chainB md ops n=true)
   (hT:∀listed a w,HeadInv md ops n listed→(∀j,j<n→listed.getD j true=true)→C w→Qh a→wpAny P md ops Q g listed a w) :
   ∀(f:Nat) (lh listed:Array Bool) (a:Act) (w:World),HeadInv md ops n listed→lh.size=n→(∀j,j<n→lh.getD j true=listed.getD j true)→C w→wpAnyQ P md hd C Qh f lh a→wpAny P md ops Q (f+g) listed a w:=by
 have up:∀(lh listed:Array Bool),HeadInv md ops n listed→lh.size=n→(∀j,j<n→lh.getD j true=listed.getD j true)→∀j,j<n→(j∈Region.ready md hd lh↔j∈Region.ready md ops listed):=fun lh listed inv hsz ag j hj=>by
   have hn:=H.lt
   rw [mem_ready,mem_ready,ag j hj,H.same j hj]
   have key:∀o,ops[j]?=some o→∀e∈o.after,Region.binds md e=true→lh.getD e.on false=listed.getD e.on false:=fun o ho e he hb=>by
     have hl:=H.low j o hj ho e he hb
     rw [getD_any (l:=lh) (by omega) false true,getD_any (l:=listed) (by rw [inv.size];omega) false true]
     exact ag e.on (by omega)
   refine and_congr_right fun _=>⟨fun ⟨o,ho,h⟩=>⟨o,ho,fun e he hb=>?_⟩,fun ⟨o,ho,h⟩=>⟨o,ho,fun e he hb=>?_⟩⟩
   · rw [←key o ho e he hb];exact h e he hb
   · rw [key o ho e he hb];exact h e he hb
 have full:∀(lh listed:Array Bool),HeadInv md ops n listed→lh.size=n→(∀j,j<n→lh.getD j true=listed.getD j true)→Region.ready md hd lh=[]→∀j,j<n→listed.getD j true=true:=fun lh listed inv hsz ag hr j=>by
   induction j using Nat.strongRecOn with
   | _ j ih =>
     intro hj
     cases hl:listed.getD j true with
     | true=>rfl
     | false =>
       have hn:=H.lt
       have:j∈Region.ready md hd lh:=by
         rw [up lh listed inv hsz ag j hj,mem_ready]
         refine⟨hl,ops[j]'(by omega),by simp,fun e he hb=>?_⟩
         have lw:=H.low j (ops[j]'(by omega)) hj (by simp) e he hb
         rw [getD_any (l:=listed) (by rw [inv.size];omega) false true]
         exact ih e.on lw (by omega)
       rw [hr] at this
       cases this
 intro f
 induction f with
 | zero =>
   intro lh listed a w inv hsz ag hC h
   rw [Nat.zero_add]
   exact hT listed a w inv (full lh listed inv hsz ag h.1) hC h.2
 | succ f ih =>
   intro lh listed a w inv hsz ag hC h
   by_cases hr:Region.ready md hd lh=[]
   · exact any_more' (hT listed a w inv (full lh listed inv hsz ag hr) hC (h.1 hr)) _
   · obtain⟨i,hi⟩:=List.exists_mem_of_ne_nil _ hr
     have hin:i<n:=by
       obtain⟨_,o,ho,_⟩:=mem_ready.1 hi
       have:=(Array.getElem?_eq_some_iff.1 ho).1
       rw [H.size] at this
       exact this
     have hi':=(up lh listed inv hsz ag i hin).1 hi
     rw [show f+1+g=(f+g)+1 by omega]
     refine⟨fun h0=>(by rw [h0] at hi';cases hi'),fun j hj=>?_⟩
     have hjn:j<n:=by
       rcases Nat.lt_or_ge j n with c | c
       · exact c
       · exact absurd hj (tail_waits hs hc H.lt inv _ i rfl hin (mem_ready.1 hi').1 j c)
     refine wpOp_of_qOp hC (fun a' w' hw' hK=>ih (lh.setIfInBounds j true) (listed.setIfInBounds j true) a' w' (inv.set hj hjn) (by simp [hsz]) (fun k hk=>?_) hw' hK) (head_q H hjn (h.2 j ((up lh listed inv hsz ag j hjn).2 hj)))
     by_cases hjk:j=k
     · subst hjk
       have:=H.lt
       simp [hsz,hk,inv.size,show j<ops.size by omega]
     · rw [Go.getD_set_ne true hjk,Go.getD_set_ne true hjk]
       exact ag k hk
def lowB (l:List Oper) (n:Nat):Bool:=(List.range n).all fun j=>match l[j]? with
 | some o=>(o.after.all fun e=>!Region.binds .any e || decide (e.on<j))&&(match o.guard with | some (k,_)=>decide (k<n) | none=>true)
 | none=>true
def tailB (l:List Oper) (n:Nat):Bool:=Region.lexB .any (l.take n).toArray&&decide (n<l.length)&&Region.sinkB .any l.toArray n&&Region.chainB .any l.toArray n&&lowB l n&&Region.seqB .any l.toArray (l.length-n) n (List.replicate n true++List.replicate (l.length-n) false).toArray
theorem heads_of {l:List Oper} {n:Nat} (hn:n<l.length) (h:lowB l n=true):Heads .any l.toArray (l.take n).toArray n:=by
 have g:∀j o,j<n→l.toArray[j]?=some o→(o.after.all fun e=>!Region.binds .any e || decide (e.on<j))=true∧(match o.guard with | some (k,_)=>decide (k<n) | none=>true)=true:=fun j o hj ho=>by
   have h1:=List.all_eq_true.1 h j (List.mem_range.2 hj)
   have ho':l[j]?=some o:=by simpa using ho
   rw [ho'] at h1
   exact Bool.and_eq_true_iff.1 h1
 refine⟨by simp;omega,by simpa using hn,fun j hj=>by simp [hj],fun j o hj ho e he hb=>?_,fun j o k b hj ho hg=>?_⟩
 · have h2:=Array.all_eq_true_iff_forall_mem.1 (g j o hj ho).1 e he
   rw [hb] at h2
   simpa using h2
 · have h2:=(g j o hj ho).2
   rw [hg] at h2
   simpa using h2
theorem region_tail {id:Nat} {Q:Exit→Act→World→Prop} {a:Act} {w:World} {l:List Oper} (n:Nat) (hm:P.follows .mixedOrders=true) (hB:tailB l n=true) (hC:C w.drew)
   (h:wpQuiet P (l.take n).toArray C (fun a'=>∀w',C w'→wpList P l.toArray Q (l.drop n) a' w') (l.take n) a):(Code.region id l.toArray true).wp P Q a w:=by
 simp only [tailB,Bool.and_eq_true,decide_eq_true_eq] at hB
 obtain⟨⟨⟨⟨⟨hlex,hn⟩,hs⟩,hc⟩,hlow⟩,hseq⟩:=hB
 have H:=heads_of hn hlow
 simp only [Region.lexB,Bool.and_eq_true] at hlex
 have hl:(l.take n).length=n:=by simp;omega
 have q:=wpAnyQ_lex (P:=P) (C:=C) (md:=.any) hlex.1 (l.take n) 0 (Array.replicate (l.take n).toArray.size false) a (by simp) (by simpa using hlex.2) h
 refine wp_region_any hm ?_
 have:=head_split (P:=P) (C:=C) (Q:=Q) (g:=l.length-n) H hs hc (fun listed a' w' inv full hw' hq=>by
   have e:listed=(List.replicate n true++List.replicate (l.length-n) false).toArray:=by
     have sz:=inv.size
     refine Array.ext (by simp [sz];omega) fun i h1 h2=>?_
     have hi:i<l.length:=by rw [sz] at h1;simpa using h1
     rcases Nat.lt_or_ge i n with c | c
     · have:=full i c
       simp [h1] at this
       simp [this,c]
     · have:=inv.tail i c (by simpa using hi)
       simp [h1] at this
       rw [this]
       simp [c]
   have s:=wpAny_of_seq (P:=P) (md:=.any) (Q':=Q) (l.drop n) n listed a' w' (fun j=>by simp [List.getElem?_drop]) (by rw [e,List.length_drop];exact hseq) (hq w' hw')
   rwa [List.length_drop] at s) (l.take n).length (Array.replicate (l.take n).toArray.size false) (Array.replicate l.toArray.size false) a w.drew
   ⟨by simp,fun j oj _ hl=>(by rw [getD_replicate_false] at hl;cases hl),fun t _ ht=>getD_in (by simpa using ht) (getD_replicate_false _ _)⟩ (by simp;omega) (fun j hj=>?_) hC q
 · rw [hl,show n+(l.length-n)=l.toArray.size by simp;omega] at this
   exact this
 · have hj':j<l.length:=by omega
   have hm':min n l.length=n:=by omega
   simp [hm',hj,hj']
theorem tail_behind {id:Nat} {Q:Exit→Act→World→Prop} {a:Act} {w:World} {l:List Oper} (n:Nat) (hm:P.follows .mixedOrders=true) (hB:tailB l n=true)
   (h:wpQuiet P (l.take n).toArray (fun w'=>∃n:Behind w,w'=n.W) (fun a'=>∀w',(∃n:Behind w,w'=n.W)→wpList P l.toArray Q (l.drop n) a' w') (l.take n) a):(Code.region id l.toArray true).wp P Q a w :=
 region_tail (C:=fun w'=>∃n:Behind w,w'=n.W) n hm hB ⟨⟨w.drew,(Below.refl _ _).drew⟩,rfl⟩ h
end
section
variable {P:Program} {ops hd:Array Oper}
def Beh (W:World):World→Prop:=fun w'=>∃n:Behind W,w'=n.W
theorem beh_of {W w':World} (h:Below W.heap.size W w'):Beh W w':=⟨⟨w',h⟩,rfl⟩
theorem Beh.below {W w':World} (h:Beh W w'):Below W.heap.size W w':=by
 obtain⟨⟨V,hb⟩,rfl⟩:=h
 exact hb
theorem pin {md:Region.Mode} {C:World→Prop} {A:Act} (s:Nat):∀(f:Nat) (lh:Array Bool) (a:Act),wpAnyQ P md hd C (fun a'=>a'=A) f lh a→(∀j o,hd[j]?=some o→lh.getD j true=false→o.dst≠some s)→A.tmps[s]?=a.tmps[s]?
 | 0,_,_,h,_=>by rw [h.2]
 | f+1,lh,a,h,hn=>by
   by_cases hr:Region.ready md hd lh=[]
   · rw [h.1 hr]
   · obtain⟨i,hi⟩:=List.exists_mem_of_ne_nil _ hr
     obtain⟨hl,o,ho, -⟩:=mem_ready.1 hi
     obtain⟨v, -,hK⟩:=yieldsIn_of_qOp ho (h.2 i hi)
     have e:=pin s f _ _ hK (fun j oj hj hlj=>by
       by_cases hij:i=j
       · subst hij
         have:oj=o:=Option.some.inj (hj.symm.trans ho)
         subst this
         exact hn i oj hj hl
       · rw [Go.getD_set_ne true hij] at hlj
         exact hn j oj hj hlj)
     rw [e]
     have hd':=hn i o ho hl
     cases hdst:o.dst with
     | none=>rfl
     | some d =>
       rw [hdst] at hd'
       have:d≠s:=fun e=>hd' (by rw [e])
       simp [Act.put,Array.getElem?_setIfInBounds_ne this]
def distB (l:List Oper):Bool:=(List.range l.length).all fun i=>(List.range l.length).all fun j=>i==j || match l[i]?,l[j]? with
 | some x,some y=>(match x.dst with | some d=>y.dst != some d | none=>true)
 | _,_=>true
theorem dist_of {l:List Oper} (h:distB l=true) {i j:Nat} {x y:Oper} (hi:l[i]?=some x) (hj:l[j]?=some y) (hne:i≠j) {d:Nat} (hd:x.dst=some d):y.dst≠some d:=by
 have li:i<l.length:=(List.getElem?_eq_some_iff.1 hi).1
 have lj:j<l.length:=(List.getElem?_eq_some_iff.1 hj).1
 have h1:=List.all_eq_true.1 h i (List.mem_range.2 li)
 have h2:=List.all_eq_true.1 h1 j (List.mem_range.2 lj)
 simp only [hi,hj,hd,Bool.or_eq_true,beq_iff_eq,hne,false_or,bne_iff_ne] at h2
 exact h2
theorem put_pinned {md:Region.Mode} {C C':World→Prop} {A:Act} {l:List Oper} (hD:distB l=true) {i:Nat} {o:Oper} (ho:l.toArray[i]?=some o) {f f':Nat} {lh:Array Bool} (hs:i<lh.size) {a:Act} {v v':Value}
   (h:wpAnyQ P md l.toArray C (fun a'=>a'=A) f (lh.setIfInBounds i true) (a.put o.dst v)) (h':wpAnyQ P md l.toArray C' (fun a'=>a'=A) f' (lh.setIfInBounds i true) (a.put o.dst v')):a.put o.dst v=a.put o.dst v':=by
 cases hd:o.dst with
 | none=>rfl
 | some d =>
   rw [hd] at h h'
   have hn:∀j oj,l.toArray[j]?=some oj→(lh.setIfInBounds i true).getD j true=false→oj.dst≠some d:=fun j oj hj hlj=>by
     by_cases hij:i=j
     · subst hij
       simp [hs] at hlj
     · exact dist_of hD (by simpa using ho) (by simpa using hj) hij hd
   have e:=(pin d f _ _ h hn).symm.trans (pin d f' _ _ h' hn)
   by_cases hb:d<a.tmps.size
   · simp [Act.put,hb] at e
     rw [e]
   · simp [Act.put,Array.setIfInBounds,hb]
def putL (dst:Nat→Option Nat):List (Nat×Nat)→Act→Act
 | [],a=>a
 | (m,b) :: tk,a=>(putL dst tk a).put (dst m) (.pointer (some ⟨b,0,none⟩))
theorem putL_put {dst:Nat→Option Nat} {x:Option Nat} {v:Value} (h:∀m d,dst m=some d→x≠some d):∀(tk:List (Nat×Nat)) (a:Act),putL dst tk (a.put x v)=(putL dst tk a).put x v
 | [],_=>rfl
 | (m,b) :: tk,a=>by
   unfold putL
   rw [putL_put h tk a]
   rw [Act.put_comm _ _ _ (fun d hd e=>h m d e hd)]
theorem exec_putL {dst:Nat→Option Nat} {o:Oper} (hs:∀cs b,o.op≠.select cs b) (h:∀m d,dst m=some d→d ∉ o.looksAt ops):∀(tk:List (Nat×Nat)) (a:Act),execOp (putL dst tk a).eval o=execOp a.eval o∧Region.wanted o (yielded ops (putL dst tk a).tmps)=Region.wanted o (yielded ops a.tmps)
 | [],_=>⟨rfl,rfl⟩
 | (m,b) :: tk,a=>by
   unfold putL
   rw [execOp_put (ops:=ops) o hs _ (dst m) _ (h m),wanted_put o _ (dst m) _ (h m)]
   exact exec_putL hs h tk a
def reachB (l:List Oper) (n:Nat):Nat→Nat→Nat→Bool
 | 0,_,_=>false
 | f+1,j,i=>Region.waitsFor .any l.toArray j i || (List.range n).any fun m=>Region.waitsFor .any l.toArray j m&&reachB l n f m i
def allocsB (l:List Oper) (n k:Nat):Bool :=
 Region.lexB .any (l.take n).toArray&&decide (n+k<l.length)&&lowB l n&&distB (l.take n)&&Region.noSelect l.toArray
 && ((List.range k).all fun m=>match l[n+m]? with | some o=>o.after.isEmpty&&o.guard.isNone&&((List.range n).all fun j=>match l[j]? with | some oj=>o.apart l.toArray oj | none=>true) | none=>false)
 && ((List.range l.length).all fun j=>decide (j<n+k) || (List.range (n+k)).all fun i=>reachB l n 6 j i)
 && Region.seqB .any l.toArray (l.length-(n+k)) (n+k) (List.replicate (n+k) true++List.replicate (l.length-(n+k)) false).toArray
theorem reach_listed {l:List Oper} {n:Nat} {listed:Array Bool} (cl:∀j oj,l.toArray[j]?=some oj→listed.getD j false=true→∀e∈oj.after,Region.binds .any e=true→listed.getD e.on false=true) (hsz:listed.size=l.length) :
   ∀(f j i:Nat) (o:Oper),l.toArray[j]?=some o→(∀e∈o.after,Region.binds .any e=true→listed.getD e.on false=true)→reachB l n f j i=true→listed.getD i false=true
 | 0,_,_,_,_,_,h=>by simp [reachB] at h
 | f+1,j,i,o,ho,hw,h=>by
   simp only [reachB,Bool.or_eq_true] at h
   have dir:∀i,Region.waitsFor .any l.toArray j i=true→listed.getD i false=true:=fun i hi=>by
     obtain⟨oj,hoj,e,he,hb,hei⟩:=Region.waitsFor_spec hi
     have:oj=o:=Option.some.inj (hoj.symm.trans ho)
     subst this
     rw [←hei]
     exact hw e he hb
   rcases h with h | h
   · exact dir i h
   · obtain⟨m, -,hm⟩:=List.any_eq_true.1 h
     simp only [Bool.and_eq_true] at hm
     have lm:=dir m hm.1
     have ml:m<l.length:=by
       rcases Nat.lt_or_ge m listed.size with c | c
       · omega
       · simp [Array.getElem?_eq_none c] at lm
     have om:l.toArray[m]?=some (l[m]'ml):=by simp [ml]
     exact reach_listed cl hsz f m i _ om (cl m _ om lm) hm.2
theorem all_listed {n:Nat} (H:Heads .any ops hd n) {lh:Array Bool} (hsz:lh.size=n) (hr:Region.ready .any hd lh=[]):∀j,j<n→lh.getD j true=true:=fun j=>by
 induction j using Nat.strongRecOn with
 | _ j ih =>
   intro hj
   cases hl:lh.getD j true with
   | true=>rfl
   | false =>
     have hn:=H.lt
     have:j∈Region.ready .any hd lh:=by
       rw [mem_ready]
       refine⟨hl,ops[j]'(by omega),by rw [H.same j hj];simp,fun e he hb=>?_⟩
       have lw:=H.low j (ops[j]'(by omega)) hj (by simp) e he hb
       rw [getD_any (l:=lh) (by omega) false true]
       exact ih e.on lw (by omega)
     rw [hr] at this
     cases this
structure LInv (l:List Oper) (n k:Nat) (lh listed:Array Bool) (rem:List Nat):Prop where
 s1:listed.size=l.length
 s2:lh.size=n
 same:∀j,j<n→lh.getD j true=listed.getD j true
 al:∀m,m<k→(listed.getD (n+m) true=false↔m∈rem)
 nd:rem.Nodup
 lo:∀m∈rem,m<k
 tail:∀j,n+k≤j→j<l.length→listed.getD j true=false
 cl:∀j oj,l.toArray[j]?=some oj→listed.getD j false=true→∀e∈oj.after,Region.binds .any e=true→listed.getD e.on false=true
theorem listed_cl {l:List Oper} {listed:Array Bool} (cl:∀j oj,l.toArray[j]?=some oj→listed.getD j false=true→∀e∈oj.after,Region.binds .any e=true→listed.getD e.on false=true) {i:Nat} (hi:i∈Region.ready .any l.toArray listed) :
   ∀j oj,l.toArray[j]?=some oj→(listed.setIfInBounds i true).getD j false=true→∀e∈oj.after,Region.binds .any e=true→(listed.setIfInBounds i true).getD e.on false=true:=fun j oj hj hl e he hb=>by
 obtain⟨_,oi,hoi,hall⟩:=mem_ready.1 hi
 by_cases hij:i=j
 · subst hij
   have:oj=oi:=Option.some.inj (hj.symm.trans hoi)
   subst this
   exact getD_set_true (hall e he hb)
 · rw [Go.getD_set_ne false hij] at hl
   exact getD_set_true (cl j oj hj hl e he hb)
theorem region_allocs {id:Nat} {Q:Exit→Act→World→Prop} {a:Act} {w:World} {l:List Oper} (n k:Nat) (obj:Nat→Obj) (Z:Nat→Nat→World→Prop) (A:Act) (hm:P.follows .mixedOrders=true) (hB:allocsB l n k=true)
   (hal:∀m,m<k→∀o,l[n+m]?=some o→∀(a:Act) (w:World),(execOp a.eval o).run P w=.ok (.value (.pointer (some ⟨w.heap.size,0,none⟩))) (w.alloc (obj m)))
   (hZ:∀m,m<k→∀w1:World,Z m w1.heap.size (w1.alloc (obj m))) (hK:∀m b (w1 w2:World),Z m b w1→b<w1.heap.size→Below w1.heap.size w1 w2→Z m b w2)
   (h:∀W,Below w.heap.size w W→wpQuiet P (l.take n).toArray (Beh W) (fun a'=>a'=A) (l.take n) a)
   (hT:∀(tk:List (Nat×Nat)) (W:World),(tk.map (·.1)).Perm (List.range k)→(tk.map (·.2)).Nodup→(∀m b,(m,b)∈tk→Z m b W∧w.heap.size≤b∧b<W.heap.size)→Below w.heap.size w W →
     wpList P l.toArray Q (l.drop (n+k)) (putL (fun m=>(l[n+m]?).bind (·.dst)) tk A) W):(Code.region id l.toArray true).wp P Q a w:=by
 simp only [allocsB,Bool.and_eq_true,decide_eq_true_eq] at hB
 obtain⟨⟨⟨⟨⟨⟨⟨hlex,hn⟩,hlow⟩,hdist⟩,hsel⟩,hall⟩,hwait⟩,hseq⟩:=hB
 have H:=heads_of (l:=l) (n:=n) (by omega) hlow
 have nosel:=Region.noSelect_spec hsel
 simp only [Region.lexB,Bool.and_eq_true] at hlex
 have hl:(l.take n).length=n:=by simp;omega
 have mk:∀m,m<k→∃o,l[n+m]?=some o∧o.after=#[]∧o.guard=none∧∀j oj,j<n→l[j]?=some oj→o.apart l.toArray oj=true:=fun m hmk=>by
   have h1:=List.all_eq_true.1 hall m (List.mem_range.2 hmk)
   have h0:l[n+m]?=some (l[n+m]'(by omega)):=by simp
   rw [h0] at h1
   simp only [Bool.and_eq_true,Array.isEmpty_iff,Option.isNone_iff_eq_none] at h1
   refine⟨_,h0,h1.1.1,h1.1.2,fun j oj hj hoj=>?_⟩
   have h2:=List.all_eq_true.1 h1.2 j (List.mem_range.2 hj)
   rw [hoj] at h2
   exact h2
 have apart:∀j oj,j<n→l[j]?=some oj→∀m d,((l[n+m]?).bind (·.dst))=some d→m<k→d ∉ oj.looksAt l.toArray∧oj.dst≠some d:=fun j oj hj hoj m d hd hmk=>by
   obtain⟨o,ho, -, -,ha⟩:=mk m hmk
   rw [ho] at hd
   obtain⟨h1,h2, -⟩:=Oper.apart_spec (ha j oj hj hoj)
   exact⟨h1 d hd,h2 d hd⟩
 have late:∀(listed:Array Bool) (i:Nat),i<n+k→listed.getD i true=false→listed.size=l.length→(∀j oj,l.toArray[j]?=some oj→listed.getD j false=true→∀e∈oj.after,Region.binds .any e=true→listed.getD e.on false=true)→∀j∈Region.ready .any l.toArray listed,j<n+k:=fun listed i hi hli hsz cl j hj=>by
   rcases Nat.lt_or_ge j (n+k) with c | c
   · exact c
   · exfalso
     obtain⟨-,o,ho,hw⟩:=mem_ready.1 hj
     have hjl:j<l.length:=by have:=(Array.getElem?_eq_some_iff.1 ho).1;simpa using this
     have h1:=List.all_eq_true.1 hwait j (List.mem_range.2 hjl)
     simp only [Bool.or_eq_true,decide_eq_true_eq] at h1
     rcases h1 with h1 | h1
     · omega
     · have h3:=reach_listed cl hsz 6 j i o ho hw (List.all_eq_true.1 h1 i (List.mem_range.2 hi))
       rw [getD_both hli] at h3
       cases h3
 let dst:Nat→Option Nat:=fun m=>(l[n+m]?).bind (·.dst)
 have main:∀(F f:Nat) (rem:List Nat) (tk:List (Nat×Nat)) (lh listed:Array Bool) (a:Act) (w':World),F=f+rem.length→LInv l n k lh listed rem→(tk.map (·.1)++rem).Perm (List.range k)→(tk.map (·.2)).Nodup→(∀m b,(m,b)∈tk→Z m b w'∧w.heap.size≤b∧b<w'.heap.size) →
     Below w.heap.size w w'→(∀W,Below w.heap.size w W→wpAnyQ P .any (l.take n).toArray (Beh W) (fun a'=>a'=A) f lh a)→wpAny P .any l.toArray Q (F+(l.length-(n+k))) listed (putL dst tk a) w':=by
   have fin:∀(f:Nat) (tk:List (Nat×Nat)) (lh listed:Array Bool) (a:Act) (w':World),LInv l n k lh listed []→(tk.map (·.1)).Perm (List.range k)→(tk.map (·.2)).Nodup→(∀m b,(m,b)∈tk→Z m b w'∧w.heap.size≤b∧b<w'.heap.size) →
     Below w.heap.size w w'→Region.ready .any (l.take n).toArray lh=[]→a=A→wpAny P .any l.toArray Q (f+(l.length-(n+k))) listed (putL dst tk a) w':=fun f tk lh listed a w' inv hp hnd hz hb hr ha=>by
     subst ha
     have full:=all_listed H inv.s2 hr
     have e:listed=(List.replicate (n+k) true++List.replicate (l.length-(n+k)) false).toArray:=by
       refine Array.ext (by simp [inv.s1];omega) fun i h1 h2=>?_
       have hi:i<l.length:=by rw [inv.s1] at h1;exact h1
       rcases Nat.lt_or_ge i n with c | c
       · have t:=(inv.same i c).symm.trans (full i c)
         simp [h1] at t
         simp [t,show i<n+k by omega]
       · rcases Nat.lt_or_ge i (n+k) with c2 | c2
         · have t:¬listed.getD (n+(i-n)) true=false:=fun hf=>by
             have:=(inv.al (i-n) (by omega)).1 hf
             cases this
           rw [show n+(i-n)=i by omega] at t
           simp [h1] at t
           simp [t,c2]
         · have t:=inv.tail i c2 hi
           simp [h1] at t
           rw [t]
           simp only [List.getElem_toArray]
           rw [List.getElem_append_right (by simpa using c2)]
           simp
     have s:=wpAny_of_seq (P:=P) (md:=.any) (Q':=Q) (l.drop (n+k)) (n+k) listed (putL dst tk a) w' (fun j=>by simp [List.getElem?_drop]) (by rw [e,List.length_drop];exact hseq) (hT tk w' hp hnd hz hb)
     rw [List.length_drop] at s
     exact any_more' s f
   have made:∀(F f:Nat) (rem:List Nat) (tk:List (Nat×Nat)) (lh listed:Array Bool) (a:Act) (w':World) (m:Nat),m<k→m∈rem→LInv l n k lh listed rem→(tk.map (·.1)++rem).Perm (List.range k)→(tk.map (·.2)).Nodup→(∀m b,(m,b)∈tk→Z m b w'∧w.heap.size≤b∧b<w'.heap.size) →
       Below w.heap.size w w' →
       (∀(tk':List (Nat×Nat)) (w'':World),LInv l n k lh (listed.setIfInBounds (n+m) true) (rem.erase m)→(tk'.map (·.1)++rem.erase m).Perm (List.range k)→(tk'.map (·.2)).Nodup→(∀m b,(m,b)∈tk'→Z m b w''∧w.heap.size≤b∧b<w''.heap.size)→Below w.heap.size w w'' →
         wpAny P .any l.toArray Q F (listed.setIfInBounds (n+m) true) (putL dst tk' a) w'') →
       wpOp P l.toArray Q (n+m) (wpAny P .any l.toArray Q F (listed.setIfInBounds (n+m) true)) (putL dst tk a) w':=fun F f rem tk lh listed a w' m hmk hmr inv hp hnd hz hb go=>by
     obtain⟨o,ho,haf,hg, -⟩:=mk m hmk
     have ho':l.toArray[n+m]?=some o:=by simpa using ho
     unfold wpOp
     simp only [ho']
     have hw:Region.wanted o (yielded l.toArray (putL dst tk a).tmps)=true:=by unfold Region.wanted;rw [hg]
     rw [if_pos hw]
     refine .inl ?_
     unfold Oper.wp
     rw [hal m hmk o ho]
     simp only [Oper.upon]
     have hd:o.dst=dst m:=by show o.dst=(l[n+m]?).bind (·.dst);rw [ho];rfl
     rw [hd]
     refine go ((m,w'.heap.size) :: tk) _ ⟨by simp [inv.s1],inv.s2,fun j hj=>by rw [Go.getD_set_ne true (by omega)];exact inv.same j hj,fun m' hm'=>?_,inv.nd.erase m,fun m' hm'=>inv.lo m' (List.mem_of_mem_erase hm'),fun j hj hjl=>by rw [Go.getD_set_ne true (by omega)];exact inv.tail j hj hjl,listed_cl inv.cl (mem_ready.2 ⟨(inv.al m hmk).2 hmr,o,ho',fun e he=>by rw [haf] at he;simp at he⟩)⟩ ?_ ?_ ?_ ?_
     · by_cases hmm:m=m'
       · subst hmm
         have:n+m<listed.size:=by rw [inv.s1];omega
         simp [this,inv.nd.mem_erase_iff]
       · rw [Go.getD_set_ne true (by omega),inv.al m' hm',inv.nd.mem_erase_iff]
         exact⟨fun h=>⟨fun e=>hmm e.symm,h⟩,fun h=>h.2⟩
     · simp only [List.map_cons,List.cons_append]
       refine List.Perm.trans ?_ hp
       refine List.Perm.symm ?_
       refine List.Perm.trans (List.Perm.append_left _ (List.perm_cons_erase hmr)) ?_
       exact List.perm_middle
     · simp only [List.map_cons,List.nodup_cons]
       refine⟨fun hmem=>?_,hnd⟩
       obtain⟨⟨m1,b1⟩,h1,h2⟩:=List.mem_map.1 hmem
       have:=(hz m1 b1 h1).2.2
       simp only at h2
       omega
     · intro m1 b1 h1
       have gr:Below w'.heap.size w' (w'.alloc (obj m)):=(Below.refl _ _).alloc (Nat.le_refl _) _
       rcases List.mem_cons.1 h1 with h1 | h1
       · cases h1
         exact⟨hZ m hmk w',hb.size,by simp⟩
       · obtain⟨z1,z2,z3⟩:=hz m1 b1 h1
         exact⟨hK _ _ _ _ z1 z3 gr,z2,Nat.lt_of_lt_of_le z3 gr.size⟩
     · exact hb.alloc hb.size _
   intro F
   induction F with
   | zero =>
     intro f rem tk lh listed a w' hF inv hp hnd hz hb hR
     have f0:f=0:=by omega
     have r0:rem=[]:=List.length_eq_zero_iff.1 (by omega)
     subst f0 r0
     have:=hR w' hb
     exact fin 0 tk lh listed a w' inv (by simpa using hp) hnd hz hb this.1 this.2
   | succ F ih =>
     intro f rem tk lh listed a w' hF inv hp hnd hz hb hR
     by_cases hr:Region.ready .any (l.take n).toArray lh=[]∧rem=[]
     · obtain⟨hr,r0⟩:=hr
       subst r0
       have ha:a=A:=by
         have:=hR w' hb
         cases f with
         | zero=>exact this.2
         | succ f=>exact this.1 hr
       exact fin (F+1) tk lh listed a w' inv (by simpa using hp) hnd hz hb hr ha
     · -- something is left of the first ones
       have hup:∀j,j<n→(j∈Region.ready .any (l.take n).toArray lh↔j∈Region.ready .any l.toArray listed):=fun j hj=>by
         rw [mem_ready,mem_ready,inv.same j hj,H.same j hj]
         have key:∀o,l.toArray[j]?=some o→∀e∈o.after,Region.binds .any e=true→lh.getD e.on false=listed.getD e.on false:=fun o ho e he hb=>by
           have hlo:=H.low j o hj ho e he hb
           rw [getD_any (l:=lh) (by rw [inv.s2];omega) false true,getD_any (l:=listed) (by rw [inv.s1];omega) false true]
           exact inv.same e.on (by omega)
         refine and_congr_right fun _=>⟨fun ⟨o,ho,h⟩=>⟨o,ho,fun e he hb=>?_⟩,fun ⟨o,ho,h⟩=>⟨o,ho,fun e he hb=>?_⟩⟩
         · rw [←key o ho e he hb];exact h e he hb
         · rw [key o ho e he hb];exact h e he hb
       obtain⟨i0,hi0,hl0⟩:∃i,i∈Region.ready .any l.toArray listed∧i<n+k:=by
         by_cases h1:Region.ready .any (l.take n).toArray lh=[]
         · have h2:rem≠[]:=fun h2=>hr ⟨h1,h2⟩
           obtain⟨m,hm'⟩:=List.exists_mem_of_ne_nil _ h2
           have hmk:=inv.lo m hm'
           obtain⟨o,ho,haf, -, -⟩:=mk m hmk
           refine⟨n+m, ?_,by omega⟩
           rw [mem_ready]
           exact⟨(inv.al m hmk).2 hm',o,by simpa using ho,fun e he=>by rw [haf] at he;simp at he⟩
         · obtain⟨i,hi⟩:=List.exists_mem_of_ne_nil _ h1
           have hin:i<n:=by
             obtain⟨_,o,ho,_⟩:=mem_ready.1 hi
             have:=(Array.getElem?_eq_some_iff.1 ho).1
             rw [H.size] at this
             exact this
           exact⟨i,(hup i hin).1 hi,by omega⟩
       rw [show F+1+(l.length-(n+k))=(F+(l.length-(n+k)))+1 by omega]
       refine⟨fun h0=>(by rw [h0] at hi0;cases hi0),fun j hj=>?_⟩
       have hjk:=late listed i0 hl0 (mem_ready.1 hi0).1 inv.s1 inv.cl j hj
       rcases Nat.lt_or_ge j n with hjn | hjn
       · -- one of the first
         have hj':=(hup j hjn).2 hj
         have ho:l.toArray[j]?=some (l.toArray[j]'(by simp;omega)):=by simp
         generalize hoo:l.toArray[j]'(by simp;omega)=o at ho
         have hoh:(l.take n).toArray[j]?=some o:=by rw [H.same j hjn];exact ho
         have hol:l[j]?=some o:=by simpa using ho
         cases f with
         | zero =>
           have:=(hR w' hb).1
           rw [this] at hj'
           cases hj'
         | succ f =>
           have q:=(hR w' hb).2 j hj'
           obtain⟨v,hy,hKv⟩:=yieldsIn_of_qOp hoh q
           have hy2:YieldsIn P l.toArray (Beh w') o v (putL dst tk a):=by
             have hlk:∀m d,(m<k→dst m=some d→d ∉ o.looksAt l.toArray∧o.dst≠some d):=fun m d hmk hd=>apart j o hjn hol m d hd hmk
             have hy1:YieldsIn P l.toArray (Beh w') o v a:=by
               unfold YieldsIn at hy ⊢
               rw [head_wanted H hjn ho] at hy
               exact hy
             have e:=exec_putL (ops:=l.toArray) (dst:=fun m=>if m<k then dst m else none) (o:=o) (fun cs b=>nosel j o cs b ho) (fun m d hd=>by
               by_cases hmk:m<k
               · rw [if_pos hmk] at hd;exact (hlk m d hmk hd).1
               · rw [if_neg hmk] at hd;cases hd) tk a
             have ep:putL (fun m=>if m<k then dst m else none) tk a=putL dst tk a:=by
               have hin:∀m b,(m,b)∈tk→m<k:=fun m b hmb=>by
                 have:m∈List.range k:=hp.mem_iff.1 (List.mem_append_left _ (List.mem_map.2 ⟨(m,b),hmb,rfl⟩))
                 exact List.mem_range.1 this
               clear e hy hy1 hKv q hz hnd hp
               induction tk with
               | nil=>rfl
               | cons x tk ihx =>
                 obtain⟨m,b⟩:=x
                 unfold putL
                 rw [ihx (fun m b hmb=>hin m b (List.mem_cons_of_mem _ hmb)),if_pos (hin m b (List.mem_cons_self ..))]
             rw [ep] at e
             exact hy1.of_same e.1 e.2
           have hdst:putL dst tk (a.put o.dst v)=(putL dst tk a).put o.dst v:=by
             have hin:∀m b,(m,b)∈tk→m<k:=fun m b hmb=>by
               have:m∈List.range k:=hp.mem_iff.1 (List.mem_append_left _ (List.mem_map.2 ⟨(m,b),hmb,rfl⟩))
               exact List.mem_range.1 this
             clear hy hy2 hKv q hz hnd hp
             induction tk with
             | nil=>rfl
             | cons x tk ihx =>
               obtain⟨m,b⟩:=x
               unfold putL
               rw [ihx (fun m b hmb=>hin m b (List.mem_cons_of_mem _ hmb))]
               exact Act.put_comm _ _ _ (fun d hd e=>(apart j o hjn hol m d e (hin m b (List.mem_cons_self ..))).2 hd)
           refine wpOp_of_qOp (C:=Beh w') (K:=fun a'=>a'=(putL dst tk a).put o.dst v) (beh_of (Below.refl _ _)) (fun a' w'' hw'' ha'=>?_) (hy2.qOp ho rfl)
           subst ha'
           rw [←hdst]
           have hbw:=hw''.below
           refine ih f rem tk (lh.setIfInBounds j true) (listed.setIfInBounds j true) (a.put o.dst v) w'' (by omega) ⟨by simp [inv.s1],by simp [inv.s2],fun i hi=>?_,fun m hmk=>by rw [Go.getD_set_ne true (by omega)];exact inv.al m hmk,inv.nd,inv.lo,fun i hi hil=>by rw [Go.getD_set_ne true (by omega)];exact inv.tail i hi hil,listed_cl inv.cl hj⟩ hp hnd (fun m b hmb=>?_) (later hb hbw) (fun W hW=>?_)
           · by_cases hij:j=i
             · subst hij
               have h1:j<lh.size:=by rw [inv.s2];omega
               have h2:j<listed.size:=by rw [inv.s1];omega
               simp [h1,h2]
             · rw [Go.getD_set_ne true hij,Go.getD_set_ne true hij]
               exact inv.same i hi
           · obtain⟨z1,z2,z3⟩:=hz m b hmb
             exact⟨hK _ _ _ _ z1 z3 hbw,z2,Nat.lt_of_lt_of_le z3 hbw.size⟩
           · obtain⟨v', -,hKv'⟩:=yieldsIn_of_qOp hoh ((hR W hW).2 j hj')
             rw [put_pinned (md:=.any) hdist hoh (by rw [inv.s2];omega) hKv hKv']
             exact hKv'
       · -- one that makes memory
         have hmk:j-n<k:=by omega
         have ej:n+(j-n)=j:=by omega
         have hmr:j-n∈rem:=by
           have:=(mem_ready.1 hj).1
           rw [←ej] at this
           exact (inv.al _ hmk).1 this
         have go:=made (F+(l.length-(n+k))) f rem tk lh listed a w' (j-n) hmk hmr inv hp hnd hz hb (fun tk' w'' inv' hp' hnd' hz' hb'=>by
           have e:F=f+(rem.erase (j-n)).length:=by
             have:=List.length_erase_of_mem hmr
             have:rem.length≠0:=fun h0=>by rw [List.length_eq_zero_iff.1 h0] at hmr;cases hmr
             omega
           exact ih f (rem.erase (j-n)) tk' lh _ a w'' e inv' hp' hnd' hz' hb' hR)
         rw [ej] at go
         exact go
 refine wp_region_any hm ?_
 have R:∀W,Below w.heap.size w W→wpAnyQ P .any (l.take n).toArray (Beh W) (fun a'=>a'=A) n (Array.replicate n false) a:=fun W hW=>by
   have q:=wpAnyQ_lex (P:=P) (C:=Beh W) (md:=.any) hlex.1 (l.take n) 0 (Array.replicate (l.take n).toArray.size false) a (by simp) (by simpa using hlex.2) (h W hW)
   rw [hl] at q
   have:(l.take n).toArray.size=n:=by simpa using hl
   rw [this] at q
   exact q
 have t:=main (n+k) n (List.range k) [] (Array.replicate n false) (Array.replicate l.length false) a w.drew (by simp) ⟨by simp,by simp,fun j hj=>by simp [hj,show j<l.length by omega],fun m hmk=>by simp [hmk,show n+m<l.length by omega],List.nodup_range,fun m hm'=>List.mem_range.1 hm',fun j hj hjl=>by simp [hjl],fun j oj _ hl=>(by rw [getD_replicate_false] at hl;cases hl)⟩ (by simp) (by simp) (fun m b hmb=>by cases hmb) (Below.refl _ _).drew R
 have e:n+k+(l.length-(n+k))=l.toArray.size:=by simp;omega
 rw [e] at t
 have e2:l.length=l.toArray.size:=by simp
 rw [e2] at t
 exact t
end
theorem Has2.lt {w:World} {b:Nat} {x y:Value} (h:Has2 w b x y):b<w.heap.size:=h.2.2.2.2
theorem Has2.far2 {w:World} {b c:Nat} {x y:Value} (h:Has2 w b x y) (hne:c≠b) (u v:Value):Has2 ((w.setCell ⟨c,0,none⟩ u).setCell ⟨c,1,none⟩ v) b x y:=h.far hne u v
theorem ramount_w (n:Int) (h1:-9223372036854775808≤n) (h2:n≤9223372036854775807) (w:World) :
   Calls Try.prog 54 #[.int .i64 n] w fun r w'=>r=.returned (.int .u64 ((n.natAbs:Nat):Int))∧w=w':=by
 have e1:n<0→IntKind.u64.wrap (-IntKind.u64.wrap n)=(n.natAbs:Int):=fun c=>by rw [IntKind.wrap_u64,IntKind.wrap_u64];omega
 have e2:¬n<0→IntKind.u64.wrap n=(n.natAbs:Int):=fun c=>by rw [IntKind.wrap_u64];omega
 generalize n.natAbs=m at *
 by_cases c:n<0
 · have e:=e1 c
   clear e1 e2
   go_enter Try.func54,Try.ntmps54
   go_wp2_with fail
   go_ret
   exact⟨rfl,rfl⟩
 · have e:=e2 c
   clear e1 e2
   go_enter Try.func54,Try.ntmps54
   go_wp2_with fail
   go_ret
   exact⟨rfl,rfl⟩
theorem rem_u64 (m n:Nat):Int.tmod (m:Int) (n:Int)=((m%n:Nat):Int):=rfl
theorem quo_u64 (m n:Nat):Int.tdiv (m:Int) (n:Int)=((m/n:Nat):Int):=rfl
set_option maxHeartbeats 1000000 in
theorem rdivisor_w (a b:Nat) (w:World) :
   Calls Try.prog 53 #[.int .u64 (a:Int),.int .u64 (b:Int)] w fun r w'=>r=.returned (.int .u64 ((Nat.gcd a b:Nat):Int))∧Below w.heap.size w w':=by
 go_enter Try.func53,Try.ntmps53
 go_upto_region 1 with fail
 go_loopg [0,1] b (fun G s0 s1 wx=>∃(m n:Nat),n≤G∧Below w.heap.size w wx∧s0=.int .u64 (m:Int)∧s1=.int .u64 (n:Int)∧Hid (Nat.gcd m n=Nat.gcd a b))
 case atStart=>exact⟨a,b,Nat.le_refl _,Below.refl _ _,rfl,rfl,rfl⟩
 case round =>
   obtain⟨m,n,hG,HB,rfl,rfl,H⟩:=hrel
   by_cases cn:n=0
   · subst cn
     have e:Hid (m=Nat.gcd a b):=by
       show m=Nat.gcd a b
       rw [←H.out,Nat.gcd_zero_right]
     clear H
     go_wp2_with fail
     go_ret
     exact⟨congrArg (fun x:Nat=>Ending.returned (Value.int .u64 (x:Int))) e.out,HB⟩
   · have z:((n:Int) != 0)=true:=by simpa using cn
     have z1:¬(n:Int)=0:=by omega
     have lt:=Nat.mod_lt m (show 0<n by omega)
     have H2:Hid (Nat.gcd n (m%n)=Nat.gcd a b):=by
       show Nat.gcd n (m%n)=Nat.gcd a b
       rw [←H.out,Nat.gcd_comm n,←Nat.gcd_rec,Nat.gcd_comm]
     have er:=rem_u64 m n
     clear H
     generalize m%n=d at *
     go_wp2_with fail
     go_region
     all_goals
       go_wp2_with fail
       (go_roundg d
        case measure=>omega
        case rel=>exact⟨n,d,Nat.le_refl _,HB.drew,rfl,rfl,H2⟩)
theorem rlow_w (a:Nat) (w:World) :
   Calls Try.prog 105 #[.int .u64 (a:Int)] w fun r w'=>r=.returned (.int .u64 ((a%4294967296:Nat):Int))∧w=w':=by
 have e1:IntKind.u32.wrap (a:Int)=((a%4294967296:Nat):Int):=by rw [IntKind.wrap_u32];omega
 have e2:IntKind.u64.wrap ((a%4294967296:Nat):Int)=((a%4294967296:Nat):Int):=by rw [IntKind.wrap_u64];omega
 generalize a%4294967296=m at *
 go_enter Try.func105,Try.ntmps105
 go_wp2_with fail
 go_ret
 exact⟨rfl,rfl⟩
theorem rhalves_w (a:Nat) (w:World) :
   Calls Try.prog 104 #[.int .u64 (a:Int)] w fun r w'=>r=.returned (.tuple #[.int .u64 ((a/4294967296:Nat):Int),.int .u64 ((a%4294967296:Nat):Int)])∧w=w':=by
 have c:=fun W=>rlow_w a W
 have e1:(a:Int)/4294967296=((a/4294967296:Nat):Int):=by omega
 generalize a%4294967296=m at *
 generalize a/4294967296=n at *
 go_enter Try.func104,Try.ntmps104
 go_wp2_with (go_at_call 105;(with_reducible refine (c _).mono ?_);rintro _ _ ⟨rfl,rfl⟩)
 go_ret2
 exact⟨rfl,rfl⟩
def Sg (h l:Nat) (z:Int):Prop:=h<18446744073709551616∧l<18446744073709551616∧((h*18446744073709551616+l:Nat):Int)=z%340282366920938463463374607431768211456
theorem sg_ex (z:Int):∃h l,Sg h l z:=by
 refine⟨(z%340282366920938463463374607431768211456).toNat/18446744073709551616,(z%340282366920938463463374607431768211456).toNat%18446744073709551616, ?_, ?_, ?_⟩ <;> omega
theorem Sg.uniq {h l h' l':Nat} {z:Int} (a:Sg h l z) (b:Sg h' l' z):h=h'∧l=l':=by
 obtain⟨a1,a2,a3⟩:=a
 obtain⟨b1,b2,b3⟩:=b
 omega
theorem Sg.nat {h l:Nat} {z:Int} (a:Sg h l z) (h0:0≤z) (h1:z<340282366920938463463374607431768211456):((h*18446744073709551616+l:Nat):Int)=z:=by
 obtain⟨a1,a2,a3⟩:=a
 omega
set_option maxHeartbeats 1000000 in
theorem wprod_core (a b ah al bh bl low lowh lowl p10 mid midl midh p01 kept kepth k2 p11 t hi lo:Nat)
   (c1:∀W,Calls Try.prog 104 #[.int .u64 (a:Int)] W fun r w'=>r=.returned (.tuple #[.int .u64 (ah:Int),.int .u64 (al:Int)])∧W=w')
   (c2:∀W,Calls Try.prog 104 #[.int .u64 (b:Int)] W fun r w'=>r=.returned (.tuple #[.int .u64 (bh:Int),.int .u64 (bl:Int)])∧W=w')
   (c3:∀W,Calls Try.prog 105 #[.int .u64 (mid:Int)] W fun r w'=>r=.returned (.int .u64 (midl:Int))∧W=w')
   (c4:∀W,Calls Try.prog 105 #[.int .u64 (low:Int)] W fun r w'=>r=.returned (.int .u64 (lowl:Int))∧W=w')
   (e1:IntKind.u64.wrap ((al:Int)*(bl:Int))=(low:Int)) (e2:(low:Int)/4294967296=(lowh:Int)) (e3:IntKind.u64.wrap ((ah:Int)*(bl:Int))=(p10:Int)) (e4:IntKind.u64.wrap ((p10:Int)+(lowh:Int))=(mid:Int))
   (e5:IntKind.u64.wrap ((al:Int)*(bh:Int))=(p01:Int)) (e6:IntKind.u64.wrap ((p01:Int)+(midl:Int))=(kept:Int)) (e7:IntKind.u64.wrap ((ah:Int)*(bh:Int))=(p11:Int)) (e8:(mid:Int)/4294967296=(midh:Int))
   (e9:IntKind.u64.wrap ((p11:Int)+(midh:Int))=(t:Int)) (e10:(kept:Int)/4294967296=(kepth:Int)) (e11:IntKind.u64.wrap ((t:Int)+(kepth:Int))=(hi:Int)) (e12:IntKind.u64.wrap ((kept:Int)*4294967296)=(k2:Int)) (e13:bits .or .u64 (k2:Int) (lowl:Int)=(lo:Int)) (w:World) :
   Calls Try.prog 97 #[.int .u64 (a:Int),.int .u64 (b:Int)] w fun r w'=>r=.returned (.agg #[.int .u64 (hi:Int),.int .u64 (lo:Int)])∧Below w.heap.size w w':=by
 go_enter Try.func97,Try.ntmps97
 go_wp2_with (first
   | (go_at_call_of 104 (Value.int .u64 (a:Int));(with_reducible refine (c1 _).mono ?_);rintro _ _ ⟨rfl,rfl⟩)
   | (go_at_call_of 104 (Value.int .u64 (b:Int));(with_reducible refine (c2 _).mono ?_);rintro _ _ ⟨rfl,rfl⟩)
   | (go_at_call_of 105 (Value.int .u64 (mid:Int));(with_reducible refine (c3 _).mono ?_);rintro _ _ ⟨rfl,rfl⟩)
   | (go_at_call_of 105 (Value.int .u64 (low:Int));(with_reducible refine (c4 _).mono ?_);rintro _ _ ⟨rfl,rfl⟩))
 refine bodyPost_ret (v:=.agg #[.int .u64 (hi:Int),.int .u64 (lo:Int)]) (by simp [results,Try.results97,go_sem, *]) rfl ⟨rfl, ?_⟩
 go_grown
theorem or32 (k m:Nat) (hm:m<4294967296) (hk:k*4294967296<18446744073709551616):bits .or .u64 ((k*4294967296:Nat):Int) (m:Int)=((k*4294967296+m:Nat):Int):=by
 have e:k*4294967296 ||| m=k*4294967296+m:=by
   have:=Nat.two_pow_add_eq_or_of_lt (i:=32) (b:=m) (by simpa using hm) k
   rw [show 2^32*k=k*4294967296 by omega] at this
   exact this.symm
 rw [u64_or_nat (k*4294967296) m (by omega) (by omega),e]
theorem lower_word {p00 p10 p01 p11 P h l mid kept:Nat} (hP:P=p11*18446744073709551616+(p10+p01)*4294967296+p00) (hm:mid=p10+p00/4294967296) (hk:kept=p01+mid%4294967296) (hn:h*18446744073709551616+l=P) (hl:l<18446744073709551616):l=kept%4294967296*4294967296+p00%4294967296:=by
 have e1:p00=p00/4294967296*4294967296+p00%4294967296:=by omega
 have e2:mid=mid/4294967296*4294967296+mid%4294967296:=by omega
 have e3:kept=kept/4294967296*4294967296+kept%4294967296:=by omega
 have b1:p00%4294967296<4294967296:=Nat.mod_lt _ (by omega)
 have b3:kept%4294967296<4294967296:=Nat.mod_lt _ (by omega)
 generalize p00/4294967296=a at *
 generalize p00%4294967296=b at *
 generalize mid/4294967296=c at *
 generalize mid%4294967296=d at *
 generalize kept/4294967296=e at *
 generalize kept%4294967296=f at *
 subst e1
 have:h*18446744073709551616+l=(p11+c+e)*18446744073709551616+(f*4294967296+b):=by omega
 have u1:=congrArg (·%18446744073709551616) this
 rw [Nat.mul_comm h,Nat.mul_comm (p11+c+e),Nat.mul_add_mod,Nat.mul_add_mod,Nat.mod_eq_of_lt hl,Nat.mod_eq_of_lt (by omega)] at u1
 exact u1
theorem wprod_w (a b h l:Nat) (ha:a<18446744073709551616) (hb:b<18446744073709551616) (S:Sg h l ((a:Int)*(b:Int))) (w:World) :
   Calls Try.prog 97 #[.int .u64 (a:Int),.int .u64 (b:Int)] w fun r w'=>r=.returned (.agg #[.int .u64 (h:Int),.int .u64 (l:Int)])∧Below w.heap.size w w':=by
 have le:∀a b:Nat,a<4294967296→b<4294967296→a*b≤18446744065119617025:=fun a b h k=>Nat.mul_le_mul (show a≤4294967295 by omega) (show b≤4294967295 by omega)
 have b00:=le (a%4294967296) (b%4294967296) (by omega) (by omega)
 have b10:=le (a/4294967296) (b%4294967296) (by omega) (by omega)
 have b01:=le (a%4294967296) (b/4294967296) (by omega) (by omega)
 have b11:=le (a/4294967296) (b/4294967296) (by omega) (by omega)
 have hP:a*b=a/4294967296*(b/4294967296)*18446744073709551616+(a/4294967296*(b%4294967296)+a%4294967296*(b/4294967296))*4294967296+a%4294967296*(b%4294967296):=by
   have ex:a=a/4294967296*4294967296+a%4294967296:=by omega
   have ey:b=b/4294967296*4294967296+b%4294967296:=by omega
   generalize a/4294967296=u at *
   generalize a%4294967296=v at *
   generalize b/4294967296=r at *
   generalize b%4294967296=q at *
   subst ex ey
   grind
 have hlt:a*b<18446744073709551616*18446744073709551616:=Nat.mul_lt_mul'' ha hb
 have kxy:(a:Int)*(b:Int)=((a*b:Nat):Int):=(Int.natCast_mul _ _).symm
 have hn:=S.nat (by rw [kxy];omega) (by rw [kxy];generalize a*b=z at *;omega)
 obtain⟨s1,s2, -⟩:=S
 rw [kxy] at hn
 have k00:(((a%4294967296:Nat):Int))*((b%4294967296:Nat):Int)=((a%4294967296*(b%4294967296):Nat):Int):=(Int.natCast_mul _ _).symm
 have k10:(((a/4294967296:Nat):Int))*((b%4294967296:Nat):Int)=((a/4294967296*(b%4294967296):Nat):Int):=(Int.natCast_mul _ _).symm
 have k01:(((a%4294967296:Nat):Int))*((b/4294967296:Nat):Int)=((a%4294967296*(b/4294967296):Nat):Int):=(Int.natCast_mul _ _).symm
 have k11:(((a/4294967296:Nat):Int))*((b/4294967296:Nat):Int)=((a/4294967296*(b/4294967296):Nat):Int):=(Int.natCast_mul _ _).symm
 have c1:=fun W=>rhalves_w a W
 have c2:=fun W=>rhalves_w b W
 generalize a%4294967296*(b%4294967296)=p00 at *
 generalize a/4294967296*(b%4294967296)=p10 at *
 generalize a%4294967296*(b/4294967296)=p01 at *
 generalize a/4294967296*(b/4294967296)=p11 at *
 generalize a*b=P at *
 obtain⟨mid,hm⟩:∃m,m=p10+p00/4294967296:=⟨_,rfl⟩
 obtain⟨kept,hk⟩:∃m,m=p01+mid%4294967296:=⟨_,rfl⟩
 have ho:=or32 (kept%4294967296) (p00%4294967296) (by omega) (by omega)
 refine wprod_core a b _ _ _ _ p00 (p00/4294967296) (p00%4294967296) p10 mid (mid%4294967296) (mid/4294967296) p01 kept (kept/4294967296) (kept%4294967296*4294967296) p11 (p11+mid/4294967296) h l
   c1 c2 (fun W=>rlow_w mid W) (fun W=>rlow_w p00 W) ?_ (by omega) ?_ ?_ ?_ ?_ ?_ (by omega) ?_ (by omega) ?_ ?_ ?_ w
 · rw [k00,IntKind.wrap_u64];omega
 · rw [k10,IntKind.wrap_u64];omega
 · rw [IntKind.wrap_u64];omega
 · rw [k01,IntKind.wrap_u64];omega
 · rw [IntKind.wrap_u64];omega
 · rw [k11,IntKind.wrap_u64];omega
 · rw [IntKind.wrap_u64];omega
 · rw [IntKind.wrap_u64];omega
 · rw [IntKind.wrap_u64];omega
 · rw [ho];exact congrArg Int.ofNat (lower_word hP hm hk (by exact_mod_cast hn) s2).symm
theorem wroom_w (h l:Nat) (w:World) :
   Calls Try.prog 103 #[.agg #[.int .u64 (h:Int),.int .u64 (l:Int)]] w fun r w'=>r=.returned (.bool (decide (h=0)&&decide (l≤9223372036854775807)))∧Below w.heap.size w w':=by
 by_cases c:h=0
 · subst c
   have e:(decide ((l:Int)≤9223372036854775807))=decide (l≤9223372036854775807):=by
     by_cases q:l≤9223372036854775807
     · rw [decide_eq_true q,decide_eq_true (by omega)]
     · rw [decide_eq_false q,decide_eq_false (by omega)]
   have z:decide ((0:Nat)=0)=true:=rfl
   rw [z,Bool.true_and]
   clear z
   generalize decide (l≤9223372036854775807)=b at *
   go_enter Try.func103,Try.ntmps103
   go_wp2_with fail
   go_ret
   exact⟨rfl,by go_grown⟩
 · have e:((h:Int)==0)=false:=by simpa using c
   have e2:¬(h:Int)=0:=by omega
   rw [decide_eq_false c,Bool.false_and]
   go_enter Try.func103,Try.ntmps103
   go_wp2_with fail
   go_ret
   exact⟨rfl,by go_grown⟩
theorem wbelow_w (h l:Nat) (w:World) :
   Calls Try.prog 93 #[.agg #[.int .u64 (h:Int),.int .u64 (l:Int)]] w fun r w'=>r=.returned (.bool (decide (9223372036854775808≤h)))∧Below w.heap.size w w':=by
 have e:((h:Int)/9223372036854775808 != 0)=decide (9223372036854775808≤h):=by
   by_cases q:9223372036854775808≤h
   · rw [decide_eq_true q]
     have:(h:Int)/9223372036854775808≠0:=by omega
     simpa using this
   · rw [decide_eq_false q]
     have:(h:Int)/9223372036854775808=0:=by omega
     rw [this];rfl
 generalize decide (9223372036854775808≤h)=b at *
 go_enter Try.func93,Try.ntmps93
 go_wp2_with fail
 go_ret
 exact⟨rfl,by go_grown⟩
theorem wplus_core (h1 l1 h2 l2 s h l:Nat) (e1:IntKind.u64.wrap ((h1:Int)+(h2:Int))=(s:Int)) (e2:IntKind.u64.wrap ((l1:Int)+(l2:Int))=(l:Int))
   (e3:((l:Int)<(l1:Int)∧IntKind.u64.wrap ((s:Int)+1)=(h:Int))∨(¬(l:Int)<(l1:Int)∧s=h)) (w:World) :
   Calls Try.prog 92 #[.agg #[.int .u64 (h1:Int),.int .u64 (l1:Int)],.agg #[.int .u64 (h2:Int),.int .u64 (l2:Int)]] w fun r w'=>r=.returned (.agg #[.int .u64 (h:Int),.int .u64 (l:Int)])∧Below w.heap.size w w':=by
 rcases e3 with ⟨c,e3⟩ | ⟨c,e3⟩
 · go_enter Try.func92,Try.ntmps92
   go_wp2_with fail
   refine bodyPost_ret (v:=.agg #[.int .u64 (h:Int),.int .u64 (l:Int)]) (by simp [results,Try.results92,go_sem, *]) rfl ⟨rfl, ?_⟩
   go_grown
 · subst e3
   go_enter Try.func92,Try.ntmps92
   go_wp2_with fail
   refine bodyPost_ret (v:=.agg #[.int .u64 (s:Int),.int .u64 (l:Int)]) (by simp [results,Try.results92,go_sem, *]) rfl ⟨rfl, ?_⟩
   go_grown
theorem wplus_w (h1 l1 h2 l2 h l:Nat) {x y:Int} (S1:Sg h1 l1 x) (S2:Sg h2 l2 y) (S:Sg h l (x+y)) (w:World) :
   Calls Try.prog 92 #[.agg #[.int .u64 (h1:Int),.int .u64 (l1:Int)],.agg #[.int .u64 (h2:Int),.int .u64 (l2:Int)]] w fun r w'=>r=.returned (.agg #[.int .u64 (h:Int),.int .u64 (l:Int)])∧Below w.heap.size w w':=by
 obtain⟨a1,a2,a3⟩:=S1
 obtain⟨b1,b2,b3⟩:=S2
 obtain⟨c1,c2,c3⟩:=S
 have key:h*18446744073709551616+l=(h1*18446744073709551616+l1+(h2*18446744073709551616+l2))%340282366920938463463374607431768211456:=by omega
 clear a3 b3 c3
 by_cases k:l1+l2<18446744073709551616
 · have e:l=l1+l2:=by omega
   have e':h=(h1+h2)%18446744073709551616:=by omega
   refine wplus_core h1 l1 h2 l2 ((h1+h2)%18446744073709551616) h l ?_ ?_ (Or.inr ⟨by omega,e'.symm⟩) w
   · rw [IntKind.wrap_u64];omega
   · rw [IntKind.wrap_u64];omega
 · have e:l=l1+l2-18446744073709551616:=by omega
   have e':h=(h1+h2+1)%18446744073709551616:=by omega
   refine wplus_core h1 l1 h2 l2 ((h1+h2)%18446744073709551616) h l ?_ ?_ (Or.inl ⟨by omega, ?_⟩) w
   · rw [IntKind.wrap_u64];omega
   · rw [IntKind.wrap_u64];omega
   · rw [IntKind.wrap_u64];omega
theorem xor_max (a:Nat) (ha:a<18446744073709551616):bits .xor .u64 IntKind.u64.max (a:Int)=((18446744073709551615-a:Nat):Int):=by
 have h1:(BitVec.ofInt 64 (a:Int)).toNat=a:=by
   rw [BitVec.ofInt_natCast,BitVec.toNat_ofNat];exact Nat.mod_eq_of_lt (by omega)
 have h2:BitVec.ofInt 64 IntKind.u64.max=BitVec.allOnes 64:=by decide
 show IntKind.u64.wrap ((BitVec.ofInt 64 IntKind.u64.max ^^^ BitVec.ofInt 64 (a:Int)).toNat:Int)=_
 rw [h2,BitVec.allOnes_xor,BitVec.toNat_not,h1,IntKind.wrap_u64]
 omega
theorem neg_mod (x M:Int) (hM:0<M):(-x-1)%M=M-1-x%M:=by
 have h1:=Int.emod_nonneg x (show M≠0 by omega)
 have h2:=Int.emod_lt_of_pos x hM
 have e:-x-1=(M-1-x%M)+M*(-(x/M)-1):=by
   have:=Int.mul_ediv_add_emod x M
   grind
 rw [e,Int.add_mul_emod_self_left,Int.emod_eq_of_lt (by omega) (by omega)]
theorem wneg_core (h l h' l' H L:Nat) (e1:bits .xor .u64 IntKind.u64.max (h:Int)=(h':Int)) (e2:bits .xor .u64 IntKind.u64.max (l:Int)=(l':Int))
   (c:∀W,Calls Try.prog 92 #[.agg #[.int .u64 (h':Int),.int .u64 (l':Int)],.agg #[.int .u64 0,.int .u64 1]] W fun r w'=>r=.returned (.agg #[.int .u64 (H:Int),.int .u64 (L:Int)])∧Below W.heap.size W w') (w:World) :
   Calls Try.prog 94 #[.agg #[.int .u64 (h:Int),.int .u64 (l:Int)]] w fun r w'=>r=.returned (.agg #[.int .u64 (H:Int),.int .u64 (L:Int)])∧Below w.heap.size w w':=by
 go_enter Try.func94,Try.ntmps94
 go_wp2_with (go_at_call 92;(with_reducible refine (c _).mono ?_);rintro _ W1 ⟨rfl,hb1⟩;obtain⟨x0,x1,x2,x3,x4⟩:=Has2.keep (b:=w.heap.size+1) (x:=.int .u64 0) (y:=.int .u64 0) ⟨by go_simp,by go_simp,by go_simp,by go_simp,by go_size⟩ hb1;have HB:Below w.heap.size w W1:=later (by go_grown) hb1;clear hb1)
 refine bodyPost_ret (v:=.agg #[.int .u64 (H:Int),.int .u64 (L:Int)]) (by simp [results,Try.results94,go_sem, *]) rfl ⟨rfl, ?_⟩
 repeat' (first | (with_reducible exact HB) | (with_reducible refine Below.setCell ?_ ?_ _) | go_size)
theorem neg_two {h l:Nat} {x:Int} (a1:h<18446744073709551616) (a2:l<18446744073709551616) (a3:((h*18446744073709551616+l:Nat):Int)=x%340282366920938463463374607431768211456) :
   (((18446744073709551615-h)*18446744073709551616+(18446744073709551615-l):Nat):Int)=(-x-1)%340282366920938463463374607431768211456:=by
 rw [neg_mod x _ (by decide),←a3]
 obtain⟨u,hu⟩:∃u,u+h=18446744073709551615:=⟨18446744073709551615-h,by omega⟩
 obtain⟨v,hv⟩:∃v,v+l=18446744073709551615:=⟨18446744073709551615-l,by omega⟩
 rw [show 18446744073709551615-h=u by omega,show 18446744073709551615-l=v by omega]
 have hM:(340282366920938463463374607431768211456:Int)=18446744073709551616*18446744073709551616:=by decide
 have hu':(u:Int)=18446744073709551616-1-(h:Int):=by omega
 have hv':(v:Int)=18446744073709551616-1-(l:Int):=by omega
 rw [hM,Int.natCast_add,Int.natCast_add,Int.natCast_mul,Int.natCast_mul,hu',hv']
 show (18446744073709551616-1-(h:Int))*18446744073709551616+(18446744073709551616-1-(l:Int))=18446744073709551616*18446744073709551616-1-((h:Int)*18446744073709551616+(l:Int))
 clear hM hu' hv' hu hv a1 a2 a3
 generalize (18446744073709551616:Int)=B
 grind
theorem wneg_w (h l H L:Nat) {x:Int} (S1:Sg h l x) (S:Sg H L (-x)) (w:World) :
   Calls Try.prog 94 #[.agg #[.int .u64 (h:Int),.int .u64 (l:Int)]] w fun r w'=>r=.returned (.agg #[.int .u64 (H:Int),.int .u64 (L:Int)])∧Below w.heap.size w w':=by
 obtain⟨a1,a2,a3⟩:=S1
 refine wneg_core h l (18446744073709551615-h) (18446744073709551615-l) H L (xor_max h a1) (xor_max l a2) (fun W=>wplus_w _ _ 0 1 H L (x:=-x-1) (y:=1) ⟨by omega,by omega, ?_⟩ ⟨by decide,by decide,by decide⟩ (by rw [show -x-1+1=-x by omega];exact S) W) w
 exact neg_two a1 a2 a3
theorem wsgn_core (n:Int) (a d h l H L:Nat) (ca:∀W,Calls Try.prog 54 #[.int .i64 n] W fun r w'=>r=.returned (.int .u64 (a:Int))∧W=w')
   (cp:∀W,Calls Try.prog 97 #[.int .u64 (a:Int),.int .u64 (d:Int)] W fun r w'=>r=.returned (.agg #[.int .u64 (h:Int),.int .u64 (l:Int)])∧Below W.heap.size W w')
   (cn:(n<0∧∀W,Calls Try.prog 94 #[.agg #[.int .u64 (h:Int),.int .u64 (l:Int)]] W fun r w'=>r=.returned (.agg #[.int .u64 (H:Int),.int .u64 (L:Int)])∧Below W.heap.size W w')∨(¬n<0∧h=H∧l=L)) (w:World) :
   Calls Try.prog 91 #[.int .i64 n,.int .u64 (d:Int)] w fun r w'=>r=.returned (.agg #[.int .u64 (H:Int),.int .u64 (L:Int)])∧Below w.heap.size w w':=by
 rcases cn with ⟨c,cn⟩ | ⟨c,rfl,rfl⟩
 · go_enter Try.func91,Try.ntmps91
   go_wp2_with (first
     | (go_at_call 54;(with_reducible refine (ca _).mono ?_);rintro _ _ ⟨rfl,rfl⟩)
     | (go_at_call 97;(with_reducible refine (cp _).mono ?_);rintro _ W1 ⟨rfl,hb1⟩;obtain⟨x0,x1,x2,x3,x4⟩:=Has2.keep (b:=w.heap.size) (x:=.int .u64 0) (y:=.int .u64 0) ⟨by go_simp,by go_simp,by go_simp,by go_simp,by go_size⟩ hb1;have HB:Below w.heap.size w W1:=later (by go_grown) hb1;clear hb1)
     | (go_at_call 94;(with_reducible refine (cn _).mono ?_);rintro _ W2 ⟨rfl,hb2⟩;obtain⟨y0,y1,y2,y3,y4⟩:=Has2.keep (b:=w.heap.size) (x:=.int .u64 0) (y:=.int .u64 0) ⟨by go_simp,by go_simp,by go_simp,by go_simp,by go_size⟩ hb2;obtain⟨z0,z1,z2,z3,z4⟩:=Has2.keep (b:=W1.heap.size) (x:=.int .u64 (h:Int)) (y:=.int .u64 (l:Int)) ⟨by go_simp,by go_simp,by go_simp,by go_simp,by go_size⟩ hb2;have HC:Below w.heap.size w W2:=later (later HB (by go_grown)) hb2;clear hb2))
   refine bodyPost_ret (v:=.agg #[.int .u64 (H:Int),.int .u64 (L:Int)]) (by simp [results,Try.results91,go_sem, *]) rfl ⟨rfl, ?_⟩
   have z5:w.heap.size≤W1.heap.size:=by omega
   repeat' (first | (with_reducible exact HC) | (with_reducible refine Below.setCell ?_ ?_ _) | go_size)
 · go_enter Try.func91,Try.ntmps91
   go_wp2_with (first
     | (go_at_call 54;(with_reducible refine (ca _).mono ?_);rintro _ _ ⟨rfl,rfl⟩)
     | (go_at_call 97;(with_reducible refine (cp _).mono ?_);rintro _ W1 ⟨rfl,hb1⟩;obtain⟨x0,x1,x2,x3,x4⟩:=Has2.keep (b:=w.heap.size) (x:=.int .u64 0) (y:=.int .u64 0) ⟨by go_simp,by go_simp,by go_simp,by go_simp,by go_size⟩ hb1;have HB:Below w.heap.size w W1:=later (by go_grown) hb1;clear hb1))
   refine bodyPost_ret (v:=.agg #[.int .u64 (h:Int),.int .u64 (l:Int)]) (by simp [results,Try.results91,go_sem, *]) rfl ⟨rfl, ?_⟩
   refine later (W0:=(W1.setCell ⟨w.heap.size,0,none⟩ (.int .u64 (h:Int))).setCell ⟨w.heap.size,1,none⟩ (.int .u64 (l:Int))) ?_ (by go_grown)
   repeat' (first | (with_reducible exact HB) | (with_reducible refine Below.setCell ?_ ?_ _) | go_size)
theorem wsgn_w (n:Int) (d H L:Nat) (h1:-9223372036854775808≤n) (h2:n≤9223372036854775807) (hd:d<18446744073709551616) (S:Sg H L (n*(d:Int))) (w:World) :
   Calls Try.prog 91 #[.int .i64 n,.int .u64 (d:Int)] w fun r w'=>r=.returned (.agg #[.int .u64 (H:Int),.int .u64 (L:Int)])∧Below w.heap.size w w':=by
 by_cases c:n<0
 · obtain⟨h,l,S1⟩:=sg_ex (((n.natAbs:Nat):Int)*(d:Int))
   refine wsgn_core n n.natAbs d h l H L (fun W=>ramount_w n h1 h2 W) (fun W=>wprod_w n.natAbs d h l (by omega) hd S1 W) (Or.inl ⟨c,fun W=>wneg_w h l H L S1 ?_ W⟩) w
   rw [←Int.neg_mul,show -((n.natAbs:Nat):Int)=n by omega]
   exact S
 · refine wsgn_core n n.natAbs d H L H L (fun W=>ramount_w n h1 h2 W) (fun W=>wprod_w n.natAbs d H L (by omega) hd ?_ W) (Or.inr ⟨c,rfl,rfl⟩) w
   rw [show ((n.natAbs:Nat):Int)=n by omega]
   exact S
theorem bit_of {l k:Nat} (hk:k<64):l*2^k%18446744073709551616/9223372036854775808=l/2^(64-(k+1))%2:=by
 have e:(9223372036854775808:Nat)=2^63:=by decide
 have e2:(18446744073709551616:Nat)=2^63*2:=by decide
 rw [e2,e,Nat.mod_mul_right_div_self]
 have:l*2^k/2^63=l/2^(64-(k+1)):=by
   have e3:(2:Nat)^63=2^(64-(k+1))*2^k:=by rw [←Nat.pow_add];congr 1;omega
   rw [e3,Nat.mul_div_mul_right _ _ (Nat.two_pow_pos k)]
 rw [this]
theorem half_of {l k:Nat} (hk:k<64):l/2^(64-k)=l/2^(64-(k+1))/2:=by
 rw [Nat.div_div_eq_div_mul,←Nat.pow_succ]
 congr 2
 omega
theorem twice_of {l k:Nat}:l*2^k%18446744073709551616*2%18446744073709551616=l*2^(k+1)%18446744073709551616:=by
 rw [Nat.mod_mul_mod,Nat.pow_succ,Nat.mul_assoc]
def ByI (h l d k r q a:Nat):Prop:=r<d∧a=l*2^k%18446744073709551616∧q<2^k∧h%d*2^k+l/2^(64-k)=q*d+r
theorem byI_start {h l d:Nat} (hd:0<d) (hl:l<18446744073709551616):ByI h l d 0 (h%d) 0 l:=by
 refine⟨Nat.mod_lt _ hd, ?_,by decide, ?_⟩
 · rw [Nat.pow_zero,Nat.mul_one,Nat.mod_eq_of_lt hl]
 · rw [Nat.pow_zero,Nat.mul_one,Nat.sub_zero,Nat.div_eq_of_lt (by simpa using hl)]
   omega
theorem byI_step {h l d k r q a:Nat} (hk:k<64) (H:ByI h l d k r q a):(d≤2*r+a/9223372036854775808→ByI h l d (k+1) (2*r+a/9223372036854775808-d) (2*q+1) (a*2%18446744073709551616)) ∧
   (¬d≤2*r+a/9223372036854775808→ByI h l d (k+1) (2*r+a/9223372036854775808) (2*q) (a*2%18446744073709551616)):=by
 obtain⟨h1,h2,h3,h4⟩:=H
 have b:=bit_of (l:=l) hk
 rw [←h2] at b
 have hf:=half_of (l:=l) hk
 have e:h%d*2^(k+1)+l/2^(64-(k+1))=2*(q*d+r)+a/9223372036854775808:=by
   rw [←h4,hf,b,Nat.pow_succ]
   generalize l/2^(64-(k+1))=x
   rw [←Nat.mul_assoc]
   generalize h%d*2^k=y
   omega
 have ha:a*2%18446744073709551616=l*2^(k+1)%18446744073709551616:=by rw [h2];exact twice_of
 have bb:a/9223372036854775808<2:=by rw [b];exact Nat.mod_lt _ (by omega)
 generalize a/9223372036854775808=t at *
 refine⟨fun c=>⟨by omega,ha,by rw [Nat.pow_succ];omega, ?_⟩,fun c=>⟨by omega,ha,by rw [Nat.pow_succ];omega, ?_⟩⟩
 · rw [e,Nat.add_mul,Nat.mul_assoc,Nat.one_mul]
   omega
 · rw [e,Nat.mul_assoc]
   omega
theorem byI_end {h l d r q a:Nat} (hd:0<d) (H:ByI h l d 64 r q a):q<18446744073709551616∧(h*18446744073709551616+l)/d=h/d*18446744073709551616+q∧(h*18446744073709551616+l)%d=r:=by
 obtain⟨h1,h2,h3,h4⟩:=H
 have e:(2:Nat)^64=18446744073709551616:=by decide
 rw [e] at h3 h4
 rw [Nat.sub_self,Nat.pow_zero,Nat.div_one] at h4
 refine⟨h3, ?_⟩
 have key:h*18446744073709551616+l=r+d*(h/d*18446744073709551616+q):=by
   have:=Nat.div_add_mod h d
   generalize h/d=x at *
   generalize h%d=y at *
   generalize 18446744073709551616=B at *
   subst this
   grind
 rw [key,Nat.add_mul_div_left _ _ hd,Nat.add_mul_mod_self_left,Nat.div_eq_of_lt h1,Nat.mod_eq_of_lt h1]
 simp
theorem or_two (r t:Nat) (hr:2*r+t<18446744073709551616) (ht:t<2):bits .or .u64 ((2*r:Nat):Int) (t:Int)=((2*r+t:Nat):Int):=by
 have e:2*r ||| t=2*r+t:=by
   have:=Nat.two_pow_add_eq_or_of_lt (i:=1) (b:=t) (by simpa using ht) r
   rw [show 2^1*r=2*r by omega] at this
   exact this.symm
 rw [u64_or_nat (2*r) t (by omega) (by omega),e]
theorem Has2.one {w:World} {b:Nat} {x y:Value} (h:Has2 w b x y) (y':Value):Has2 (w.setCell ⟨b,1,none⟩ y') b x y':=by
 obtain⟨h0,h1,f0,f1,hl⟩:=h
 refine⟨by go_simp,by go_simp,by go_simp,by go_simp, ?_⟩
 simp only [World.size_setCell];exact hl
theorem Has2.off1 {w:World} {b c o:Nat} {x y:Value} (h:Has2 w b x y) (hne:b≠c) (v:Value):Has2 (w.setCell ⟨c,o,none⟩ v) b x y:=by
 obtain⟨h0,h1,f0,f1,hl⟩:=h
 have hne':c≠b:=fun e=>hne e.symm
 refine⟨by simp [World.cell?_setCell_far, *],by simp [World.cell?_setCell_far, *],by go_simp,by go_simp, ?_⟩
 simp only [World.size_setCell];exact hl
set_option maxHeartbeats 2000000 in
theorem wby_0 (l d:Nat) (hl:l<18446744073709551616) (hd:0<d) (w:World) :
   Calls Try.prog 95 #[.agg #[.int .u64 ((0:Nat):Int),.int .u64 (l:Int)],.int .u64 (d:Int)] w fun r w'=>r=.returned (.tuple #[.agg #[.int .u64 ((0:Nat):Int),.int .u64 ((l/d:Nat):Int)],.int .u64 ((l%d:Nat):Int)])∧Below w.heap.size w w':=by
 have ed:¬(d:Int)=0:=by omega
 have e1:=quo_u64 l d
 have e2:=rem_u64 l d
 have h0:((0:Nat):Int)=0:=rfl
 rw [h0]
 obtain⟨q,hq⟩:∃x,x=l/d:=⟨_,rfl⟩
 obtain⟨r,hr⟩:∃x,x=l%d:=⟨_,rfl⟩
 rw [←hq] at e1 ⊢
 rw [←hr] at e2 ⊢
 have e3:IntKind.u64.wrap (q:Int)=(q:Int):=by rw [IntKind.wrap_u64,hq];have:=Nat.div_le_self l d;omega
 clear hq hr
 go_enter Try.func95,Try.ntmps95
 go_upto_region 2 with fail
 go_region
 go_wp2_with fail
 refine bodyPost_ret (v:=.tuple #[.agg #[.int .u64 0,.int .u64 (q:Int)],.int .u64 (r:Int)]) (by simp [results,Try.results95,go_sem, *]) rfl ⟨?_, ?_⟩
 · rfl
 · repeat' (first | go_grown | (with_reducible refine Below.setCell ?_ ?_ _) | go_size)
set_option maxHeartbeats 2000000 in
theorem wby_n (h l d H L:Nat) (h0:¬h=0) (hh:h<18446744073709551616) (hl:l<18446744073709551616) (hd:0<d) (hd2:d≤9223372036854775808) (S:Sg H L (((h*18446744073709551616+l)/d:Nat):Int)) (w:World) :
   Calls Try.prog 95 #[.agg #[.int .u64 (h:Int),.int .u64 (l:Int)],.int .u64 (d:Int)] w fun r w'=>r=.returned (.tuple #[.agg #[.int .u64 (H:Int),.int .u64 (L:Int)],.int .u64 (((h*18446744073709551616+l)%d:Nat):Int)])∧Below w.heap.size w w':=by
 have ed:¬(d:Int)=0:=by omega
 have hz:((h:Int)==0)=false:=by simp;omega
 have e1:=quo_u64 h d
 have e2:=rem_u64 h d
 have H0:Hid (ByI h l d 0 (h%d) 0 l):=byI_start hd hl
 obtain⟨qh,hqh⟩:∃x,x=h/d:=⟨_,rfl⟩
 obtain⟨r0,hr0⟩:∃x,x=h%d:=⟨_,rfl⟩
 have HE:Hid (∀r q a,ByI h l d 64 r q a→H=qh∧L=q∧(h*18446744073709551616+l)%d=r):=by
   intro r q a B
   obtain⟨b1,b2,b3⟩:=byI_end hd B
   have u:=S.uniq (h':=h/d) (l':=q) ⟨Nat.lt_of_le_of_lt (Nat.div_le_self _ _) hh,b1,by
     rw [b2]
     have:h/d<18446744073709551616:=Nat.lt_of_le_of_lt (Nat.div_le_self _ _) hh
     omega⟩
   exact⟨u.1.trans hqh.symm,u.2,b3⟩
 rw [←hqh] at e1
 rw [←hr0] at e2 H0
 have e3:IntKind.u64.wrap (qh:Int)=(qh:Int):=by rw [IntKind.wrap_u64,hqh];have:=Nat.div_le_self h d;omega
 clear S hqh hr0 hh hl h0
 go_enter Try.func95,Try.ntmps95
 go_upto_region 3 with fail
 go_region
 go_upto_region 5 with fail
 have X:Has2 ((w.alloc (.cells #[.int .u64 (h:Int),.int .u64 (l:Int)] 133)).alloc (.cells #[.int .u64 (qh:Int),.int .u64 0] 133)).drew w.heap.size (.int .u64 (h:Int)) (.int .u64 (l:Int)):=⟨by go_simp,by go_simp,by go_simp,by go_simp,by go_size⟩
 have Y:Has2 ((w.alloc (.cells #[.int .u64 (h:Int),.int .u64 (l:Int)] 133)).alloc (.cells #[.int .u64 (qh:Int),.int .u64 0] 133)).drew (w.heap.size+1) (.int .u64 (qh:Int)) (.int .u64 0):=⟨by go_simp,by go_simp,by go_simp,by go_simp,by go_size⟩
 have HB:Below w.heap.size w ((w.alloc (.cells #[.int .u64 (h:Int),.int .u64 (l:Int)] 133)).alloc (.cells #[.int .u64 (qh:Int),.int .u64 0] 133)).drew:=by go_grown
 generalize ((w.alloc (.cells #[.int .u64 (h:Int),.int .u64 (l:Int)] 133)).alloc (.cells #[.int .u64 (qh:Int),.int .u64 0] 133)).drew=V1 at *
 clear e1 e2 e3 ed hz
 go_loopg [5,27] (64:Nat) (fun G s5 s27 wx=>∃(k r q a:Nat),s5=.int .u64 (r:Int)∧s27=.int .i64 (k:Int)∧k≤64∧64≤k+G∧Below w.heap.size w wx∧Has2 wx w.heap.size (.int .u64 (h:Int)) (.int .u64 (a:Int))∧Has2 wx (w.heap.size+1) (.int .u64 (qh:Int)) (.int .u64 (q:Int))∧Hid (ByI h l d k r q a))
 case atStart=>exact⟨0,r0,0,l,rfl,rfl,by omega,by omega,HB,X,Y,H0⟩
 case round =>
   clear X Y HB H0
   obtain⟨k,r,q,a,rfl,rfl,hk,hG,HB,X,Y,HI⟩:=hrel
   obtain⟨x0,x1,x2,x3,x4⟩:=id X
   obtain⟨y0,y1,y2,y3,y4⟩:=id Y
   by_cases c:k=64
   · subst c
     obtain⟨v1,v2,v3⟩:=HE.out r q a HI.out
     have FE:Hid (H=qh∧L=q∧(h*18446744073709551616+l)%d=r):=⟨v1,v2,v3⟩
     clear v1 v2 v3 HE HI
     go_wp2_with fail
     refine bodyPost_ret (v:=.tuple #[.agg #[.int .u64 (qh:Int),.int .u64 (q:Int)],.int .u64 (r:Int)]) (by simp [results,Try.results95,go_sem, *]) rfl ⟨?_, ?_⟩
     · rw [FE.out.1,FE.out.2.1,FE.out.2.2]
     · repeat' (first | (with_reducible exact HB) | (with_reducible refine Below.setCell ?_ ?_ _) | go_size)
   · have kl:(k:Int)<64:=by omega
     obtain⟨s1,s2⟩:=byI_step (show k<64 by omega) HI.out
     have hrd:=HI.out.1
     have hq:q<9223372036854775808:=by
       have h1:=HI.out.2.2.1
       have:(2:Nat)^k≤2^63:=Nat.pow_le_pow_right (by omega) (by omega)
       have e:(2:Nat)^63=9223372036854775808:=by decide
       omega
     have ha:a<18446744073709551616:=by
       have h1:=HI.out.2.1
       have:=Nat.mod_lt (l*2^k) (show 0<18446744073709551616 by decide)
       omega
     obtain⟨t,ht⟩:∃t,t=a/9223372036854775808:=⟨_,rfl⟩
     obtain⟨a',ha'⟩:∃t,t=a*2%18446744073709551616:=⟨_,rfl⟩
     have t2:t<2:=by omega
     rw [←ht,←ha'] at s1 s2
     have f1:IntKind.u64.wrap ((r:Int)*2)=((2*r:Nat):Int):=by rw [IntKind.wrap_u64];omega
     have f2:(a:Int)/9223372036854775808=(t:Int):=by omega
     have f3:=or_two r t (by omega) t2
     have f4:IntKind.u64.wrap ((a:Int)*2)=(a':Int):=by rw [IntKind.wrap_u64];omega
     have f5:IntKind.u64.wrap ((q:Int)*2)=((2*q:Nat):Int):=by rw [IntKind.wrap_u64];omega
     have f6:=or_two q 1 (by omega) (by omega)
     have f7:((1:Nat):Int)=1:=rfl
     rw [f7] at f6
     have b3:2*r+t<18446744073709551616:=by omega
     clear f7 ht ha' HI HE
     generalize 2*r+t=R at *
     generalize 2*r=r2 at *
     generalize 2*q+1=q3 at *
     generalize 2*q=q2 at *
     by_cases cd:d≤R
     · have HN:Hid (ByI h l d (k+1) (R-d) q3 a'):=s1 cd
       have cd':(d:Int)≤(R:Int):=by omega
       have f8:IntKind.u64.wrap ((R:Int)-(d:Int))=((R-d:Nat):Int):=by rw [IntKind.wrap_u64];omega
       have nn:k+1≤64:=by omega
       clear s1 s2 cd hq ha hrd t2
       generalize R-d=R2 at *
       go_wp2_with fail
       (go_roundg (gk-1)
        case measure=>omega
        case rel=>exact⟨k+1,R2,q3,a',rfl,congrArg (Value.int .i64) (show (k:Int)+1=((k+1:Nat):Int) by omega),nn,by omega,by (repeat' (first | (with_reducible exact HB) | (with_reducible refine Below.setCell ?_ ?_ _) | go_size)),((X.one _).off1 (by omega) _).off1 (by omega) _,((Y.off1 (by omega) _).one _).one _,HN⟩)
     · have HN:Hid (ByI h l d (k+1) R q2 a'):=s2 cd
       have cd':¬(d:Int)≤(R:Int):=by omega
       have nn:k+1≤64:=by omega
       clear s1 s2 cd hq ha hrd t2
       go_wp2_with fail
       (go_roundg (gk-1)
        case measure=>omega
        case rel=>exact⟨k+1,R,q2,a',rfl,congrArg (Value.int .i64) (show (k:Int)+1=((k+1:Nat):Int) by omega),nn,by omega,by (repeat' (first | (with_reducible exact HB) | (with_reducible refine Below.setCell ?_ ?_ _) | go_size)),(X.one _).off1 (by omega) _,(Y.off1 (by omega) _).one _,HN⟩)
theorem wby_w (h l d H L:Nat) (hh:h<18446744073709551616) (hl:l<18446744073709551616) (hd:0<d) (hd2:d≤9223372036854775808) (S:Sg H L (((h*18446744073709551616+l)/d:Nat):Int)) (w:World) :
   Calls Try.prog 95 #[.agg #[.int .u64 (h:Int),.int .u64 (l:Int)],.int .u64 (d:Int)] w fun r w'=>r=.returned (.tuple #[.agg #[.int .u64 (H:Int),.int .u64 (L:Int)],.int .u64 (((h*18446744073709551616+l)%d:Nat):Int)])∧Below w.heap.size w w':=by
 by_cases h0:h=0
 · subst h0
   rw [Nat.zero_mul,Nat.zero_add] at S ⊢
   have q:l/d<18446744073709551616:=Nat.lt_of_le_of_lt (Nat.div_le_self _ _) hl
   have u:=S.uniq (h':=0) (l':=l/d) ⟨by decide,q,by generalize l/d=x at q ⊢;omega⟩
   rw [u.1,u.2]
   exact wby_0 l d hl hd w
 · exact wby_n h l d H L h0 hh hl hd hd2 S w
end Go.Proofs.Ytbejmklkicoibaa
