/- The walks of counted, Hull and Meet. The walks of Meet, of the laws' hull, and of Add and Mul with an interval that holds nothing. Plain facts: hulls hold both, meets lie in both and hold just what both hold. What is taken off itself holds nought, what is divided by itself one; negatives twice; the least amount is not above the greatest. A region that draws its order, whose callees make memory of their own but change none: one walk, in the text's order, over all worlds that are as the first one was below its end. The walk of the statement IvalLattice: its two variables. IvalLattice: for every two intervals and every float64 the statement's answer is true. A region that draws the order of its first operations, all of them quiet over a class of worlds, and then has others one by one: the first ones are walked once, in the text's order. -/
import Derived.Test.YtdnpoacjamkhkaaJb06
import Derived.Test.YtdnpoacjamkhkaaJb07
import Derived.Test.YtdnpoacjamkhkaaJb09
import Derived.Test.YtdnpoacjamkhkaaJb03
import Derived.BigQuiet
import Derived.Deep.RegionWith
import Derived.Test.YtdnpoacjamkhkaaJb05
import Derived.Deep.Quiet
import Derived.StillTail
namespace Go.Proofs.Ytdnpoacjamkhkaa
open Go.ChangeShapes Go.WideShapes Go.ChangeAt Go.RowKit
theorem Has2.put {w:World} {b:Nat} {x y:Value} (h:Has2 w b x y) (x' y':Value):Has2 ((w.setCell ⟨b,0,none⟩ x').setCell ⟨b,1,none⟩ y') b x' y':=by
 obtain⟨h0,h1,f0,f1,hl⟩:=h
 refine⟨by go_simp,by go_simp,by go_simp,by go_simp, ?_⟩
 simp only [World.size_setCell];exact hl
theorem Has2.far {w:World} {b c:Nat} {x y:Value} (h:Has2 w b x y) (hne:c≠b) (x' y':Value):Has2 ((w.setCell ⟨c,0,none⟩ x').setCell ⟨c,1,none⟩ y') b x y:=by
 obtain⟨h0,h1,f0,f1,hl⟩:=h
 have hne':b≠c:=fun e=>hne e.symm
 refine⟨by simp [World.cell?_setCell_far, *],by simp [World.cell?_setCell_far, *],by go_simp,by go_simp, ?_⟩
 simp only [World.size_setCell];exact hl
set_option maxHeartbeats 1000000 in
theorem add_none (xl xh yl yh:Nat) (h1:xl<18446744073709551616) (h2:xh<18446744073709551616) (h3:yl<18446744073709551616) (h4:yh<18446744073709551616) (hs:(hsB xl xh&&hsB yl yh)=false) (w:World) :
   Calls Try.prog 28 #[.agg #[.float .f64 xl,.float .f64 xh],.agg #[.float .f64 yl,.float .f64 yh]] w fun e w'=>e=.returned (.agg #[.float .f64 (infI 1),.float .f64 (infI (-1))])∧Below w.heap.size w w':=by
 have c1:=fun b W hlt c0 c1 c2 c3=>someEmpty2_w b xl xh yl yh h1 h2 h3 h4 W hlt c0 c1 c2 c3
 rw [hs] at c1
 clear hs h1 h2 h3 h4
 go_enter Try.func28,Try.ntmps28
 go_wp2_with (first
   | (go_at_call 58;refine (c1 (w.heap.size+1+1+1) _ (by go_size) (by go_simp) (by go_simp) (by go_simp) (by go_simp)).mono ?_;rintro _ w1 ⟨rfl,hb1⟩
      have R:Has2 w1 (w.heap.size+1+1) (.float .f64 0) (.float .f64 0):=Has2.keep ⟨by go_simp,by go_simp,by go_simp,by go_simp,by go_size⟩ hb1
      have HB:Below w.heap.size w w1:=later (by go_grown) hb1)
   | (go_at_call 59;refine (empty_w _).mono ?_;rintro _ w2 ⟨rfl,hb2⟩;replace HB:=later HB hb2;obtain⟨d0,d1,d2,d3,d4⟩:=R.keep hb2))
 refine bodyPost_ret (v:=.agg #[.float .f64 (infI 1),.float .f64 (infI (-1))]) (by simp [results,Try.results28,go_sem, *]) rfl ⟨rfl, ?_⟩
 repeat' (first | (with_reducible exact HB) | (with_reducible refine Below.setCell ?_ ?_ _) | go_size)
set_option maxHeartbeats 1000000 in
theorem mul_none (xl xh yl yh:Nat) (h1:xl<18446744073709551616) (h2:xh<18446744073709551616) (h3:yl<18446744073709551616) (h4:yh<18446744073709551616) (hs:(hsB xl xh&&hsB yl yh)=false) (w:World) :
   Calls Try.prog 29 #[.agg #[.float .f64 xl,.float .f64 xh],.agg #[.float .f64 yl,.float .f64 yh]] w fun e w'=>e=.returned (.agg #[.float .f64 (infI 1),.float .f64 (infI (-1))])∧Below w.heap.size w w':=by
 have c1:=fun b W hlt c0 c1 c2 c3=>someEmpty2_w b xl xh yl yh h1 h2 h3 h4 W hlt c0 c1 c2 c3
 rw [hs] at c1
 clear hs h1 h2 h3 h4
 go_enter Try.func29,Try.ntmps29
 go_wp2_with (first
   | (go_at_call 58;refine (c1 (w.heap.size+1+1+1) _ (by go_size) (by go_simp) (by go_simp) (by go_simp) (by go_simp)).mono ?_;rintro _ w1 ⟨rfl,hb1⟩
      have R:Has2 w1 (w.heap.size+1+1) (.float .f64 0) (.float .f64 0):=Has2.keep ⟨by go_simp,by go_simp,by go_simp,by go_simp,by go_size⟩ hb1
      have HB:Below w.heap.size w w1:=later (by go_grown) hb1)
   | (go_at_call 59;refine (empty_w _).mono ?_;rintro _ w2 ⟨rfl,hb2⟩;replace HB:=later HB hb2;obtain⟨d0,d1,d2,d3,d4⟩:=R.keep hb2))
 refine bodyPost_ret (v:=.agg #[.float .f64 (infI 1),.float .f64 (infI (-1))]) (by simp [results,Try.results29,go_sem, *]) rfl ⟨rfl, ?_⟩
 repeat' (first | (with_reducible exact HB) | (with_reducible refine Below.setCell ?_ ?_ _) | go_size)
theorem pick_nan {z a b:Nat} (h:z=a∨z=b) (ha:nanB a=false) (hb:nanB b=false):nanB z=false:=by
 rcases h with rfl | rfl
 · exact ha
 · exact hb
theorem pick_ne {z a b:Nat} (h:z=a∨z=b) (ha:a≠9223372036854775808) (hb:b≠9223372036854775808):z≠9223372036854775808:=by
 rcases h with rfl | rfl
 · exact ha
 · exact hb
structure Some2 (lo hi:Nat):Prop where
 nl:nanB lo=false
 nh:nanB hi=false
 le:key lo≤key hi
 lt:key lo<9218868437227405312
 gt:-9218868437227405312<key hi
 zl:lo≠9223372036854775808
 zh:hi≠9223372036854775808
theorem hs_iff {lo hi:Nat}:hsB lo hi=true↔Some2 lo hi:=by
 unfold hsB mz
 simp only [Bool.and_eq_true,Bool.not_eq_true',decide_eq_true_eq,decide_eq_false_iff_not]
 constructor
 · rintro ⟨⟨⟨⟨⟨⟨a,b⟩,c⟩,d⟩,e⟩,f⟩,g⟩
   exact⟨a,b,c,d,e,f,g⟩
 · rintro ⟨a,b,c,d,e,f,g⟩
   exact⟨⟨⟨⟨⟨⟨a,b⟩,c⟩,d⟩,e⟩,f⟩,g⟩
theorem le_iff {a b:Nat}:leB a b=true↔nanB a=false∧nanB b=false∧key a≤key b:=by
 unfold leB
 simp only [Bool.and_eq_true,Bool.not_eq_true',decide_eq_true_eq]
 constructor
 · rintro ⟨⟨a,b⟩,c⟩;exact⟨a,b,c⟩
 · rintro ⟨a,b,c⟩;exact⟨⟨a,b⟩,c⟩
theorem inside_iff {xl xh yl yh:Nat}:insideB xl xh yl yh=true↔(Some2 xl xh→Some2 yl yh∧key yl≤key xl∧key xh≤key yh):=by
 unfold insideB
 cases h:hsB xl xh
 · simp only [Bool.not_false,Bool.true_or,true_iff]
   intro s
   rw [hs_iff.2 s] at h
   cases h
 · have X:=hs_iff.1 h
   simp only [Bool.not_true,Bool.false_or,Bool.and_eq_true,hs_iff,le_iff]
   constructor
   · rintro ⟨⟨a,b⟩,c⟩ _
     exact⟨a,b.2.2,c.2.2⟩
   · intro f
     obtain⟨a,b,c⟩:=f X
     exact⟨⟨a,a.nl,X.nl,b⟩,X.nh,a.nh,c⟩
theorem not_some_empty:¬Some2 (infI 1) (infI (-1)):=fun s=>by have:=s.lt;rw [key_up] at this;omega
theorem held_at {lo hi v:Nat} (hl:lo<18446744073709551616) (hh:hi<18446744073709551616) (hv:v<18446744073709551616) (S:Some2 lo hi) (fv:finB v=true) (k1:key lo≤key v) (k2:key v≤key hi):Held lo hi v :=
 ⟨hl,hh,hv,S.nl,S.nh,fv,k1,k2,S.zl,S.zh,hs_iff.2 S⟩
theorem held_some {lo hi:Nat} (hl:lo<18446744073709551616) (hh:hi<18446744073709551616) (S:Some2 lo hi):∃a,Held lo hi a:=by
 cases f1:finB lo
 · cases f2:finB hi
   · refine⟨0,held_at hl hh (by omega) S (by decide) ?_ ?_⟩
     · have k0:key 0=0:=rfl
       rw [k0]
       have:=S.lt
       rcases (key_inf hl S.nl).1 f1 with c | c <;> omega
     · have k0:key 0=0:=rfl
       rw [k0]
       have:=S.gt
       rcases (key_inf hh S.nh).1 f2 with c | c <;> omega
   · exact⟨hi,held_at hl hh hh S f2 S.le (Int.le_refl _)⟩
 · exact⟨lo,held_at hl hh hl S f1 (Int.le_refl _) S.le⟩
theorem addR_nz {a b r:Nat} {d:Int} (h:addR a b d=some r):r≠9223372036854775808:=by
 unfold addR at h
 split at h
 · cases h
 · split at h
   · injection h with h
     rw [←h]
     exact (addF_facts a b d).2.1
   · rename_i nf
     split at h
     · cases h
     · injection h with h
       rw [←h]
       cases fa:finB a
       · simp only [Bool.false_eq_true,if_false]
         exact inf_ne fa
       · simp only [if_true]
         refine inf_ne ?_
         cases fb:finB b
         · rfl
         · rw [fa,fb] at nf;exact absurd rfl nf
structure Behind (w0:World) where
 W:World
 bel:Below w0.heap.size w0 W
instance (w0:World):Nonempty (Behind w0):=⟨⟨w0,Below.refl _ _⟩⟩
theorem region_behind {P:Program} {id:Nat} {Q:Exit→Act→World→Prop} {a:Act} {w:World} {l:List Oper} (hm:P.follows .mixedOrders=true) (hB:Region.lexB .any l.toArray=true)
   (h:wpQuiet P l.toArray (fun w'=>∃n:Behind w,w'=n.W) (fun a'=>∀w',(∃n:Behind w,w'=n.W)→Q .normal a' w') l a):(Code.region id l.toArray true).wp P Q a w :=
 wp_region_quiet (C:=fun w'=>∃n:Behind w,w'=n.W) hm hB ⟨⟨w.drew,(Below.refl _ _).drew⟩,rfl⟩ (by simpa using h)
theorem Behind.call {P:Program} {f:FuncId} {args:Array Value} {w0:World} {n:Behind w0} {v:Value} (h:Calls P f args n.W fun e w'=>e=.returned v∧Below n.W.heap.size n.W w') :
   Calls P f args n.W fun e w''=>e=.returned v∧∃m:Behind w0,w''=m.W :=
 h.mono fun _ w' ⟨a,b⟩=>⟨a,⟨⟨w',later n.bel b⟩,rfl⟩⟩
theorem Behind.same {P:Program} {f:FuncId} {args:Array Value} {w0:World} {n:Behind w0} {v:Value} (h:Calls P f args n.W fun e w'=>e=.returned v∧n.W=w') :
   Calls P f args n.W fun e w''=>e=.returned v∧∃m:Behind w0,w''=m.W :=
 h.mono fun _ _ ⟨a,b⟩=>⟨a,⟨n,b.symm⟩⟩
theorem Behind.cell {w0:World} (n:Behind w0) {b o:Nat} {v:Value} (h:w0.cell? ⟨b,o,none⟩=some v) (hl:b<w0.heap.size):n.W.cell? ⟨b,o,none⟩=some v:=keepsC n.bel h hl
theorem Has2.c0 {w:World} {b:Nat} {x y:Value} (h:Has2 w b x y):w.cell? ⟨b,0,none⟩=some x:=h.1
theorem Has2.c1 {w:World} {b:Nat} {x y:Value} (h:Has2 w b x y):w.cell? ⟨b,1,none⟩=some y:=h.2.1
theorem below_alloc {w W:World} (h:Below w.heap.size w W) (o:Obj):Below w.heap.size w (W.alloc o):=h.alloc h.size o
theorem has2_new (w:World) (x y:Value) (T:TypeId):Has2 (w.alloc (.cells #[x,y] T)) w.heap.size x y:=⟨by go_simp,by go_simp,by go_simp,by go_simp,by go_size⟩
theorem pick_lt {z a b:Nat} (h:z=a∨z=b) (ha:a<18446744073709551616) (hb:b<18446744073709551616):z<18446744073709551616:=by
 rcases h with h | h <;> rw [h] <;> assumption
section
variable {P:Program} {ops hd:Array Oper} {C:World→Prop}
theorem any_more {md:Region.Mode} {Q:Exit→Act→World→Prop}:∀(f:Nat) (listed:Array Bool) (a:Act) (w:World),wpAny P md ops Q f listed a w→wpAny P md ops Q (f+1) listed a w
 | 0,_,_,_,h=>⟨fun _=>h.2,fun i hi=>by rw [h.1] at hi;cases hi⟩
 | f+1,_,_,_,h=>⟨h.1,fun i hi=>wpOp_mono (fun a' w' h'=>any_more f _ a' w' h') (h.2 i hi)⟩
theorem any_more' {md:Region.Mode} {Q:Exit→Act→World→Prop} {g:Nat} {listed:Array Bool} {a:Act} {w:World} (h:wpAny P md ops Q g listed a w):∀f,wpAny P md ops Q (f+g) listed a w
 | 0=>by rw [Nat.zero_add];exact h
 | f+1=>by rw [show f+1+g=(f+g)+1 by omega];exact any_more _ _ _ _ (any_more' h f)
structure Heads (md:Region.Mode) (ops hd:Array Oper) (n:Nat):Prop where
 size:hd.size=n
 lt:n<ops.size
 same:∀j,j<n→hd[j]?=ops[j]?
 low:∀j o,j<n→ops[j]?=some o→∀e∈o.after,Region.binds md e=true→e.on<j
 guard:∀j o k b,j<n→ops[j]?=some o→o.guard=some (k,b)→k<n
theorem head_wanted {md:Region.Mode} {n j:Nat} {o:Oper} (H:Heads md ops hd n) (hj:j<n) (ho:ops[j]?=some o) (t:Array Value):Region.wanted o (yielded hd t)=Region.wanted o (yielded ops t):=by
 unfold Region.wanted
 cases hg:o.guard with
 | none=>rfl
 | some p =>
   obtain⟨k,b⟩:=p
   have hk:=H.guard j o k b hj ho hg
   have e:=H.same k hk
   simp only [yielded,e]
theorem getD_any {l:Array Bool} {i:Nat} (hi:i<l.size) (b c:Bool):l.getD i b=l.getD i c:=by
 simp [hi]
theorem head_q {md:Region.Mode} {n j:Nat} (H:Heads md ops hd n) (hj:j<n) {K:Act→Prop} {a:Act} (h:qOp P hd C j K a):qOp P ops C j K a:=by
 have e:=H.same j hj
 unfold qOp at h ⊢
 rw [e] at h
 cases ho:ops[j]? with
 | none=>rw [ho] at h;exact h
 | some o =>
   rw [ho] at h
   simp only at h ⊢
   rw [head_wanted H hj ho] at h
   exact h
theorem head_split {md:Region.Mode} {n g:Nat} {Q:Exit→Act→World→Prop} {Qh:Act→Prop} (H:Heads md ops hd n) (hs:Region.sinkB md ops n=true) (hc:Region.chainB md ops n=true)
   (hT:∀listed a w,HeadInv md ops n listed→(∀j,j<n→listed.getD j true=true)→C w→Qh a→wpAny P md ops Q g listed a w) :
   ∀(f:Nat) (lh listed:Array Bool) (a:Act) (w:World),HeadInv md ops n listed→lh.size=n→(∀j,j<n→lh.getD j true=listed.getD j true)→C w→wpAnyQ P md hd C Qh f lh a→wpAny P md ops Q (f+g) listed a w:=by
 have up:∀(lh listed:Array Bool),HeadInv md ops n listed→lh.size=n→(∀j,j<n→lh.getD j true=listed.getD j true)→∀j,j<n→(j∈Region.ready md hd lh↔j∈Region.ready md ops listed):=fun lh listed inv hsz ag j hj=>by
   have hn:=H.lt
   rw [mem_ready,mem_ready,ag j hj,H.same j hj]
   have key:∀o,ops[j]?=some o→∀e∈o.after,Region.binds md e=true→lh.getD e.on false=listed.getD e.on false:=fun o ho e he hb=>by
     have hl:=H.low j o hj ho e he hb
     rw [getD_any (l:=lh) (by omega) false true,getD_any (l:=listed) (by rw [inv.size];omega) false true]
     exact ag e.on (by omega)
   refine and_congr_right fun _=>⟨fun ⟨o,ho,h⟩=>⟨o,ho,fun e he hb=>?_⟩,fun ⟨o,ho,h⟩=>⟨o,ho,fun e he hb=>?_⟩⟩
   · rw [←key o ho e he hb];exact h e he hb
   · rw [key o ho e he hb];exact h e he hb
 have full:∀(lh listed:Array Bool),HeadInv md ops n listed→lh.size=n→(∀j,j<n→lh.getD j true=listed.getD j true)→Region.ready md hd lh=[]→∀j,j<n→listed.getD j true=true:=fun lh listed inv hsz ag hr j=>by
   induction j using Nat.strongRecOn with
   | _ j ih =>
     intro hj
     cases hl:listed.getD j true with
     | true=>rfl
     | false =>
       have hn:=H.lt
       have:j∈Region.ready md hd lh:=by
         rw [up lh listed inv hsz ag j hj,mem_ready]
         refine⟨hl,ops[j]'(by omega),by simp,fun e he hb=>?_⟩
         have lw:=H.low j (ops[j]'(by omega)) hj (by simp) e he hb
         rw [getD_any (l:=listed) (by rw [inv.size];omega) false true]
         exact ih e.on lw (by omega)
       rw [hr] at this
       cases this
 intro f
 induction f with
 | zero =>
   intro lh listed a w inv hsz ag hC h
   rw [Nat.zero_add]
   exact hT listed a w inv (full lh listed inv hsz ag h.1) hC h.2
 | succ f ih =>
   intro lh listed a w inv hsz ag hC h
   by_cases hr:Region.ready md hd lh=[]
   · exact any_more' (hT listed a w inv (full lh listed inv hsz ag hr) hC (h.1 hr)) _
   · obtain⟨i,hi⟩:=List.exists_mem_of_ne_nil _ hr
     have hin:i<n:=by
       obtain⟨_,o,ho,_⟩:=mem_ready.1 hi
       have:=(Array.getElem?_eq_some_iff.1 ho).1
       rw [H.size] at this
       exact this
     have hi':=(up lh listed inv hsz ag i hin).1 hi
     rw [show f+1+g=(f+g)+1 by omega]
     refine⟨fun h0=>(by rw [h0] at hi';cases hi'),fun j hj=>?_⟩
     have hjn:j<n:=by
       rcases Nat.lt_or_ge j n with c | c
       · exact c
       · exact absurd hj (tail_waits hs hc H.lt inv _ i rfl hin (mem_ready.1 hi').1 j c)
     refine wpOp_of_qOp hC (fun a' w' hw' hK=>ih (lh.setIfInBounds j true) (listed.setIfInBounds j true) a' w' (inv.set hj hjn) (by simp [hsz]) (fun k hk=>?_) hw' hK) (head_q H hjn (h.2 j ((up lh listed inv hsz ag j hjn).2 hj)))
     by_cases hjk:j=k
     · subst hjk
       have:=H.lt
       simp [hsz,hk,inv.size,show j<ops.size by omega]
     · rw [Go.getD_set_ne true hjk,Go.getD_set_ne true hjk]
       exact ag k hk
def lowB (l:List Oper) (n:Nat):Bool:=(List.range n).all fun j=>match l[j]? with
 | some o=>(o.after.all fun e=>!Region.binds .any e || decide (e.on<j))&&(match o.guard with | some (k,_)=>decide (k<n) | none=>true)
 | none=>true
def tailB (l:List Oper) (n:Nat):Bool:=Region.lexB .any (l.take n).toArray&&decide (n<l.length)&&Region.sinkB .any l.toArray n&&Region.chainB .any l.toArray n&&lowB l n&&Region.seqB .any l.toArray (l.length-n) n (List.replicate n true++List.replicate (l.length-n) false).toArray
theorem heads_of {l:List Oper} {n:Nat} (hn:n<l.length) (h:lowB l n=true):Heads .any l.toArray (l.take n).toArray n:=by
 have g:∀j o,j<n→l.toArray[j]?=some o→(o.after.all fun e=>!Region.binds .any e || decide (e.on<j))=true∧(match o.guard with | some (k,_)=>decide (k<n) | none=>true)=true:=fun j o hj ho=>by
   have h1:=List.all_eq_true.1 h j (List.mem_range.2 hj)
   have ho':l[j]?=some o:=by simpa using ho
   rw [ho'] at h1
   exact Bool.and_eq_true_iff.1 h1
 refine⟨by simp;omega,by simpa using hn,fun j hj=>by simp [hj],fun j o hj ho e he hb=>?_,fun j o k b hj ho hg=>?_⟩
 · have h2:=Array.all_eq_true_iff_forall_mem.1 (g j o hj ho).1 e he
   rw [hb] at h2
   simpa using h2
 · have h2:=(g j o hj ho).2
   rw [hg] at h2
   simpa using h2
theorem region_tail {id:Nat} {Q:Exit→Act→World→Prop} {a:Act} {w:World} {l:List Oper} (n:Nat) (hm:P.follows .mixedOrders=true) (hB:tailB l n=true) (hC:C w.drew)
   (h:wpQuiet P (l.take n).toArray C (fun a'=>∀w',C w'→wpList P l.toArray Q (l.drop n) a' w') (l.take n) a):(Code.region id l.toArray true).wp P Q a w:=by
 simp only [tailB,Bool.and_eq_true,decide_eq_true_eq] at hB
 obtain⟨⟨⟨⟨⟨hlex,hn⟩,hs⟩,hc⟩,hlow⟩,hseq⟩:=hB
 have H:=heads_of hn hlow
 simp only [Region.lexB,Bool.and_eq_true] at hlex
 have hl:(l.take n).length=n:=by simp;omega
 have q:=wpAnyQ_lex (P:=P) (C:=C) (md:=.any) hlex.1 (l.take n) 0 (Array.replicate (l.take n).toArray.size false) a (by simp) (by simpa using hlex.2) h
 refine wp_region_any hm ?_
 have:=head_split (P:=P) (C:=C) (Q:=Q) (g:=l.length-n) H hs hc (fun listed a' w' inv full hw' hq=>by
   have e:listed=(List.replicate n true++List.replicate (l.length-n) false).toArray:=by
     have sz:=inv.size
     refine Array.ext (by simp [sz];omega) fun i h1 h2=>?_
     have hi:i<l.length:=by rw [sz] at h1;simpa using h1
     rcases Nat.lt_or_ge i n with c | c
     · have:=full i c
       simp [h1] at this
       simp [this,c]
     · have:=inv.tail i c (by simpa using hi)
       simp [h1] at this
       rw [this]
       simp [c]
   have s:=wpAny_of_seq (P:=P) (md:=.any) (Q':=Q) (l.drop n) n listed a' w' (fun j=>by simp [List.getElem?_drop]) (by rw [e,List.length_drop];exact hseq) (hq w' hw')
   rwa [List.length_drop] at s) (l.take n).length (Array.replicate (l.take n).toArray.size false) (Array.replicate l.toArray.size false) a w.drew
   ⟨by simp,fun j oj _ hl=>(by rw [getD_replicate_false] at hl;cases hl),fun t _ ht=>getD_in (by simpa using ht) (getD_replicate_false _ _)⟩ (by simp;omega) (fun j hj=>?_) hC q
 · rw [hl,show n+(l.length-n)=l.toArray.size by simp;omega] at this
   exact this
 · have hj':j<l.length:=by omega
   have hm':min n l.length=n:=by omega
   simp [hm',hj,hj']
theorem tail_behind {id:Nat} {Q:Exit→Act→World→Prop} {a:Act} {w:World} {l:List Oper} (n:Nat) (hm:P.follows .mixedOrders=true) (hB:tailB l n=true)
   (h:wpQuiet P (l.take n).toArray (fun w'=>∃n:Behind w,w'=n.W) (fun a'=>∀w',(∃n:Behind w,w'=n.W)→wpList P l.toArray Q (l.drop n) a' w') (l.take n) a):(Code.region id l.toArray true).wp P Q a w :=
 region_tail (C:=fun w'=>∃n:Behind w,w'=n.W) n hm hB ⟨⟨w.drew,(Below.refl _ _).drew⟩,rfl⟩ h
end
end Go.Proofs.Ytdnpoacjamkhkaa
