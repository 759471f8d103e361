/- Tapes: which operations may be, as the program tells. Trimming: rows of whole numbers and of truths in blocks of the call's own; what is needed, and where it stands now: the plain facts. Trimming: what is needed, and where it stands now: the plain facts, and the program's small functions. Which graphs may be (unit.graphRight, allBelow). Factors as they lie in memory; a slice of them that a call makes. unit.merged: the factors of a b^p. unit.merged, gone through. Products of dimensions and unknowns, as values and boxes; unit.ofKnown, ofUnknown. -/
import Derived.Test.YtbejmklkicoibaaKd05
import Derived.Handy
import Derived.WideKeyRuns
import Derived.Deep.AppendLies
import Derived.OwnWalk
import Derived.Test.YtbejmklkicoibaaKd04
import Derived.Deep.RegionLaw
import Derived.Deep.RegionHeld3
import Derived.BigQuiet
namespace Go.Proofs.Ytbejmklkicoibaa
open Go.ChangeShapes Go.WideShapes Go.ChangeAt Go.RowKit
theorem all_upto2 {p:Nat→Bool} {n:Nat}:(List.range n).all p=true↔∀i,i<n→p i=true:=by
 rw [List.all_eq_true]
 exact⟨fun h i hi=>h i (List.mem_range.2 hi),fun h i hi=>h i (List.mem_range.1 hi)⟩
theorem all_not2 {p:Nat→Bool} {n i:Nat} (hi:i<n) (h:p i=false):(List.range n).all p=false:=by
 cases c:(List.range n).all p
 · rfl
 · rw [all_upto2.1 c i hi] at h;cases h
def Ins (w:World) (A:Option Addr) (n:Nat) (Y:Nat→Int):Prop :=
 ∀i,i<n→∃b o,A=some ⟨b,o,none⟩∧b<w.heap.size∧w.cell? ⟨b,o+i,none⟩=some (.int .i64 (Y i))
theorem Ins.keep {w w2:World} {A:Option Addr} {n:Nat} {Y:Nat→Int} (h:Ins w A n Y) (hb:Below w.heap.size w w2):Ins w2 A n Y:=fun i hi=>by
 obtain⟨b,o,e,l,c0⟩:=h i hi
 exact⟨b,o,e,Nat.lt_of_lt_of_le l hb.size,keepsC hb c0 l⟩
def Cel (w:World) (g n:Nat) (f:Nat→Value):Prop:=g<w.heap.size∧∀i,i<n→w.cell? ⟨g,i,none⟩=some (f i)∧w.frozen? ⟨g,i,none⟩=false
theorem Cel.keep {w w2:World} {g n:Nat} {f:Nat→Value} (h:Cel w g n f) (hb:Below w.heap.size w w2):Cel w2 g n f :=
 ⟨Nat.lt_of_lt_of_le h.1 hb.size,fun i hi=>⟨keepsC hb (h.2 i hi).1 h.1,keepsF hb (h.2 i hi).2 h.1⟩⟩
theorem Cel.congr {w:World} {g n:Nat} {f k:Nat→Value} (h:Cel w g n f) (e:∀i,i<n→f i=k i):Cel w g n k:=⟨h.1,fun i hi=>by rw [←e i hi];exact h.2 i hi⟩
theorem Cel.set {w:World} {g n:Nat} {f:Nat→Value} (h:Cel w g n f) (r:Nat) (v:Value) (hr:r<n):Cel (w.setCell ⟨g,r,none⟩ v) g n (fun i=>if i=r then v else f i):=by
 refine⟨by simp only [World.size_setCell];exact h.1,fun i hi=>?_⟩
 obtain⟨a,b⟩:=h.2 i hi
 obtain⟨a',b'⟩:=h.2 r hr
 by_cases e:i=r
 · subst e
   simp only [if_true]
   exact⟨by go_simp,by go_simp⟩
 · simp only [e,if_false]
   have m:r≠i:=fun c=>e c.symm
   exact⟨by go_simp,by go_simp⟩
theorem Try.infoBool:(Try.prog.info? 4).map (fun i=>(i.zero,i.size,i.bytes))=some (some (.bool false),1,1):=by kernel_rfl
theorem made_one (v:Value) (hv:v.cells=#[v]) (n:Nat):(madeCells v.cells (n*1)).toList=List.replicate (n*1) v:=by
 refine List.eq_replicate_iff.2 ⟨by simp [madeCells],fun b hb=>?_⟩
 rw [hv] at hb
 simp [madeCells] at hb
 obtain⟨x, -,hx⟩:=hb
 rw [←hx]
 have:x%1=0:=by omega
 simp [this]
theorem wpList_makeB {w:World} {ops:Array Oper} {rest:List Oper} {o:Oper} {a:Act} {Q:Exit→Act→World→Prop} (hgd:o.guard=none) (l c:Operand)
   (ho:o.op=.makeSlice 25 l c) (n:Nat) (hl:a.eval l=.int .i64 (n:Int)) (hc:a.eval c=.int .i64 (n:Int)) (hn:n≤3000000)
   (h:∀w',Cel w' w.heap.size n (fun _=>.bool false)→Below w.heap.size w w'→w.heap.size<w'.heap.size→wpList Try.prog ops Q rest (a.put o.dst (.slice (some ⟨w.heap.size,0,none⟩) n n)) w'):wpList Try.prog ops Q (o :: rest) a w:=by
 obtain⟨i0,hi,hz0,hz1,hz2⟩:=info_parts Try.infoBool
 refine wpList_make_full w hgd l c 25 ho w.heap.size 4 i0 (.bool false) 1 Try.underlying25 hi hz0 hz1 .i64 .i64 _ _ n hl hc rfl rfl (by rw [hz2];omega) (by unfold maxLen;omega) (Nat.le_refl _) ?_
 intro w' h1 h2
 have hlt:=(World.ownsRow.lt h1 _ rfl).2
 refine h w' ⟨hlt,fun i hi=>⟨?_,World.ownsRow.frozenAt h1 _⟩⟩ ⟨h2.os,h2.tape,h2.output,h2.size,fun k hk=>h2.block k hk (by simp)⟩ hlt
 rw [World.ownsRow.cellAt h1 i (by omega),made_one _ rfl]
 simp [hi]
theorem own_keep {B:Nat} {w w2:World} {e:TypeId} {sz:Nat} {v:Value} {n:Nat} {xs:List Value} (h:w.ownsRow B e sz v n xs) (hb:Below w.heap.size w w2):w2.ownsRow B e sz v n xs:=by
 refine⟨h.1, ?_⟩
 rcases h.2 with hn | ⟨g,cap,cur,hv,hb2,hg,rest⟩
 · exact .inl hn
 · have hlt:g<w.heap.size:=(Array.getElem?_eq_some_iff.1 hg).1
   refine .inr ⟨g,cap,cur,hv,hb2, ?_,rest⟩
   rw [←hg]
   exact hb.block g hlt
def setN (s:Nat→Bool) (j:Nat):Nat→Bool:=fun i=>if i=j then true else s i
def outN (Y:Nat→Int):Nat→Nat→Bool
 | 0=>fun _=>false
 | k+1=>setN (outN Y k) (Y k).toNat
def opsG (x:Nd) (i:Int):Bool:=(List.range x.ar).all fun j=>oneOf (x.at j) i
def nodeB (x:Nd) (i:Int):Bool:=kindB x.k&&(fieldB x&&opsG x i)
def graphB (X:Nat→Nd) (n:Nat):Bool:=decide (n≤4000)&&(List.range n).all fun i=>nodeB (X i) (i:Int)
set_option maxHeartbeats 1000000 in
theorem uallBelow_w (D:Option Addr) (m E:Nat) (e:Int) (Y:Nat→Int) (w:World) (VY:Ins w D m Y) (hm:(m:Int)≤9223372036854775807) :
   Calls Try.prog 12 #[.slice D m E,.int .i64 e] w fun r w'=>r=.returned (.bool ((List.range m).all fun i=>oneOf (Y i) e))∧w=w':=by
 obtain⟨R,hR⟩:∃R,Hid (((List.range m).all fun i=>oneOf (Y i) e)=R):=⟨_,rfl⟩
 rw [hR.out]
 go_enter Try.func12,Try.ntmps12
 go_wp2_with fail
 go_loopg [9] m (fun G s9 wx=>wx=w∧∃i:Nat,i+G=m∧s9=.int .i64 (i:Int)∧Hid (∀q,q<i→oneOf (Y q) e=true))
 case atStart=>exact⟨rfl,0,by omega,rfl,fun j hj=>absurd hj (by omega)⟩
 case round =>
   obtain⟨rfl,i,hi,rfl,hall⟩:=hrel
   by_cases ci:i=m
   · have e1:Hid (true=R):=by have q:=hR.out;subst ci;rw [all_upto2.2 hall] at q;exact q
     clear hR hall
     subst ci
     go_wp2_with fail
     go_ret
     exact⟨by have q:=e1.out;subst q;rfl,rfl⟩
   · have hlt:(i:Int)<(m:Int):=by omega
     obtain⟨b,o,hA,hb,x0⟩:=VY i (by omega)
     subst hA
     have c1:=fun W=>uisBelow_w (Y i) e W
     have hcase:oneOf (Y i) e=true∨oneOf (Y i) e=false:=by cases oneOf (Y i) e <;> simp
     rcases hcase with hq | hq
     · rw [hq] at c1
       go_wp2_with (go_at_call 32;refine (c1 _).mono ?_;rintro _ _ ⟨rfl,rfl⟩)
       go_roundg (m-i-1)
       case measure=>omega
       case rel=>exact⟨rfl,i+1,by omega,by go_num,fun q hq'=>by rcases Nat.lt_or_ge q i with h | h;exact hall q h;rw [show q=i by omega];exact hq⟩
     · rw [hq] at c1
       have e1:Hid (false=R):=by have q:=hR.out;rw [all_not2 (i:=i) (by omega) hq] at q;exact q
       clear hR hall
       go_wp2_with (go_at_call 32;refine (c1 _).mono ?_;rintro _ _ ⟨rfl,rfl⟩)
       go_ret
       exact⟨by have q:=e1.out;subst q;rfl,rfl⟩
set_option maxHeartbeats 4000000 in
set_option maxRecDepth 4000 in
theorem ugraph_w (A:Option Addr) (n C:Nat) (X:Nat→Nd) (hX:∀i,i<n→(X i).Ok) (w:World) (VX:Nds w A n X) (hm:(n:Int)≤9223372036854775807) :
   Calls Try.prog 11 #[.slice A n C] w fun r w'=>r=.returned (.bool (graphB X n))∧Below w.heap.size w w':=by
 obtain⟨R,hR⟩:∃R,Hid (graphB X n=R):=⟨_,rfl⟩
 rw [hR.out]
 by_cases hn:n≤4000
 · have hR2:Hid (((List.range n).all fun i=>nodeB (X i) (i:Int))=R):=by have q:=hR.out;rw [graphB,decide_eq_true hn,Bool.true_and] at q;exact q
   have hX':Hid (∀i,i<n→(X i).Ok):=hX
   clear hR hX hm
   go_enter Try.func11,Try.ntmps11
   go_wp2_with fail
   go_loopg [12] n (fun G s12 wx=>∃i:Nat,i+G=n∧s12=.int .i64 (i:Int)∧Below w.heap.size w wx∧Hid (∀q,q<i→nodeB (X q) (q:Int)=true))
   case atStart=>exact⟨0,by omega,rfl,by go_grown,fun j hj=>absurd hj (by omega)⟩
   case round =>
     obtain⟨i,hi,rfl,HB,hall⟩:=hrel
     by_cases ci:i=n
     · have e1:Hid (true=R):=by have q:=hR2.out;subst ci;rw [all_upto2.2 hall] at q;exact q
       clear hR2 hall
       subst ci
       go_wp2_with fail
       go_ret
       exact⟨by have q:=e1.out;subst q;rfl,HB⟩
     · have hlt:(i:Int)<(n:Int):=by omega
       obtain⟨b,o,hA,hb, -⟩:=(VX.keep HB) i (by omega)
       subst hA
       have o1:=hX'.out i (by omega)
       obtain⟨x,hx⟩:∃x,x=X i:=⟨_,rfl⟩
       have xc:∀j c,(ndL x)[j]?=some c→wr.cell? ⟨b,o+i*22+j,none⟩=some c:=by rw [hx];exact ((VX.keep HB).at (i:=i) (by omega)).2
       rw [←hx] at o1
       replace xc:Hid _:=xc
       have ck:=fun W=>uisKind_w x.k W
       have cf:=fun W=>ufields_w x o1 W
       have co:=fun W=>uoperands_w x W
       have hbad:∀q:nodeB x (i:Int)=false,Hid (false=R):=fun q=>by have q2:=hR2.out;rw [all_not2 (i:=i) (by omega) (by rw [←hx];exact q)] at q2;exact q2
       have hnode:Hid (nodeB x (i:Int)=(kindB x.k&&(fieldB x&&opsG x (i:Int)))):=rfl
       have hgood:Hid (nodeB x (i:Int)=true→∀q,q<i+1→nodeB (X q) (q:Int)=true):=fun h q hq'=>by rcases Nat.lt_or_ge q i with h1 | h1;exact hall q h1;rw [show q=i by omega,←hx];exact h
       have hops:Hid (opsG x (i:Int)=((List.range x.ar).all fun j=>oneOf (x.at j) (i:Int))):=rfl
       have hL2:x.ar≤2:=arG_le x.k
       clear hR2 hx hall o1 hX'
       generalize kindB x.k=k1 at *
       generalize fieldB x=f1 at *
       generalize opsG x (i:Int)=p1 at *
       generalize nodeB x (i:Int)=n1 at *
       obtain⟨L,hL⟩:∃L,L=x.ar:=⟨_,rfl⟩
       rw [←hL] at co hops hL2
       clear hL
       go_upto_region 6 with (first
         | (refine wpList_loadBig (by rfl) _ 54 (by rfl) Try.underlying54 (ndL x) (by kernel_rfl) (by rfl) xc.out (nd_val x) ?_)
         | (refine wpList_storeBig (by rfl) _ _ 54 (by rfl) (blk_new _ _ _) (ndL x) (by kernel_rfl) (by rfl) (by rfl) (by rfl) (by rfl) ?_;rintro V2 XB hs2 hB2 -;replace HB:=hB2 _ _ (Below.alloc HB HB.size _) HB.size;clear hB2))
       obtain⟨x0,x1,x2,x3,x4,x5,x6,x7⟩:=XB.nd.cells
       cases k1
       · have e1:=hbad hnode.out
         clear hbad hgood hnode hops cf co
         go_wp2_with (first | (go_at_call 29;refine (ck _).mono ?_;rintro _ _ ⟨rfl,rfl⟩))
         go_ret
         exact⟨by have q:=e1.out;subst q;rfl,HB⟩
       cases f1
       · have e1:=hbad hnode.out
         clear hbad hgood hnode hops co
         go_wp2_with (first
           | (refine wpList_loadBig (by rfl) _ 54 (by rfl) Try.underlying54 (ndL x) (by kernel_rfl) (by rfl) XB.cell0 (nd_val x) ?_)
           | (go_at_call 29;refine (ck _).mono ?_;rintro _ _ ⟨rfl,rfl⟩)
           | (go_at_call 30;(with_reducible refine (cf _).mono ?_);rintro _ VV ⟨rfl,hb1⟩))
         go_ret
         exact⟨by have q:=e1.out;subst q;rfl,later HB hb1⟩
       replace hnode:Hid (n1=p1):=hnode.out
       go_wp2_with (first
         | (refine wpList_loadBig (by rfl) _ 54 (by rfl) Try.underlying54 (ndL x) (by kernel_rfl) (by rfl) XB.cell0 (nd_val x) ?_)
         | (go_at_call 29;refine (ck _).mono ?_;rintro _ _ ⟨rfl,rfl⟩)
         | (go_at_call 30;(with_reducible refine (cf _).mono ?_);rintro _ VV ⟨rfl,hb1⟩;replace XB:=XB.keeps hb1;replace HB:=later HB hb1;clear hb1 x0 x1 x2 x3 x4 x5 x6 x7;obtain⟨x0,x1,x2,x3,x4,x5,x6,x7⟩:=XB.nd.cells)
         | (go_at_call 31;(with_reducible refine (co _).mono ?_);rintro _ w4 ⟨⟨A4,C4,rfl,kk⟩,hb4⟩;replace HB:=later HB hb4;clear hb4 x0 x1 x2 x3 x4 x5 x6 x7))
       replace kk:Hid _:=kk
       go_loopg [29] L (fun G s29 wy=>wy=w4∧∃j:Nat,j+G=L∧s29=.int .i64 (j:Int)∧Hid (∀q,q<j→oneOf (x.at q) (i:Int)=true))
       case atStart=>exact⟨rfl,0,by omega,rfl,fun j hj=>absurd hj (by omega)⟩
       case round =>
         obtain⟨rfl,j,hj,rfl,hall⟩:=hrel
         by_cases cj:j=L
         · have e1:Hid (p1=true):=by subst cj;rw [hops.out];exact all_upto2.2 hall
           have e2:=hgood.out (hnode.out.trans e1.out)
           replace e2:Hid _:=e2
           clear hbad hgood hnode hops hall e1 kk
           subst cj
           go_wp2_with fail
           go_roundg (n-i-1)
           case measure=>omega
           case rel=>exact⟨i+1,by omega,by go_num,HB,e2⟩
         · have hlt2:(j:Int)<(L:Int):=by omega
           obtain⟨B4,hA4, -,hB4,kj⟩:=kk.out j (by omega)
           subst hA4
           have c1:=fun W=>uisBelow_w (x.at j) (i:Int) W
           have hcase:oneOf (x.at j) (i:Int)=true∨oneOf (x.at j) (i:Int)=false:=by cases oneOf (x.at j) (i:Int) <;> simp
           rcases hcase with hq | hq
           · rw [hq] at c1
             replace hq:Hid _:=hq
             go_wp2_with (go_at_call 32;refine (c1 _).mono ?_;rintro _ _ ⟨rfl,rfl⟩)
             go_roundg (L-j-1)
             case measure=>omega
             case rel=>exact⟨rfl,j+1,by omega,by go_num,fun q hq'=>by rcases Nat.lt_or_ge q j with h | h;exact hall q h;rw [show q=j by omega];exact hq⟩
           · rw [hq] at c1
             have e0:p1=false:=by rw [hops.out];exact all_not2 (i:=j) (by omega) hq
             have e1:Hid (false=R):=hbad (hnode.out.trans e0)
             clear hbad hgood hnode hops hall e0 hq kk
             go_wp2_with (go_at_call 32;refine (c1 _).mono ?_;rintro _ _ ⟨rfl,rfl⟩)
             go_ret
             exact⟨by have q:=e1.out;subst q;rfl,HB⟩
 · have e1:Hid (false=R):=by have q:=hR.out;rw [graphB,decide_eq_false hn,Bool.false_and] at q;exact q
   have hn2:4000<(n:Int):=by omega
   clear hR
   go_enter Try.func11,Try.ntmps11
   go_wp2_with fail
   go_ret
   exact⟨by have q:=e1.out;subst q;rfl,by go_grown⟩
def facCells:List Fac→List Value
 | []=>[]
 | f :: L=>.int .i64 f.1 :: .int .i64 f.2.1 :: .int .i64 f.2.2 :: facCells L
theorem facCells_len:∀L,(facCells L).length=L.length*3
 | []=>rfl
 | _ :: L=>by simp only [facCells,List.length_cons,facCells_len L];omega
theorem facCells_append:∀L M,facCells (L++M)=facCells L++facCells M
 | [],_=>rfl
 | _ :: L,M=>by simp only [List.cons_append,facCells,facCells_append L M]
theorem facCells_one:∀L u,u∈facCells L→u.oneCell'=true
 | [],u,h=>by cases h
 | f :: L,u,h=>by
   simp only [facCells,List.mem_cons] at h
   rcases h with h | h | h | h
   · rw [h];rfl
   · rw [h];rfl
   · rw [h];rfl
   · exact facCells_one L u h
theorem facCells_at:∀(L:List Fac) (i:Nat) (f:Fac),L[i]?=some f→(facCells L)[i*3]?=some (.int .i64 f.1)∧(facCells L)[i*3+1]?=some (.int .i64 f.2.1)∧(facCells L)[i*3+2]?=some (.int .i64 f.2.2)
 | [],i,f,h=>by simp at h
 | g :: L,0,f,h=>by
   simp at h
   subst h
   exact⟨rfl,rfl,rfl⟩
 | g :: L,i+1,f,h=>by
   have h':L[i]?=some f:=by simpa using h
   have:=facCells_at L i f h'
   rw [show (i+1)*3=i*3+3 by omega,show i*3+3+1=(i*3+1)+3 by omega,show i*3+3+2=(i*3+2)+3 by omega]
   exact this
def FacAt (w:World) (A:Option Addr) (M:List Fac):Prop:=M≠[]→∃b o cs,A=some ⟨b,o,none⟩∧BlkAt w b 104 cs∧∀j u,(facCells M)[j]?=some u→cs[o+j]?=some u
theorem FacAt.keep {w W:World} {A:Option Addr} {M:List Fac} (h:FacAt w A M) (k:Below w.heap.size w W):FacAt W A M:=fun hm=>by
 obtain⟨b,o,cs,e,l,c⟩:=h hm
 exact⟨b,o,cs,e,l.keeps k,c⟩
theorem FacAt.other {w W:World} {A:Option Addr} {M:List Fac} {g:Nat} {T:TypeId} {cs:List Value} (h:FacAt w A M) (hg:BlkAt w g T cs) (hT:T≠104) (k:∀k Tk ck,g≠k→BlkAt w k Tk ck→BlkAt W k Tk ck):FacAt W A M:=fun hm=>by
 obtain⟨b,o,cs',e,l,c⟩:=h hm
 refine⟨b,o,cs',e,k b _ _ (fun e2=>?_) l,c⟩
 subst e2
 have q:some (Obj.cells cs.toArray T (0,0))=some (Obj.cells cs'.toArray 104 (0,0)):=hg.symm.trans l
 injection q with q
 injection q with _ q2 _
 exact hT q2
theorem FacAt.head {w:World} {A:Option Addr} {f:Fac} {L:List Fac} (h:FacAt w A (f :: L)) :
   ∃b o,A=some ⟨b,o,none⟩∧b<w.heap.size∧w.cell? ⟨b,o,none⟩=some (.int .i64 f.1)∧w.cell? ⟨b,o+1,none⟩=some (.int .i64 f.2.1)∧w.cell? ⟨b,o+2,none⟩=some (.int .i64 f.2.2)∧FacAt w (some ⟨b,o+3,none⟩) L:=by
 obtain⟨b,o,cs,e,l,c⟩:=h (by simp)
 exact⟨b,o,e,l.lt,l.cell _ _ (c 0 _ rfl),l.cell _ _ (c 1 _ rfl),l.cell _ _ (c 2 _ rfl),fun _=>⟨b,o+3,cs,rfl,l,fun j u hj=>by rw [show o+3+j=o+(j+3) by omega];exact c (j+3) u hj⟩⟩
theorem FacAt.at {w:World} {A:Option Addr} {L:List Fac} (h:FacAt w A L) {i:Nat} {f:Fac} (hi:L[i]?=some f) :
   ∃b o,A=some ⟨b,o,none⟩∧b<w.heap.size∧w.cell? ⟨b,o+i*3,none⟩=some (.int .i64 f.1)∧w.cell? ⟨b,o+i*3+1,none⟩=some (.int .i64 f.2.1)∧w.cell? ⟨b,o+i*3+2,none⟩=some (.int .i64 f.2.2):=by
 obtain⟨b,o,cs,e,l,c⟩:=h (fun e=>by rw [e] at hi;simp at hi)
 obtain⟨c0,c1,c2⟩:=facCells_at L i f hi
 exact⟨b,o,e,l.lt,l.cell _ _ (c _ _ c0),l.cell _ _ (by rw [Nat.add_assoc];exact c _ _ c1),l.cell _ _ (by rw [Nat.add_assoc];exact c _ _ c2)⟩
theorem facAt_blk {w:World} {b:Nat} {L:List Fac} (h:BlkAt w b 104 (facCells L)):FacAt w (some ⟨b,0,none⟩) L:=fun _=>⟨b,0,_,rfl,h,fun j u hj=>by rw [Nat.zero_add];exact hj⟩
theorem facAt_new (w:World) (f:Fac):FacAt (w.alloc (.cells #[.int .i64 f.1,.int .i64 f.2.1,.int .i64 f.2.2] 104)) (some ⟨w.heap.size,0,none⟩) [f]:=facAt_blk (blk_new w 104 (facCells [f]))
def FSl (w:World) (s:Value) (L:List Fac):Prop:=∃A c,s=.slice A L.length c∧L.length≤c∧FacAt w A L
theorem FSl.keep {w W:World} {s:Value} {L:List Fac} (h:FSl w s L) (k:Below w.heap.size w W):FSl W s L:=by
 obtain⟨A,c,e,l,f⟩:=h
 exact⟨A,c,e,l,f.keep k⟩
theorem fSl_nil (w:World):FSl w (.slice none 0 0) []:=⟨none,0,rfl,Nat.le_refl _,fun h=>absurd rfl h⟩
def OwnX (B:Nat) (w:World) (v:Value) (L:List Fac):Prop:=w.ownsRow B 104 3 v L.length (facCells L)
theorem OwnX.keep {B:Nat} {w w2:World} {v:Value} {L:List Fac} (h:OwnX B w v L) (hb:Below w.heap.size w w2):OwnX B w2 v L:=own_keep h hb
theorem OwnX.fsl {B:Nat} {w:World} {v:Value} {L:List Fac} (h:OwnX B w v L):FSl w v L:=by
 have h':w.ownsRow B 104 3 v L.length (facCells L):=h
 rcases h'.2 with ⟨rfl,hn⟩ | ⟨g,cap,cur,rfl, -,hg,hc, -⟩
 · have:L=[]:=List.eq_nil_of_length_eq_zero (by simpa using hn)
   subst this
   exact fSl_nil w
 · refine⟨_,_,rfl,hc,fun _=>⟨g,0,cur.toList,rfl,by show w.heap[g]?=_;rw [hg],fun j u hj=>?_⟩⟩
   have hl:j<L.length*3:=by
     have:=(List.getElem?_eq_some_iff.1 hj).1
     rwa [facCells_len] at this
   have h2:=World.ownsRow.cellAt h' j (by omega)
   rw [cell_of_row w g j cur 104 (0,0) hg,hj] at h2
   rw [Nat.zero_add]
   simpa using h2
theorem OwnX.form {B:Nat} {w:World} {v:Value} {L:List Fac} (h:OwnX B w v L):∃A C,v=.slice A L.length C∧L.length≤C:=by
 obtain⟨A,C,e,l, -⟩:=h.fsl
 exact⟨A,C,e,l⟩
theorem OwnX.base {B B':Nat} {w:World} {v:Value} {L:List Fac} (h:OwnX B w v L) (hb:B'≤B):OwnX B' w v L:=by
 refine⟨h.1, ?_⟩
 rcases h.2 with hn | ⟨g,cap,cur,hv,hb2,rest⟩
 · exact .inl hn
 · exact .inr ⟨g,cap,cur,hv,Nat.le_trans hb hb2,rest⟩
theorem heap_setCell (w:World) (b j k:Nat) (x:Value) (hne:b≠k):(w.setCell ⟨b,j,none⟩ x).heap[k]?=w.heap[k]?:=by
 show (w.heap.modify b _)[k]?=_
 rw [Array.getElem?_modify,if_neg hne]
theorem OwnX.off {B:Nat} {w:World} {v:Value} {L:List Fac} {b:Nat} (h:OwnX B w v L) (hne:v.ownBlock≠some b) (j:Nat) (x:Value):OwnX B (w.setCell ⟨b,j,none⟩ x) v L:=by
 refine⟨h.1, ?_⟩
 rcases h.2 with hn | ⟨g,cap,cur,hv,hb2,hg,rest⟩
 · exact .inl hn
 · refine .inr ⟨g,cap,cur,hv,hb2, ?_,rest⟩
   rw [heap_setCell w b j g x (fun e=>hne (by rw [hv,e];rfl))]
   exact hg
theorem BlkAt.setCell {w:World} {g:Nat} {T:TypeId} {cs:List Value} (h:BlkAt w g T cs) (j:Nat) (x:Value):BlkAt (w.setCell ⟨g,j,none⟩ x) g T (cs.set j x):=by
 show (w.heap.modify g _)[g]?=_
 have h':w.heap[g]?=some (.cells cs.toArray T (0,0)):=h
 rw [Array.getElem?_modify,if_pos rfl,h']
 simp
theorem BlkAt.offCell {w:World} {g b:Nat} {T:TypeId} {cs:List Value} (h:BlkAt w g T cs) (hne:b≠g) (j:Nat) (x:Value):BlkAt (w.setCell ⟨b,j,none⟩ x) g T cs:=(heap_setCell w b j g x hne).trans h
theorem Try.infoFac:(Try.prog.info? 104).map (fun i=>(i.zero,i.size,i.bytes))=some (some (.agg #[.int .i64 0,.int .i64 0,.int .i64 0]),3,24):=by kernel_rfl
theorem wpList_makeX {w:World} {ops:Array Oper} {rest:List Oper} {o:Oper} {a:Act} {Q:Exit→Act→World→Prop} (hgd:o.guard=none) (l c:Operand)
   (ho:o.op=.makeSlice 77 l c) (n:Nat) (hl:a.eval l=.int .i64 0) (hc:a.eval c=.int .i64 (n:Int)) (hn:n≤3000000)
   (h:∀w',OwnX w.heap.size w' (.slice (some ⟨w.heap.size,0,none⟩) 0 n) []→Below w.heap.size w w'→wpList Try.prog ops Q rest (a.put o.dst (.slice (some ⟨w.heap.size,0,none⟩) 0 n)) w'):wpList Try.prog ops Q (o :: rest) a w:=by
 obtain⟨i0,hi,hz0,hz1,hz2⟩:=info_parts Try.infoFac
 refine wpList_make_own w hgd l c 77 ho w.heap.size 104 i0 _ 3 Try.underlying77 hi hz0 hz1 .i64 .i64 _ n hl hc rfl (by rw [hz2];omega) (by unfold maxLen;omega) (Nat.le_refl _) ?_
 intro w' h1 h2
 exact h w' h1 ⟨h2.os,h2.tape,h2.output,h2.size,fun k hk=>h2.block k hk (by simp)⟩
theorem append_none {P:Program} (t ty e:TypeId) (i:TypeInfo) (ht:P.underlying t=some (.slice e)) (hi:P.info? e=some i) (b:Option Addr) (l c:Nat) (hc:l≤c) (x:Option Addr) (d:Nat) (w:World) :
   (Builtin.append_ #[t,t] ty #[.slice b l c,.slice x 0 d]).run P w=.ok (.slice b l c) w:=by
 cases b <;> cases x <;> simp [Builtin.append_,run_underlying ht,sizeOf,typeInfo,hi,Builtin.lenOf,Builtin.firstCells,loadCells,loadCellsFrom,storeCells,hc]
theorem step_catX {B:Nat} {w:World} {ops:Array Oper} {o:Oper} {a:Act} {K:Act→World→Prop} {Q:Exit→Act→World→Prop} {E:Prop} (hgd:o.guard=none) (s x:Operand)
   (ho:o.op=.call { callee:=.builtin .append,args:=#[s,x],argTypes:=#[77,77] }) (v:Value) (L M:List Fac) (X0:Option Addr) (m D:Nat) (hs:a.eval s=v) (hx:a.eval x=.slice X0 m D) (hm:m=M.length)
   (hown:OwnX B w v L) (VY:FacAt w X0 M) (hl:L.length+M.length≤2000000) (hB:B≤w.heap.size)
   (h:∀v' w',OwnX B w' v' (L++M)→Below B w w'→w.heap.size≤w'.heap.size→(∀b T cs,BlkAt w b T cs→v.ownBlock≠some b→BlkAt w' b T cs∧v'.ownBlock≠some b)→(∀W0,W0.heap.size≤B→Below W0.heap.size W0 w→Below W0.heap.size W0 w')→K (a.put o.dst v') w') :
   if Region.wanted o (yielded ops a.tmps)=true then Oper.wp Try.prog o a w K Q else E:=by
 subst hm
 obtain⟨i0,hi,hz0,hz1,hz2⟩:=info_parts Try.infoFac
 by_cases m0:M=[]
 · subst m0
   obtain⟨b,c,rfl,hc⟩:=hown.form
   have hr:=fun ty=>append_none (P:=Try.prog) 77 ty 104 i0 Try.underlying77 hi b L.length c hc X0 D w
   rw [if_pos (by simp [Region.wanted,hgd])]
   unfold Oper.wp
   simp [execOp,ho,resolve,invoke,builtin,hs,hx,hr,Result.andThen]
   exact h _ _ (by simpa using hown) (Below.refl _ _) (Nat.le_refl _) (fun _ _ _ h1 h2=>⟨h1,h2⟩) (fun _ _ k=>k)
 · obtain⟨b,o',cs0,rfl,hbk,hcs0⟩:=VY m0
   have hcs:∀j u,(facCells M)[j]?=some u→w.cell? ⟨b,o'+j,none⟩=some u:=fun j u hj=>hbk.cell _ _ (hcs0 j u hj)
   refine step_append_lies w hgd s x 77 ho B 104 i0 _ 3 24 Try.underlying77 hi hz0 hz1 hz2 rfl (by decide) v L.length (facCells L) hs hown ⟨b,o',none⟩ M.length D (facCells M) hx (facCells_len M) (fun j u hj=>by rw [add_plain];exact hcs j u hj) (facCells_one M) (by have:0<M.length:=List.length_pos_iff.2 m0;omega) (by unfold maxLen;omega) (by omega) hB w.heap.size rfl ?_
   intro g cap w' h1 h2 h3 _
   have lt:∀k,v.ownBlock=some k→B≤k:=fun k hk=>(World.ownsRow.lt hown k hk).1
   have hb:Below B w w':=(Below.refl B w).grown h2 hB lt
   refine h _ w' ?_ hb h2.size (fun b T cs h4 hne=>⟨(h2.block b h4.lt (fun e=>hne e.symm)).trans h4,fun e=>by
     have e':g=b:=by injection e
     rcases h3 with h5 | h5
     · exact hne (by rw [h5,e'])
     · have:=h4.lt;omega⟩) (fun W0 hW0 k=>k.trans (hb.mono hW0))
   unfold OwnX
   rw [facCells_append,List.length_append]
   exact h1
theorem wpList_catX {B:Nat} {w:World} {ops:Array Oper} {rest:List Oper} {o:Oper} {a:Act} {Q:Exit→Act→World→Prop} (hgd:o.guard=none) (s x:Operand)
   (ho:o.op=.call { callee:=.builtin .append,args:=#[s,x],argTypes:=#[77,77] }) (v:Value) (L M:List Fac) (X0:Option Addr) (m D:Nat) (hs:a.eval s=v) (hx:a.eval x=.slice X0 m D) (hm:m=M.length)
   (hown:OwnX B w v L) (VY:FacAt w X0 M) (hl:L.length+M.length≤2000000) (hB:B≤w.heap.size)
   (h:∀v' w',OwnX B w' v' (L++M)→Below B w w'→w.heap.size≤w'.heap.size→(∀b T cs,BlkAt w b T cs→v.ownBlock≠some b→BlkAt w' b T cs∧v'.ownBlock≠some b)→(∀W0,W0.heap.size≤B→Below W0.heap.size W0 w→Below W0.heap.size W0 w')→wpList Try.prog ops Q rest (a.put o.dst v') w'):wpList Try.prog ops Q (o :: rest) a w :=
 wpList_step fun _ hK=>step_catX hgd s x ho v L M X0 m D hs hx hm hown VY hl hB (fun v' w' h1 h2 h3 h4 h5=>hK _ _ (h v' w' h1 h2 h3 h4 h5))
def MgAns (r:Ending) (w:World) (R:Option (List Fac)):Prop:=(∃L s,R=some L∧r=.returned s∧FSl w s L)∨(R=none∧r=.panicked (stopP 3))
set_option maxHeartbeats 1000000 in
theorem umerged_same (A:Option Addr) (n C:Nat) (D:Option Addr) (m E:Nat) (p:Int×Int) (h:m=0∨p=(0,1)) (w:World) :
   Calls Try.prog 76 #[.slice A n C,.slice D m E,.agg #[.int .i64 p.1,.int .i64 p.2]] w fun r w'=>r=.returned (.slice A n C)∧Below w.heap.size w w':=by
 have PB:BlkAt (w.alloc (.cells #[.int .i64 p.1,.int .i64 p.2] 27)) w.heap.size 27 [.int .i64 p.1,.int .i64 p.2]:=blk_new w _ _
 have HB:Below w.heap.size w (w.alloc (.cells #[.int .i64 p.1,.int .i64 p.2] 27)):=by go_grown
 have cw:=fun W=>uwhole_w 0 W
 by_cases c:m=0
 · subst c
   clear h
   go_enter Try.func76,Try.ntmps76
   go_upto_region 1 with fail
   generalize (w.alloc (.cells #[.int .i64 p.1,.int .i64 p.2] 27))=V1 at *
   refine region_behind (by kernel_rfl) (by kernel_rfl) ?_
   repeat (go_big_quiet_step (first | (go_at_call 56;with_reducible refine Behind.call (cw _))))
   refine wpQuiet_nil ?_
   rintro _ ⟨q,rfl⟩
   obtain⟨W,hb1⟩:=q
   dsimp only
   go_wp2_with fail
   go_ret
   exact⟨rfl,later HB hb1⟩
 · have hp:p=(0,1):=h.resolve_left c
   subst hp
   have hm:((m:Int)==0)=false:=by simp;omega
   clear h c
   go_enter Try.func76,Try.ntmps76
   go_upto_region 1 with fail
   generalize (w.alloc (.cells #[.int .i64 0,.int .i64 1] 27))=V1 at *
   have k0:=fun n:Behind V1=>n.cell (PB.cell 0 _ rfl) PB.lt
   have k1:=fun n:Behind V1=>n.cell (PB.cell 1 _ rfl) PB.lt
   refine region_behind (by kernel_rfl) (by kernel_rfl) ?_
   repeat (go_big_quiet_step (first | (go_at_call 56;with_reducible refine Behind.call (cw _))))
   refine wpQuiet_nil ?_
   rintro _ ⟨q,rfl⟩
   obtain⟨W,hb1⟩:=q
   dsimp only
   go_wp2_with fail
   go_ret
   exact⟨rfl,later HB hb1⟩
theorem low_cons_lt {u:Int} {g:Fac} (L:List Fac) (h:g.1<u):lowF u (g :: L)=g :: lowF u L∧restF u (g :: L)=restF u L:=by
 constructor
 · rw [lowF,if_pos h]
 · rw [restF,if_pos h]
theorem low_cons_ge {u:Int} {g:Fac} (L:List Fac) (h:¬g.1<u):lowF u (g :: L)=[]∧restF u (g :: L)=g :: L:=by
 constructor
 · rw [lowF,if_neg h]
 · rw [restF,if_neg h]
def headLt (u:Int):List Fac→Bool
 | []=>false
 | g :: _=>decide (g.1<u)
def headEq (u:Int):List Fac→Bool
 | []=>false
 | g :: _=>decide (g.1=u)
theorem headLt_no {u:Int}:∀{L:List Fac},headLt u L=false→lowF u L=[]∧restF u L=L
 | [],_=>⟨rfl,rfl⟩
 | _ :: L,h=>low_cons_ge L (of_decide_eq_false h)
theorem not_some_block {v:Value} {b:Nat} {B:Nat} {w:World} {L:List Fac} (h:OwnX B w v L) (hb:w.heap.size≤b):v.ownBlock≠some b:=fun e=>by
 have:=(World.ownsRow.lt h b e).2
 omega
set_option maxRecDepth 4000 in
set_option maxHeartbeats 8000000 in
theorem umerged_core (A:Option Addr) (C:Nat) (D:Option Addr) (E:Nat) (La Lb:List Fac) (n m:Nat) (p:Int×Int) (hn:n=La.length) (hm:m=Lb.length) (hm0:m≠0) (hp0:p≠(0,1)) (hp:ROk p) (ha:FOk La) (hb:FOk Lb)
   (hl:n+m≤1000) (hC:n≤C) (w:World) (Fa:FacAt w A La) (Fb:FacAt w D Lb) :
   Calls Try.prog 76 #[.slice A n C,.slice D m E,.agg #[.int .i64 p.1,.int .i64 p.2]] w fun r w'=>MgAns r w' (mergeF p La Lb)∧Below w.heap.size w w':=by
 obtain⟨R,hR⟩:∃R,Hid (mergeF p La Lb=R):=⟨_,rfl⟩
 rw [hR.out]
 have PB:BlkAt (w.alloc (.cells #[.int .i64 p.1,.int .i64 p.2] 27)) w.heap.size 27 [.int .i64 p.1,.int .i64 p.2]:=blk_new w _ _
 have HB:Below w.heap.size w (w.alloc (.cells #[.int .i64 p.1,.int .i64 p.2] 27)):=by go_grown
 have cw:=fun W=>uwhole_w 0 W
 have hm1:((m:Int)==0)=false:=by simp;omega
 replace hm:Hid (m=Lb.length):=hm
 replace hn:Hid (n=La.length):=hn
 have HP:Hid (ROk p):=hp
 have HA:Hid (FOk La):=ha
 have HBb:Hid (FOk Lb):=hb
 have HFa:Hid (FacAt w A La):=Fa
 have HFb:Hid (FacAt w D Lb):=Fb
 have HP0:Hid (p≠(0,1)):=hp0
 clear ha hb Fa Fb hp hp0
 go_enter Try.func76,Try.ntmps76
 go_upto_region 1 with fail
 generalize (w.alloc (.cells #[.int .i64 p.1,.int .i64 p.2] 27))=V1 at *
 go_cut [17] from 10 to 17 (fun s17 wx=>s17=.bool false∧Below w.heap.size w wx∧BlkAt wx w.heap.size 27 [.int .i64 p.1,.int .i64 p.2])
 case first =>
   have k0:=fun n:Behind V1=>n.cell (PB.cell 0 _ rfl) PB.lt
   have k1:=fun n:Behind V1=>n.cell (PB.cell 1 _ rfl) PB.lt
   have hq:¬(p.1=0∧p.2=1):=fun h=>HP0.out (Prod.ext h.1 h.2)
   by_cases c1:p.1=0
   · have c2:¬p.2=1:=fun h=>hq ⟨c1,h⟩
     refine region_behind (by kernel_rfl) (by kernel_rfl) ?_
     repeat (go_big_quiet_step (first | (go_at_call 56;with_reducible refine Behind.call (cw _))))
     refine wpQuiet_nil ?_
     rintro _ ⟨q,rfl⟩
     obtain⟨W,hb1⟩:=q
     dsimp only
     go_wp2_with fail
     go_meet
     case rel=>exact⟨rfl,later HB hb1,PB.keeps hb1⟩
   · refine region_behind (by kernel_rfl) (by kernel_rfl) ?_
     repeat (go_big_quiet_step (first | (go_at_call 56;with_reducible refine Behind.call (cw _))))
     refine wpQuiet_nil ?_
     rintro _ ⟨q,rfl⟩
     obtain⟨W,hb1⟩:=q
     dsimp only
     go_wp2_with fail
     go_meet
     case rel=>exact⟨rfl,later HB hb1,PB.keeps hb1⟩
 case rest =>
 clear HB PB
 obtain⟨rfl,HB,PB⟩:=hcut
 clear hm1
 have hB0:w.heap.size+1≤wc.heap.size:=PB.lt
 go_wp2_with (at_make;refine wpList_makeX (by rfl) _ _ (by rfl) (n+m) (by rfl) (by first | rfl | go_num) (by omega) ?_;intro w3 I hb3)
 replace I:=I.base hB0
 replace HB:=later HB hb3
 replace PB:=PB.keeps hb3
 have hB3:w.heap.size+1≤w3.heap.size:=PB.lt
 clear hb3 hB0
 go_loopg [0,7,27] m (fun G s0 s7 s27 wx=>∃(i k C':Nat) (L T:List Fac) (A':Option Addr),i+G=m∧s27=.int .i64 (i:Int)∧s0=.slice A' k C'∧k≤C'∧Hid (k=L.length)∧Hid (FacAt w A' L)∧OwnX (w.heap.size+1) wx s7 T∧Below w.heap.size w wx∧BlkAt wx w.heap.size 27 [.int .i64 p.1,.int .i64 p.2]∧Hid ((mergeF p L (Lb.drop i)).map (T++·)=R)∧Hid (FOk L)∧Hid (T.length+k+(m-i)≤1000))
 case atStart=>exact⟨0,n,C,La,[],A,by omega,rfl,rfl,hC,hn,HFa,I,HB,PB,(by show ((mergeF p La (Lb.drop 0)).map ([]++·))=R;rw [List.drop_zero,hR.out];cases R <;> rfl),HA,(by show [].length+n+(m-0)≤1000;simp;omega)⟩
 case round =>
   clear I HB PB hB3
   obtain⟨i,k,C',L,T,A',hi,rfl,rfl,hkC,hk,FA',I,HB,PB,hM,HL,hlen⟩:=hrel
   have hB3:w.heap.size+1≤wr.heap.size:=PB.lt
   by_cases ci:i=m
   · have e1:Hid (R=some (T++L)):=by
       have q:=hM.out
       rw [List.drop_of_length_le (by have:=hm.out;omega),mergeF] at q
       exact q.symm
     clear hM hR
     subst ci
     obtain⟨A7,C7,rfl,hc7⟩:=I.form
     go_wp2_with (at_builtin;refine wpList_catX (by rfl) _ _ (by rfl) _ T L A' k C' (by rfl) (by rfl) hk.out I (FA'.out.keep HB) (by have:=hlen.out;have:=hk.out;omega) hB3 ?_;intro v' w' I' hb' hs' _ hW0)
     obtain⟨A8,C8,rfl,hc8⟩:=I'.form
     go_wp2_with fail
     refine bodyPost_ret (v:=.slice A8 (T++L).length C8) (by simp [results,Try.results76,go_sem]) rfl ⟨Or.inl ⟨T++L,_,e1.out,rfl,I'.fsl⟩,hW0 w (by omega) HB⟩
   · have him:i<m:=by omega
     obtain⟨f,hf⟩:∃f,Lb[i]?=some f:=⟨_,List.getElem?_eq_getElem (by have:=hm.out;omega)⟩
     have hdrop:Lb.drop i=f :: Lb.drop (i+1):=by
       have hi':i<Lb.length:=by have:=hm.out;omega
       have e:=List.getElem?_eq_getElem hi'
       rw [hf] at e
       rw [List.drop_eq_getElem_cons hi',Option.some.inj e]
     replace hM:Hid (((stepF p f (restF f.1 L)).bind fun x=>(mergeF p x.2 (Lb.drop (i+1))).map fun r=>lowF f.1 L++(keepF f.1 x.1++r)).map (T++·)=R):=by
       have q:=hM.out
       rw [hdrop,mergeF] at q
       exact q
     have hfo:Hid (ROk f.2):=HBb.out f (List.mem_of_getElem? hf)
     obtain⟨b,o,hA,hbs,c0,c1,c2⟩:=(HFb.out.keep HB).at hf
     subst hA
     have hlt:(i:Int)<(m:Int):=by omega
     replace hf:Hid (Lb[i]?=some f):=hf
     replace hdrop:Hid (Lb.drop i=f :: Lb.drop (i+1)):=hdrop
     have FB:BlkAt (wr.alloc (.cells #[.int .i64 f.1,.int .i64 f.2.1,.int .i64 f.2.2] 104)) wr.heap.size 104 [.int .i64 f.1,.int .i64 f.2.1,.int .i64 f.2.2]:=blk_new wr _ _
     go_upto_region 7 with fail
     have I1:OwnX (w.heap.size+1) (wr.alloc (.cells #[.int .i64 f.1,.int .i64 f.2.1,.int .i64 f.2.2] 104)) u7 T:=I.keep (by go_grown)
     have nb:Hid (u7.ownBlock≠some wr.heap.size):=not_some_block I (Nat.le_refl _)
     have HB1:Below w.heap.size w (wr.alloc (.cells #[.int .i64 f.1,.int .i64 f.2.1,.int .i64 f.2.2] 104)):=Below.alloc HB HB.size _
     have PB1:=PB.keeps (W:=wr.alloc (.cells #[.int .i64 f.1,.int .i64 f.2.1,.int .i64 f.2.2] 104)) (by go_grown)
     clear I c0 c1 c2 HB PB
     generalize (wr.alloc (.cells #[.int .i64 f.1,.int .i64 f.2.1,.int .i64 f.2.2] 104))=V2 at *
     obtain⟨fb,hfb⟩:∃fb,fb=wr.heap.size:=⟨_,rfl⟩
     rw [←hfb] at FB nb hB3 ⊢
     clear hfb
     go_loopg [0,7] k (fun G s0 s7 wy=>∃(k2 C2:Nat) (L2 P2:List Fac) (A2:Option Addr),k2≤G∧s0=.slice A2 k2 C2∧k2≤C2∧Hid (k2=L2.length)∧Hid (FacAt w A2 L2)∧OwnX (w.heap.size+1) wy s7 (T++P2)∧Hid (s7.ownBlock≠some fb)∧Below w.heap.size w wy∧BlkAt wy w.heap.size 27 [.int .i64 p.1,.int .i64 p.2]∧BlkAt wy fb 104 [.int .i64 f.1,.int .i64 f.2.1,.int .i64 f.2.2]∧Hid (lowF f.1 L=P2++lowF f.1 L2∧restF f.1 L=restF f.1 L2)∧Hid (FOk L2)∧Hid (P2.length+k2=k))
     case atStart=>exact⟨k,C',L,[],A',Nat.le_refl _,rfl,hkC,hk,FA',(by rw [List.append_nil];exact I1),nb,HB1,PB1,FB,⟨rfl,rfl⟩,HL,(by show [].length+k=k;simp)⟩
     case round =>
       clear I1 nb HB1 PB1 FB
       obtain⟨k2,C2,L2,P2,A2,hG,rfl,hkC2,hk2,FA2,I,nb,HB,PB,FB,hlow,HL2,hln⟩:=hrel
       obtain⟨lt,hlt2⟩:∃lt,Hid (lt=headLt f.1 L2):=⟨_,rfl⟩
       go_upto_region 7 with fail
       go_cut [42] from 31 to 42 (fun s42 wy=>s42=.bool lt∧OwnX (w.heap.size+1) wy u7 (T++P2)∧Below w.heap.size w wy∧BlkAt wy w.heap.size 27 [.int .i64 p.1,.int .i64 p.2]∧BlkAt wy fb 104 [.int .i64 f.1,.int .i64 f.2.1,.int .i64 f.2.2])
       case first =>
         cases L2 with
         | nil =>
           have h0:k2=0:=hk2.out
           have hl:lt=false:=hlt2.out
           subst h0 hl
           refine region_behind (by kernel_rfl) (by kernel_rfl) ?_
           repeat (go_big_quiet_step (fail))
           refine wpQuiet_nil ?_
           rintro _ ⟨q,rfl⟩
           obtain⟨W,hb1⟩:=q
           dsimp only
           go_wp2_with fail
           go_meet
           case rel=>exact⟨rfl,I.keep hb1,later HB hb1,PB.keeps hb1,FB.keeps hb1⟩
         | cons g L3 =>
           obtain⟨b2,o2,hA2,hbs2,d0, -, -, -⟩:=(FA2.out.keep HB).head
           subst hA2
           have kd:=fun n:Behind wr=>n.cell d0 hbs2
           have kf:=fun n:Behind wr=>n.cell (FB.cell 0 _ rfl) FB.lt
           have hk0:0<k2:=by have:=hk2.out;simp at this;omega
           by_cases c:g.1<f.1
           · have hl:lt=true:=hlt2.out.trans (decide_eq_true c)
             subst hl
             refine region_behind (by kernel_rfl) (by kernel_rfl) ?_
             repeat (go_big_quiet_step (fail))
             refine wpQuiet_nil ?_
             rintro _ ⟨q,rfl⟩
             obtain⟨W,hb1⟩:=q
             dsimp only
             go_wp2_with fail
             go_meet
             case rel=>exact⟨rfl,I.keep hb1,later HB hb1,PB.keeps hb1,FB.keeps hb1⟩
           · have hl:lt=false:=hlt2.out.trans (decide_eq_false c)
             subst hl
             refine region_behind (by kernel_rfl) (by kernel_rfl) ?_
             repeat (go_big_quiet_step (fail))
             refine wpQuiet_nil ?_
             rintro _ ⟨q,rfl⟩
             obtain⟨W,hb1⟩:=q
             dsimp only
             go_wp2_with fail
             go_meet
             case rel=>exact⟨rfl,I.keep hb1,later HB hb1,PB.keeps hb1,FB.keeps hb1⟩
       case rest =>
       clear I HB PB FB
       obtain⟨rfl,I,HB,PB,FB⟩:=hcut
       have hB4:w.heap.size+1≤wc.heap.size:=PB.lt
       cases lt with
       | true =>
         cases L2 with
         | nil=>exact absurd hlt2.out (by simp [headLt])
         | cons g L3 =>
           have cg0:g.1<f.1:=of_decide_eq_true hlt2.out.symm
           have cg:Hid (g.1<f.1):=cg0
           clear cg0
           obtain⟨b2,o2,hA2,hbs2,e0,e1,e2,FA3⟩:=FA2.out.head
           have d0:=keepsC HB e0 hbs2
           have d1:=keepsC HB e1 hbs2
           have d2:=keepsC HB e2 hbs2
           subst hA2
           obtain⟨A7,C7,e7,hc7⟩:=I.form
           rw [List.length_append] at e7
           subst e7
           have hk0:0<k2:=by have:=hk2.out;simp at this;omega
           have hk1:(1:Int)≤(k2:Int):=by omega
           have hlx:Hid ((T++P2).length+[g].length≤2000000):=by show _≤_;simp;have:=hlen.out;have:=hln.out;omega
           have FA4:Hid (C2≠1→FacAt w (some ⟨b2,o2+3,none⟩) L3):=fun _=>FA3
           have FA5:Hid (C2=1→L3=[]):=fun h=>by have:=hk2.out;simp at this;exact List.eq_nil_of_length_eq_zero (by omega)
           clear e0 e1 e2 hlt2 FA3 hc7
           by_cases hC1:C2=1
           · subst hC1
             go_wp2_with fail
             go_region_law
               (first
                 | (refine step_catX (by rfl) _ _ (by rfl) _ (T++P2) [g] (some ⟨_,0,none⟩) 1 1 (by rfl) (by rfl) rfl (I.keep (by go_grown)) (facAt_new _ _) hlx.out (by go_size) ?_
                    intro v' w8 I8 hb8 hs8 hk8 hW8))
             all_goals
               go_wp2_with fail
               (go_roundg (gk-1)
                case measure=>omega
                case rel =>
                  refine⟨0,0,L3,P2++[g],some ⟨b2,o2,none⟩,by omega,rfl,by omega, ?_, ?_, ?_, ?_, ?_, ?_, ?_, ?_, ?_, ?_⟩
                  · show 0=L3.length
                    have:=hk2.out
                    simp at this
                    omega
                  · exact fun hne=>absurd (FA5.out (by simp)) hne
                  · rw [←List.append_assoc];exact I8
                  · exact (hk8 fb _ _ (FB.keeps (by go_grown)) nb.out).2
                  · exact hW8 w (by omega) (later HB (by go_grown))
                  · exact (PB.keeps (by go_grown)).keep hb8 (by omega)
                  · exact (hk8 fb _ _ (FB.keeps (by go_grown)) nb.out).1
                  · obtain⟨q1,q2⟩:=hlow.out
                    obtain⟨q3,q4⟩:=low_cons_lt L3 cg.out
                    exact⟨by rw [q1,q3];simp,by rw [q2,q4]⟩
                  · exact HL2.out.tail
                  · show (P2++[g]).length+0=k
                    have:=hln.out
                    simp
                    omega)
           · go_wp2_with fail
             go_region_law
               (first
                 | (refine step_catX (by rfl) _ _ (by rfl) _ (T++P2) [g] (some ⟨_,0,none⟩) 1 1 (by rfl) (by rfl) rfl (I.keep (by go_grown)) (facAt_new _ _) hlx.out (by go_size) ?_
                    intro v' w8 I8 hb8 hs8 hk8 hW8))
             all_goals
               go_wp2_with fail
               (go_roundg (gk-1)
                case measure=>omega
                case rel =>
                  refine⟨k2-1,C2-1,L3,P2++[g],some ⟨b2,o2+3,none⟩,by omega,rfl,by omega, ?_, ?_, ?_, ?_, ?_, ?_, ?_, ?_, ?_, ?_⟩
                  · show k2-1=L3.length
                    have:=hk2.out
                    simp at this
                    omega
                  · exact FA4.out hC1
                  · rw [←List.append_assoc];exact I8
                  · exact (hk8 fb _ _ (FB.keeps (by go_grown)) nb.out).2
                  · exact hW8 w (by omega) (later HB (by go_grown))
                  · exact (PB.keeps (by go_grown)).keep hb8 (by omega)
                  · exact (hk8 fb _ _ (FB.keeps (by go_grown)) nb.out).1
                  · obtain⟨q1,q2⟩:=hlow.out
                    obtain⟨q3,q4⟩:=low_cons_lt L3 cg.out
                    exact⟨by rw [q1,q3];simp,by rw [q2,q4]⟩
                  · exact HL2.out.tail
                  · show (P2++[g]).length+(k2-1)=k
                    have:=hln.out
                    simp
                    omega)
       | false =>
         have hM2:Hid (((stepF p f L2).bind fun x=>(mergeF p x.2 (Lb.drop (i+1))).map fun r=>P2++(keepF f.1 x.1++r)).map (T++·)=R):=by
           have q:=hM.out
           obtain⟨q1,q2⟩:=hlow.out
           obtain⟨q3,q4⟩:=headLt_no hlt2.out.symm
           rw [q3,List.append_nil] at q1
           rw [q4] at q2
           rw [q1,q2] at q
           exact q
         clear hM hlow hlt2
         have f0:=FB.cell 0 _ rfl
         have f1:=FB.cell 1 _ rfl
         have f2:=FB.cell 2 _ rfl
         have p0:=PB.cell 0 _ rfl
         have p1:=PB.cell 1 _ rfl
         have z1:=FB.froz 1
         have z2:=FB.froz 2
         have cm:=fun W=>mulRat_w f.2.1 f.2.2 p.1 p.2 hfo.out.2 HP.out.2 W
         rcases mulO_cases hfo.out HP.out with ⟨mu,hmu,emu⟩ | ⟨hmu,emu⟩
         · rw [emu] at cm
           have cu:=fun W=>must_ok mu.1 mu.2 W
           obtain⟨rmu, -⟩:=mulO_some hfo.out HP.out hmu
           replace rmu:Hid (ROk mu):=rmu
           replace hM2:Hid (((match L2 with | []=>some (mu,[]) | g :: a=>if g.1=f.1 then (addO g.2 mu).map fun e=>(e,a) else some (mu,g :: a)).bind fun x=>(mergeF p x.2 (Lb.drop (i+1))).map fun r=>P2++(keepF f.1 x.1++r)).map (T++·)=R):=by
             have q:=hM2.out
             unfold stepF at q
             rw [hmu] at q
             exact q
           clear hmu emu
           go_upto_region 10 with (first
             | (go_at_call 81;(with_reducible refine (cm _).mono ?_);rintro _ W1 ⟨rfl,hb1⟩;replace I:=I.keep hb1;replace HB:=later HB hb1;replace PB:=PB.keeps hb1;replace FB:=FB.keeps hb1;clear hb1 f0 f1 f2 p0 p1 z1 z2)
             | (go_at_call 58;(with_reducible refine (cu _).mono ?_);rintro _ W2 ⟨rfl,hb1⟩;replace I:=I.keep hb1;replace HB:=later HB hb1;replace PB:=PB.keeps hb1;replace FB:=FB.keeps hb1;clear hb1;have f1:=FB.cell 1 _ rfl;have f2:=FB.cell 2 _ rfl;have z1:=FB.froz 1;have z2:=FB.froz 2))
           have hne:w.heap.size≠fb:=by have:=PB.lt;intro e;have:=hB3;omega
           have hfb:w.heap.size≤fb:=by omega
           have I2:=(I.off nb.out 1 (.int .i64 mu.1)).off nb.out 2 (.int .i64 mu.2)
           have PB2:=(PB.offCell hne.symm 1 (.int .i64 mu.1)).offCell hne.symm 2 (.int .i64 mu.2)
           have FB2:BlkAt ((W2.setCell ⟨fb,1,none⟩ (.int .i64 mu.1)).setCell ⟨fb,2,none⟩ (.int .i64 mu.2)) fb 104 [.int .i64 f.1,.int .i64 mu.1,.int .i64 mu.2]:=(FB.setCell 1 (.int .i64 mu.1)).setCell 2 (.int .i64 mu.2)
           have HB2:=Below.setCell (Below.setCell HB (p:=⟨fb,1,none⟩) hfb (.int .i64 mu.1)) (p:=⟨fb,2,none⟩) hfb (.int .i64 mu.2)
           clear I FB PB HB f1 f2 z1 z2
           generalize ((W2.setCell ⟨fb,1,none⟩ (.int .i64 mu.1)).setCell ⟨fb,2,none⟩ (.int .i64 mu.2))=V9 at *
           obtain⟨eq,heq2⟩:∃eq,Hid (eq=headEq f.1 L2):=⟨_,rfl⟩
           go_cut [70] from 59 to 70 (fun s70 wy=>s70=.bool eq∧OwnX (w.heap.size+1) wy u7 (T++P2)∧Below w.heap.size w wy∧BlkAt wy w.heap.size 27 [.int .i64 p.1,.int .i64 p.2]∧BlkAt wy fb 104 [.int .i64 f.1,.int .i64 mu.1,.int .i64 mu.2])
           case first =>
             cases L2 with
             | nil =>
               have h0:k2=0:=hk2.out
               have hl:eq=false:=heq2.out
               subst h0 hl
               refine region_behind (by kernel_rfl) (by kernel_rfl) ?_
               repeat (go_big_quiet_step (fail))
               refine wpQuiet_nil ?_
               rintro _ ⟨q,rfl⟩
               obtain⟨W,hb1⟩:=q
               dsimp only
               go_wp2_with fail
               go_meet
               case rel=>exact⟨rfl,I2.keep hb1,later HB2 hb1,PB2.keeps hb1,FB2.keeps hb1⟩
             | cons g L3 =>
               obtain⟨b2,o2,hA2,hbs2,d0, -, -, -⟩:=(FA2.out.keep HB2).head
               subst hA2
               have kd:=fun n:Behind V9=>n.cell d0 hbs2
               have kf:=fun n:Behind V9=>n.cell (FB2.cell 0 _ rfl) FB2.lt
               have hk0:0<k2:=by have:=hk2.out;simp at this;omega
               by_cases c:g.1=f.1
               · have hl:eq=true:=heq2.out.trans (decide_eq_true c)
                 subst hl
                 refine region_behind (by kernel_rfl) (by kernel_rfl) ?_
                 repeat (go_big_quiet_step (fail))
                 refine wpQuiet_nil ?_
                 rintro _ ⟨q,rfl⟩
                 obtain⟨W,hb1⟩:=q
                 dsimp only
                 go_wp2_with fail
                 go_meet
                 case rel=>exact⟨rfl,I2.keep hb1,later HB2 hb1,PB2.keeps hb1,FB2.keeps hb1⟩
               · have hl:eq=false:=heq2.out.trans (decide_eq_false c)
                 have c':(g.1==f.1)=false:=by simpa using c
                 subst hl
                 refine region_behind (by kernel_rfl) (by kernel_rfl) ?_
                 repeat (go_big_quiet_step (fail))
                 refine wpQuiet_nil ?_
                 rintro _ ⟨q,rfl⟩
                 obtain⟨W,hb1⟩:=q
                 dsimp only
                 go_wp2_with fail
                 go_meet
                 case rel=>exact⟨rfl,I2.keep hb1,later HB2 hb1,PB2.keeps hb1,FB2.keeps hb1⟩
           case rest =>
           clear I2 HB2 PB2 FB2
           obtain⟨rfl,I,HB,PB,FB⟩:=hcut
           go_upto_if 70 with fail
           go_cut [0] from 70 to 83 (fun s0 wy=>∃(e:Int×Int) (L3:List Fac) (k3 C3:Nat) (A3:Option Addr),s0=.slice A3 k3 C3∧k3≤C3∧Hid (k3=L3.length)∧Hid (FacAt w A3 L3)∧OwnX (w.heap.size+1) wy u7 (T++P2)∧Below w.heap.size w wy∧BlkAt wy w.heap.size 27 [.int .i64 p.1,.int .i64 p.2]∧BlkAt wy fb 104 [.int .i64 f.1,.int .i64 e.1,.int .i64 e.2]∧Hid (((mergeF p L3 (Lb.drop (i+1))).map fun r=>P2++(keepF f.1 e++r)).map (T++·)=R)∧Hid (FOk L3)∧Hid (k3≤k2)∧Hid (ROk e))
           case first =>
             cases eq with
             | false =>
               have hM3:Hid (((mergeF p L2 (Lb.drop (i+1))).map fun r=>P2++(keepF f.1 mu++r)).map (T++·)=R):=by
                 have q:=hM2.out
                 have h2:=heq2.out
                 cases L2 with
                 | nil=>exact q
                 | cons g L3 =>
                   dsimp only at q
                   rw [if_neg (of_decide_eq_false h2.symm)] at q
                   exact q
               clear hM2 heq2
               go_wp2_with fail
               go_meet
               case rel=>exact⟨mu,L2,k2,C2,A2,rfl,hkC2,hk2,FA2,I,HB,PB,FB,hM3,HL2,Nat.le_refl _,rmu⟩
             | true =>
               cases L2 with
               | nil=>exact absurd heq2.out (by simp [headEq])
               | cons g L3 =>
                 have cg0:g.1=f.1:=of_decide_eq_true heq2.out.symm
                 obtain⟨b2,o2,hA2,hbs2,e0,e1,e2,FA3⟩:=FA2.out.head
                 have d1:=keepsC HB e1 hbs2
                 have d2:=keepsC HB e2 hbs2
                 have hbs3:b2<wc.heap.size:=Nat.lt_of_lt_of_le hbs2 HB.size
                 subst hA2
                 have hk0:0<k2:=by have:=hk2.out;simp at this;omega
                 have hk1:(1:Int)≤(k2:Int):=by omega
                 have hgo:=HL2.out g (List.mem_cons_self ..)
                 have FA4:Hid (C2≠1→FacAt w (some ⟨b2,o2+3,none⟩) L3):=fun _=>FA3
                 have FA5:Hid (C2=1→L3=[]):=fun h=>by have:=hk2.out;simp at this;exact List.eq_nil_of_length_eq_zero (by omega)
                 have hM4:Hid ((((addO g.2 mu).map fun e=>(e,L3)).bind fun x=>(mergeF p x.2 (Lb.drop (i+1))).map fun r=>P2++(keepF f.1 x.1++r)).map (T++·)=R):=by
                   have q:=hM2.out
                   dsimp only at q
                   rw [if_pos cg0] at q
                   exact q
                 have ca:=fun W=>addRat_w g.2.1 g.2.2 mu.1 mu.2 hgo.2 rmu.out.2 W
                 clear hM2 heq2 cg0 FA3 e0 e1 e2
                 rcases addO_cases hgo rmu.out with ⟨e,he,ee⟩ | ⟨he,ee⟩
                 · rw [ee] at ca
                   have cu:=fun W=>must_ok e.1 e.2 W
                   obtain⟨re0, -⟩:=addO_some hgo rmu.out he
                   have re:Hid (ROk e):=re0
                   have hM3:Hid (((mergeF p L3 (Lb.drop (i+1))).map fun r=>P2++(keepF f.1 e++r)).map (T++·)=R):=by
                     have q:=hM4.out
                     rw [he] at q
                     exact q
                   clear hM4 he ee re0 hgo
                   by_cases hC1:C2=1
                   · subst hC1
                     go_wp2_with fail
                     have ka:=fun n:Behind wc=>n.cell d1 hbs3
                     have kb:=fun n:Behind wc=>n.cell d2 hbs3
                     have kc:=fun n:Behind wc=>n.cell (FB.cell 1 _ rfl) FB.lt
                     have kd:=fun n:Behind wc=>n.cell (FB.cell 2 _ rfl) FB.lt
                     refine tail_behind 11 (by kernel_rfl) (by kernel_rfl) ?_
                     simp only [List.take_succ_cons,List.take_zero,List.drop_succ_cons,List.drop_zero]
                     repeat (go_big_quiet_step (first | (go_at_call 80;with_reducible refine Behind.call (ca _)) | (go_at_call 58;with_reducible refine Behind.call (cu _))))
                     refine wpQuiet_nil ?_
                     rintro _ ⟨q,rfl⟩
                     obtain⟨W,hb1⟩:=q
                     dsimp only
                     replace I:=I.keep hb1
                     replace HB:=later HB hb1
                     replace PB:=PB.keeps hb1
                     replace FB:=FB.keeps hb1
                     clear ka kb kc kd hb1 d1 d2
                     have f1:=FB.cell 1 _ rfl
                     have f2:=FB.cell 2 _ rfl
                     have z1:=FB.froz 1
                     have z2:=FB.froz 2
                     go_wp2_with fail
                     go_meet
                     case rel =>
                       exact⟨e,L3,0,0,some ⟨b2,o2,none⟩,rfl,by omega,(by have:=hk2.out;simp at this;show 0=L3.length;omega),(fun hne2=>absurd (FA5.out (by simp)) hne2),(I.off nb.out 1 _).off nb.out 2 _,Below.setCell (Below.setCell HB (p:=⟨fb,1,none⟩) hfb _) (p:=⟨fb,2,none⟩) hfb _,(PB.offCell hne.symm 1 _).offCell hne.symm 2 _,(FB.setCell 1 _).setCell 2 _,hM3,HL2.out.tail,(by show 0≤k2;omega),re⟩
                   · go_wp2_with fail
                     have ka:=fun n:Behind wc=>n.cell d1 hbs3
                     have kb:=fun n:Behind wc=>n.cell d2 hbs3
                     have kc:=fun n:Behind wc=>n.cell (FB.cell 1 _ rfl) FB.lt
                     have kd:=fun n:Behind wc=>n.cell (FB.cell 2 _ rfl) FB.lt
                     refine tail_behind 11 (by kernel_rfl) (by kernel_rfl) ?_
                     simp only [List.take_succ_cons,List.take_zero,List.drop_succ_cons,List.drop_zero]
                     repeat (go_big_quiet_step (first | (go_at_call 80;with_reducible refine Behind.call (ca _)) | (go_at_call 58;with_reducible refine Behind.call (cu _))))
                     refine wpQuiet_nil ?_
                     rintro _ ⟨q,rfl⟩
                     obtain⟨W,hb1⟩:=q
                     dsimp only
                     replace I:=I.keep hb1
                     replace HB:=later HB hb1
                     replace PB:=PB.keeps hb1
                     replace FB:=FB.keeps hb1
                     clear ka kb kc kd hb1 d1 d2
                     have f1:=FB.cell 1 _ rfl
                     have f2:=FB.cell 2 _ rfl
                     have z1:=FB.froz 1
                     have z2:=FB.froz 2
                     go_wp2_with fail
                     go_meet
                     case rel =>
                       exact⟨e,L3,(k2-1),C2-1,some ⟨b2,o2+3,none⟩,rfl,by omega,(by have:=hk2.out;simp at this;show (k2-1)=L3.length;omega),FA4.out hC1,(I.off nb.out 1 _).off nb.out 2 _,Below.setCell (Below.setCell HB (p:=⟨fb,1,none⟩) hfb _) (p:=⟨fb,2,none⟩) hfb _,(PB.offCell hne.symm 1 _).offCell hne.symm 2 _,(FB.setCell 1 _).setCell 2 _,hM3,HL2.out.tail,(by show (k2-1)≤k2;omega),re⟩
                 · have eR:Hid (R=none):=by
                     have q:=hM4.out
                     rw [he] at q
                     exact q.symm
                   obtain⟨xN,xD,ex⟩:∃a b,addV11 g.2.1 g.2.2 mu.1 mu.2=(a,b,3):=⟨_,_,tri_ext ee⟩
                   rw [ex] at ca
                   clear hM4 he ee ex hgo
                   have f1:=FB.cell 1 _ rfl
                   have f2:=FB.cell 2 _ rfl
                   go_wp2_with fail
                   refine wp_region_held_drew (S:=fun w'=>w'.cell? ⟨b2,o2+1,none⟩=some (.int .i64 g.2.1)∧w'.cell? ⟨b2,o2+2,none⟩=some (.int .i64 g.2.2)∧w'.cell? ⟨fb,1,none⟩=some (.int .i64 mu.1)∧w'.cell? ⟨fb,2,none⟩=some (.int .i64 mu.2)) (by kernel_rfl) ⟨d1,d2,f1,f2⟩ (fun hHeld=>?_)
                   refine wpAnyH_take (i:=0) (v:=?_) rfl (by kernel_rfl) (by kernel_rfl) (by kernel_rfl) (fun _ _ _ h=>h) (Or.inl ⟨by rfl, ?_⟩) hHeld ?_;rotate_left;(focus ((intro w hSw;(try dsimp only at hSw);go_simp);try with_reducible rfl));simp only [List.getElem_toArray,List.getElem_cons_zero,Act.put,List.setIfInBounds_toArray,List.set_cons_zero,List.set_cons_succ];refine wpAnyH_take (i:=1) (v:=?_) rfl (by kernel_rfl) (by kernel_rfl) (by kernel_rfl) (fun _ _ _ h=>h) (Or.inl ⟨by rfl, ?_⟩) hHeld ?_;rotate_left;(focus ((intro w hSw;(try dsimp only at hSw);go_simp);try with_reducible rfl));simp only [List.getElem_toArray,List.getElem_cons_zero,List.getElem_cons_succ,Act.put,List.setIfInBounds_toArray,List.set_cons_zero,List.set_cons_succ];refine wpAnyH_take (i:=2) (v:=?_) rfl (by kernel_rfl) (by kernel_rfl) (by kernel_rfl) (fun _ _ _ h=>h) (Or.inl ⟨by rfl, ?_⟩) hHeld ?_;rotate_left;(focus ((intro w hSw;(try dsimp only at hSw);go_simp);try with_reducible rfl));simp only [List.getElem_toArray,List.getElem_cons_zero,List.getElem_cons_succ,Act.put,List.setIfInBounds_toArray,List.set_cons_zero,List.set_cons_succ];refine wpAnyH_take (i:=3) (v:=?_) rfl (by kernel_rfl) (by kernel_rfl) (by kernel_rfl) (fun _ _ _ h=>h) (Or.inl ⟨by rfl, ?_⟩) hHeld ?_;rotate_left;(focus ((intro w hSw;(try dsimp only at hSw);go_simp);try with_reducible rfl));simp only [List.getElem_toArray,List.getElem_cons_zero,List.getElem_cons_succ,Act.put,List.setIfInBounds_toArray,List.set_cons_zero,List.set_cons_succ];refine wpAnyH_take (i:=4) (v:=?_) rfl (by kernel_rfl) (by kernel_rfl) (by kernel_rfl) (fun _ _ _ h=>h) (Or.inl ⟨by rfl, ?_⟩) hHeld ?_;rotate_left;(focus ((intro w hSw;(try dsimp only at hSw);go_simp);try with_reducible rfl));simp only [List.getElem_toArray,List.getElem_cons_zero,List.getElem_cons_succ,Act.put,List.setIfInBounds_toArray,List.set_cons_zero,List.set_cons_succ];refine wpAnyH_take (i:=5) (v:=?_) rfl (by kernel_rfl) (by kernel_rfl) (by kernel_rfl) (fun _ _ _ h=>h) (Or.inl ⟨by rfl, ?_⟩) hHeld ?_;rotate_left;(focus ((intro w hSw;(try dsimp only at hSw);go_simp);try with_reducible rfl));simp only [List.getElem_toArray,List.getElem_cons_zero,List.getElem_cons_succ,Act.put,List.setIfInBounds_toArray,List.set_cons_zero,List.set_cons_succ]
                   have HD:Below wc.heap.size wc wc.drew:=(Below.refl _ _).drew
                   replace HB:=later HB HD
                   replace FB:=FB.keeps HD
                   replace d1:=keepsC HD d1 hbs3
                   replace d2:=keepsC HD d2 hbs3
                   have hbs4:b2<wc.drew.heap.size:=hbs3
                   clear HD f1 f2
                   refine wpAnyH_ready (rs:=[6]) (by kernel_rfl) (by simp) ?_;refine AllReadyH.cons rfl (fun K hK=>?_) AllReadyH.nil;simp only [List.getElem_toArray,List.getElem_cons_zero,List.getElem_cons_succ,Act.put,List.setIfInBounds_toArray,List.set_cons_zero,List.set_cons_succ];go_simp
                   go_at_call 80
                   (with_reducible refine (ca _).mono ?_)
                   rintro _ W0 ⟨rfl,hb1⟩
                   replace HB:=later HB hb1
                   replace FB:=FB.keeps hb1
                   replace d1:=keepsC hb1 d1 hbs4
                   replace d2:=keepsC hb1 d2 hbs4
                   clear hb1
                   dsimp only
                   refine hK.out _ _ ⟨d1,d2,FB.cell 1 _ rfl,FB.cell 2 _ rfl⟩ (fun hHeld=>?_)
                   clear hK K
                   refine wpAnyH_take (i:=7) (v:=?_) rfl (by kernel_rfl) (by kernel_rfl) (by kernel_rfl) (fun _ _ _ h=>h) (Or.inl ⟨by rfl, ?_⟩) hHeld ?_;rotate_left;(focus ((intro w hSw;(try dsimp only at hSw);go_simp);try with_reducible rfl));simp only [List.getElem_toArray,List.getElem_cons_zero,List.getElem_cons_succ,Act.put,List.setIfInBounds_toArray,List.set_cons_zero,List.set_cons_succ];refine wpAnyH_take (i:=8) (v:=?_) rfl (by kernel_rfl) (by kernel_rfl) (by kernel_rfl) (fun _ _ _ h=>h) (Or.inl ⟨by rfl, ?_⟩) hHeld ?_;rotate_left;(focus ((intro w hSw;(try dsimp only at hSw);go_simp);try with_reducible rfl));simp only [List.getElem_toArray,List.getElem_cons_zero,List.getElem_cons_succ,Act.put,List.setIfInBounds_toArray,List.set_cons_zero,List.set_cons_succ]
                   refine wpAnyH_ready (rs:=[9]) (by kernel_rfl) (by simp) ?_;refine AllReadyH.cons rfl (fun K hK=>?_) AllReadyH.nil;simp only [List.getElem_toArray,List.getElem_cons_zero,List.getElem_cons_succ,Act.put,List.setIfInBounds_toArray,List.set_cons_zero,List.set_cons_succ];go_simp
                   go_at_call 58
                   (with_reducible refine (must_no xN xD 3 (by decide) _).mono ?_)
                   rintro _ W1 ⟨rfl,hb1⟩
                   exact⟨rfl,Or.inr ⟨eR.out,rfl⟩,later HB hb1⟩
           case rest =>
           clear I HB PB FB hk2 FA2 HL2 hkC2 hM2 heq2
           obtain⟨e,L3,k3,C3,A3,rfl,hkC3,hk3,FA3,I,HB,PB,FB,hM3,HL3,hle,re⟩:=hcut
           go_upto_region 13 with fail
           go_cut [87] from 84 to 87 (fun s87 wy=>s87=.bool (!decide (e=(0,1)))∧OwnX (w.heap.size+1) wy u7 (T++P2)∧Below w.heap.size w wy∧BlkAt wy w.heap.size 27 [.int .i64 p.1,.int .i64 p.2]∧BlkAt wy fb 104 [.int .i64 f.1,.int .i64 e.1,.int .i64 e.2])
           case first =>
             have ka:=fun n:Behind wc=>n.cell (FB.cell 1 _ rfl) FB.lt
             have kb:=fun n:Behind wc=>n.cell (FB.cell 2 _ rfl) FB.lt
             by_cases c1:e.1=0
             · by_cases c2:e.2=1
               · refine region_behind (by kernel_rfl) (by kernel_rfl) ?_
                 repeat (go_big_quiet_step (first | (go_at_call 56;with_reducible refine Behind.call (cw _))))
                 refine wpQuiet_nil ?_
                 rintro _ ⟨q,rfl⟩
                 obtain⟨W,hb1⟩:=q
                 dsimp only
                 go_wp2_with fail
                 go_meet
                 case rel=>exact⟨by rw [decide_eq_true (Prod.ext c1 c2:e=(0,1))];rfl,I.keep hb1,later HB hb1,PB.keeps hb1,FB.keeps hb1⟩
               · refine region_behind (by kernel_rfl) (by kernel_rfl) ?_
                 repeat (go_big_quiet_step (first | (go_at_call 56;with_reducible refine Behind.call (cw _))))
                 refine wpQuiet_nil ?_
                 rintro _ ⟨q,rfl⟩
                 obtain⟨W,hb1⟩:=q
                 dsimp only
                 go_wp2_with fail
                 go_meet
                 case rel=>exact⟨by rw [decide_eq_false (fun h:e=(0,1)=>c2 (by rw [h]))];rfl,I.keep hb1,later HB hb1,PB.keeps hb1,FB.keeps hb1⟩
             · refine region_behind (by kernel_rfl) (by kernel_rfl) ?_
               repeat (go_big_quiet_step (first | (go_at_call 56;with_reducible refine Behind.call (cw _))))
               refine wpQuiet_nil ?_
               rintro _ ⟨q,rfl⟩
               obtain⟨W,hb1⟩:=q
               dsimp only
               go_wp2_with fail
               go_meet
               case rel=>exact⟨by rw [decide_eq_false (fun h:e=(0,1)=>c1 (by rw [h]))];rfl,I.keep hb1,later HB hb1,PB.keeps hb1,FB.keeps hb1⟩
           case rest =>
           clear I HB PB FB
           obtain⟨rfl,I,HB,PB,FB⟩:=hcut
           have hlx:Hid ((T++P2).length+k2+(m-i)≤1000):=by
             show _≤_
             rw [List.length_append]
             have:=hlen.out
             have:=hln.out
             omega
           have hB5:w.heap.size+1≤wc.heap.size:=PB.lt
           by_cases c:e=(0,1)
           · have hM5:Hid ((mergeF p L3 (Lb.drop (i+1))).map ((T++P2)++·)=R):=by
               have q:=hM3.out
               rw [keepF,if_pos c] at q
               have q2:(mergeF p L3 (Lb.drop (i+1))).map ((T++P2)++·)=((mergeF p L3 (Lb.drop (i+1))).map fun r=>P2++([]++r)).map (T++·):=by
                 cases mergeF p L3 (Lb.drop (i+1)) with
                 | none=>rfl
                 | some r=>simp
               exact q2.trans q
             have cd:decide (e=(0,1))=true:=decide_eq_true c
             rw [cd]
             clear hM3 c cd
             go_wp2_with fail
             (go_roundg (m-i-1)
              case measure=>omega
              case rel=>exact⟨i+1,k3,C3,L3,T++P2,A3,by omega,by go_num,rfl,hkC3,hk3,FA3,I,HB,PB,hM5,HL3,(by show (T++P2).length+k3+(m-(i+1))≤1000;have:=hlx.out;have:=hle.out;omega)⟩)
           · have hM5:Hid ((mergeF p L3 (Lb.drop (i+1))).map ((T++P2++[(f.1,e)])++·)=R):=by
               have q:=hM3.out
               rw [keepF,if_neg c] at q
               have q2:(mergeF p L3 (Lb.drop (i+1))).map ((T++P2++[(f.1,e)])++·)=((mergeF p L3 (Lb.drop (i+1))).map fun r=>P2++([(f.1,e)]++r)).map (T++·):=by
                 cases mergeF p L3 (Lb.drop (i+1)) with
                 | none=>rfl
                 | some r=>simp
               exact q2.trans q
             have cd:decide (e=(0,1))=false:=decide_eq_false c
             rw [cd]
             clear hM3 c cd
             obtain⟨A7,C7,e7,hc7⟩:=I.form
             obtain⟨l7,hl7⟩:∃l7,Hid (l7=(T++P2).length):=⟨_,rfl⟩
             rw [←hl7.out] at e7
             subst e7
             have f0:=FB.cell 0 _ rfl
             have f1:=FB.cell 1 _ rfl
             have f2:=FB.cell 2 _ rfl
             have hly:Hid ((T++P2).length+[(f.1,e)].length≤2000000):=by show _≤_;have:=hlx.out;have e1:[(f.1,e)].length=1:=rfl;rw [e1];omega
             go_wp2_with (at_builtin;refine wpList_catX (by rfl) _ _ (by rfl) _ (T++P2) [(f.1,e)] (some ⟨_,0,none⟩) 1 1 (by rfl) (by rfl) rfl (I.keep (by go_grown)) (facAt_new _ _) hly.out (by go_size) ?_;intro v' w8 I8 hb8 hs8 hk8 hW8)
             (go_roundg (m-i-1)
              case measure=>omega
              case rel=>exact⟨i+1,k3,C3,L3,T++P2++[(f.1,e)],A3,by omega,by go_num,rfl,hkC3,hk3,FA3,I8,hW8 w (by omega) (later HB (by go_grown)),(PB.keeps (by go_grown)).keep hb8 (by omega),hM5,HL3,(by show (T++P2++[(f.1,e)]).length+k3+(m-(i+1))≤1000;rw [List.length_append];have e1:[(f.1,e)].length=1:=rfl;rw [e1];have:=hlx.out;have:=hle.out;omega)⟩)
         · have eR:Hid (R=none):=by
             have q:=hM2.out
             unfold stepF at q
             rw [hmu] at q
             exact q.symm
           obtain⟨xN,xD,ex⟩:∃a b,mulV11 f.2.1 f.2.2 p.1 p.2=(a,b,3):=⟨_,_,tri_ext emu⟩
           rw [ex] at cm
           clear hmu emu ex
           go_wp2_with (first
             | (go_at_call 81;(with_reducible refine (cm _).mono ?_);rintro _ W1 ⟨rfl,hb1⟩;replace HB:=later HB hb1;clear hb1 f0 f1 f2 p0 p1 z1 z2)
             | (go_at_call 58;(with_reducible refine (must_no xN xD 3 (by decide) _).mono ?_);rintro _ W2 ⟨rfl,hb1⟩;exact⟨rfl,Or.inr ⟨eR.out,rfl⟩,later HB hb1⟩))
section
variable {P:Program} {ops:Array Oper} {Q:Exit→Act→World→Prop} {a:Act} {w:World} {rest:List Oper} {o:Oper}
theorem run_loadBig {cs:List Value} {T:TypeId} {p:Operand} (ho:o.op=.load T p) {fs:_} (hu:P.underlying T=some (.struct fs)) (hi:(P.info? T).map (·.size)=some cs.length) {b off:Nat} (hp:a.eval p=.pointer (some ⟨b,off,none⟩))
   (hc:∀j v,cs[j]?=some v→w.cell? ⟨b,off+j,none⟩=some v):(execOp a.eval o).run P w=.ok (.value (.agg cs.toArray)) w:=by
 obtain⟨dst,op,ty,pos,after,guard⟩:=o
 simp only at ho
 subst ho
 have e:(Instr.loadAt T (.pointer (some ⟨b,off,none⟩))).run P w=.ok (.agg cs.toArray) w:=by
   simp only [Instr.loadAt,Instr.sureAddr,Sem.run_bind,Sem.run_pure,Result.andThen]
   exact load_big hu hi hc
 simp only [execOp,hp,Sem.run_bind,e,Result.andThen,Sem.run_pure]
theorem quiet_loadBig {C:World→Prop} {K:Act→Prop} (p:Operand) (T:TypeId) (ho:o.op=.load T p) {fs:_} (hu:P.underlying T=some (.struct fs)) (cs:List Value) (hi:(P.info? T).map (·.size)=some cs.length) {b off:Nat} (hp:a.eval p=.pointer (some ⟨b,off,none⟩))
   (hc:∀w,C w→∀j v,cs[j]?=some v→w.cell? ⟨b,off+j,none⟩=some v) {V:Value} (hV:V=.agg cs.toArray) (h:K (a.put o.dst V)):o.quiet P a C K:=by
 subst hV
 exact⟨_,fun w hw=>by unfold Oper.quietAt;rw [run_loadBig ho hu hi hp (hc w hw)];exact⟨rfl,rfl⟩,h⟩
theorem yields_loadBig {S:World→Prop} (hw:Region.wanted o (yielded ops a.tmps)=true) (p:Operand) (T:TypeId) (ho:o.op=.load T p) {fs:_} (hu:P.underlying T=some (.struct fs)) (cs:List Value) (hi:(P.info? T).map (·.size)=some cs.length) {b off:Nat} (hp:a.eval p=.pointer (some ⟨b,off,none⟩))
   (hc:∀w,S w→∀j v,cs[j]?=some v→w.cell? ⟨b,off+j,none⟩=some v) {V:Value} (hV:V=.agg cs.toArray):YieldsIf P ops S o V a:=by
 subst hV
 exact Or.inl ⟨hw,fun w hS=>run_loadBig ho hu hi hp (hc w hS)⟩
theorem BlkAt.behind {g:Nat} {T:TypeId} {cs:List Value} (h:BlkAt w g T cs):∀W,(∃n:Behind w,W=n.W)→∀j v,cs[j]?=some v→W.cell? ⟨g,0+j,none⟩=some v:=fun W hW j v hv=>by
 obtain⟨n,rfl⟩:=hW
 exact (h.keeps n.bel).cell0 j v hv
end
def dimL (E:Nat→Int×Int):List Value:=[.int .i64 (E 0).1,.int .i64 (E 0).2,.int .i64 (E 1).1,.int .i64 (E 1).2,.int .i64 (E 2).1,.int .i64 (E 2).2,.int .i64 (E 3).1,.int .i64 (E 3).2,.int .i64 (E 4).1,.int .i64 (E 4).2,.int .i64 (E 5).1,.int .i64 (E 5).2,.int .i64 (E 6).1,.int .i64 (E 6).2]
theorem dim_val (E:Nat→Int×Int):dimV E=.agg (dimL E).toArray:=rfl
def proV (E:Nat→Int×Int) (s:Value):Value:=.agg #[.int .i64 (E 0).1,.int .i64 (E 0).2,.int .i64 (E 1).1,.int .i64 (E 1).2,.int .i64 (E 2).1,.int .i64 (E 2).2,.int .i64 (E 3).1,.int .i64 (E 3).2,.int .i64 (E 4).1,.int .i64 (E 4).2,.int .i64 (E 5).1,.int .i64 (E 5).2,.int .i64 (E 6).1,.int .i64 (E 6).2,s]
def proL (E:Nat→Int×Int) (s:Value):List Value:=[.int .i64 (E 0).1,.int .i64 (E 0).2,.int .i64 (E 1).1,.int .i64 (E 1).2,.int .i64 (E 2).1,.int .i64 (E 2).2,.int .i64 (E 3).1,.int .i64 (E 3).2,.int .i64 (E 4).1,.int .i64 (E 4).2,.int .i64 (E 5).1,.int .i64 (E 5).2,.int .i64 (E 6).1,.int .i64 (E 6).2,s]
theorem dim_valU (E:Nat→Int×Int):(.agg #[.int .i64 (E 0).1,.int .i64 (E 0).2,.int .i64 (E 1).1,.int .i64 (E 1).2,.int .i64 (E 2).1,.int .i64 (E 2).2,.int .i64 (E 3).1,.int .i64 (E 3).2,.int .i64 (E 4).1,.int .i64 (E 4).2,.int .i64 (E 5).1,.int .i64 (E 5).2,.int .i64 (E 6).1,.int .i64 (E 6).2]:Value)=.agg (dimL E).toArray:=rfl
theorem pro_val (E:Nat→Int×Int) (s:Value):proV E s=.agg (proL E s).toArray:=rfl
theorem proL_dim {E:Nat→Int×Int} {s:Value} (j:Nat) (v:Value) (h:(dimL E)[j]?=some v):(proL E s)[j]?=some v:=by
 have e:proL E s=dimL E++[s]:=rfl
 have hj:=(List.getElem?_eq_some_iff.1 h).1
 rw [e,List.getElem?_append_left hj]
 exact h
abbrev Pro:=(Nat→Int×Int)×List Fac
def timesP (a b:Pro) (p:Int×Int):Option Pro:=if tmF a.1 b.1 p.1 p.2 7=0 then (mergedF p a.2 b.2).map fun L=>(tmD a.1 b.1 p.1 p.2 7,L) else none
def PrAns (r:Ending) (w:World) (R:Option Pro):Prop:=(∃X s,R=some X∧r=.returned (proV X.1 s)∧FSl w s X.2)∨(R=none∧r=.panicked (stopP 3))
theorem FSl.other {w W:World} {s:Value} {L:List Fac} {g:Nat} {T:TypeId} {cs:List Value} (h:FSl w s L) (hg:BlkAt w g T cs) (hT:T≠104) (k:∀k Tk ck,g≠k→BlkAt w k Tk ck→BlkAt W k Tk ck):FSl W s L:=by
 obtain⟨A,c,e,l,f⟩:=h
 exact⟨A,c,e,l,f.other hg hT k⟩
theorem MgAns.yes {r:Ending} {w:World} {L:List Fac} (h:MgAns r w (some L)):∃s,r=.returned s∧FSl w s L:=by
 rcases h with ⟨L2,s,e,hr,f⟩ | ⟨e,_⟩
 · cases e;exact⟨s,hr,f⟩
 · cases e
theorem MgAns.no {r:Ending} {w:World} (h:MgAns r w none):r=.panicked (stopP 3):=by
 rcases h with ⟨_,_,e,_⟩ | ⟨_,hr⟩
 · cases e
 · exact hr
theorem PrAns.yes {r:Ending} {w:World} {X:Pro} (h:PrAns r w (some X)):∃s,r=.returned (proV X.1 s)∧FSl w s X.2:=by
 rcases h with ⟨L2,s,e,hr,f⟩ | ⟨e,_⟩
 · cases e;exact⟨s,hr,f⟩
 · cases e
theorem PrAns.no {r:Ending} {w:World} (h:PrAns r w none):r=.panicked (stopP 3):=by
 rcases h with ⟨_,_,e,_⟩ | ⟨_,hr⟩
 · cases e
 · exact hr
theorem umerged_w (La Lb:List Fac) (sa sb:Value) (p:Int×Int) (hp:ROk p) (ha:FOk La) (hb:FOk Lb) (hl:La.length+Lb.length≤1000) (w:World) (Fa:FSl w sa La) (Fb:FSl w sb Lb) :
   Calls Try.prog 76 #[sa,sb,.agg #[.int .i64 p.1,.int .i64 p.2]] w fun r w'=>MgAns r w' (mergedF p La Lb)∧Below w.heap.size w w':=by
 obtain⟨A,C,rfl,hC,fa⟩:=Fa
 obtain⟨D,E,rfl,hE,fb⟩:=Fb
 unfold mergedF
 by_cases c:Lb.length=0∨p=(0,1)
 · rw [if_pos c]
   refine (umerged_same A La.length C D Lb.length E p c w).mono ?_
   rintro r w' ⟨rfl,hb1⟩
   exact⟨Or.inl ⟨La,_,rfl,rfl,A,C,rfl,hC,fa.keep hb1⟩,hb1⟩
 · rw [if_neg c]
   exact umerged_core A C D E La Lb La.length Lb.length p rfl rfl (fun h=>c (Or.inl h)) (fun h=>c (Or.inr h)) hp ha hb hl hC w fa fb
set_option maxHeartbeats 1000000 in
theorem uofKnown_w (E:Nat→Int×Int) (w:World):Calls Try.prog 63 #[dimV E] w fun r w'=>r=.returned (proV E (.slice none 0 0))∧Below w.heap.size w w':=by
 have X:BlkAt ((w.alloc (.cells #[.int .i64 (E 0).1,.int .i64 (E 0).2,.int .i64 (E 1).1,.int .i64 (E 1).2,.int .i64 (E 2).1,.int .i64 (E 2).2,.int .i64 (E 3).1,.int .i64 (E 3).2,.int .i64 (E 4).1,.int .i64 (E 4).2,.int .i64 (E 5).1,.int .i64 (E 5).2,.int .i64 (E 6).1,.int .i64 (E 6).2] 30)).alloc (.cells #[.int .i64 0,.int .i64 0,.int .i64 0,.int .i64 0,.int .i64 0,.int .i64 0,.int .i64 0,.int .i64 0,.int .i64 0,.int .i64 0,.int .i64 0,.int .i64 0,.int .i64 0,.int .i64 0,.slice none 0 0] 79)) w.heap.size 30 (dimL E):=(blk_new w 30 (dimL E)).keeps (Below.alloc (Below.refl _ _) (Nat.le_refl _) _)
 have RB:BlkAt ((w.alloc (.cells #[.int .i64 (E 0).1,.int .i64 (E 0).2,.int .i64 (E 1).1,.int .i64 (E 1).2,.int .i64 (E 2).1,.int .i64 (E 2).2,.int .i64 (E 3).1,.int .i64 (E 3).2,.int .i64 (E 4).1,.int .i64 (E 4).2,.int .i64 (E 5).1,.int .i64 (E 5).2,.int .i64 (E 6).1,.int .i64 (E 6).2] 30)).alloc (.cells #[.int .i64 0,.int .i64 0,.int .i64 0,.int .i64 0,.int .i64 0,.int .i64 0,.int .i64 0,.int .i64 0,.int .i64 0,.int .i64 0,.int .i64 0,.int .i64 0,.int .i64 0,.int .i64 0,.slice none 0 0] 79)) (w.heap.size+1) 79 [.int .i64 0,.int .i64 0,.int .i64 0,.int .i64 0,.int .i64 0,.int .i64 0,.int .i64 0,.int .i64 0,.int .i64 0,.int .i64 0,.int .i64 0,.int .i64 0,.int .i64 0,.int .i64 0,.slice none 0 0]:=by
   have:=blk_new (w.alloc (.cells #[.int .i64 (E 0).1,.int .i64 (E 0).2,.int .i64 (E 1).1,.int .i64 (E 1).2,.int .i64 (E 2).1,.int .i64 (E 2).2,.int .i64 (E 3).1,.int .i64 (E 3).2,.int .i64 (E 4).1,.int .i64 (E 4).2,.int .i64 (E 5).1,.int .i64 (E 5).2,.int .i64 (E 6).1,.int .i64 (E 6).2] 30)) 79 [.int .i64 0,.int .i64 0,.int .i64 0,.int .i64 0,.int .i64 0,.int .i64 0,.int .i64 0,.int .i64 0,.int .i64 0,.int .i64 0,.int .i64 0,.int .i64 0,.int .i64 0,.int .i64 0,.slice none 0 0]
   rwa [World.size_alloc] at this
 have HB:Below w.heap.size w ((w.alloc (.cells #[.int .i64 (E 0).1,.int .i64 (E 0).2,.int .i64 (E 1).1,.int .i64 (E 1).2,.int .i64 (E 2).1,.int .i64 (E 2).2,.int .i64 (E 3).1,.int .i64 (E 3).2,.int .i64 (E 4).1,.int .i64 (E 4).2,.int .i64 (E 5).1,.int .i64 (E 5).2,.int .i64 (E 6).1,.int .i64 (E 6).2] 30)).alloc (.cells #[.int .i64 0,.int .i64 0,.int .i64 0,.int .i64 0,.int .i64 0,.int .i64 0,.int .i64 0,.int .i64 0,.int .i64 0,.int .i64 0,.int .i64 0,.int .i64 0,.int .i64 0,.int .i64 0,.slice none 0 0] 79)):=by go_grown
 unfold dimV
 go_enter Try.func63,Try.ntmps63
 go_upto_region 1 with fail
 generalize ((w.alloc (.cells #[.int .i64 (E 0).1,.int .i64 (E 0).2,.int .i64 (E 1).1,.int .i64 (E 1).2,.int .i64 (E 2).1,.int .i64 (E 2).2,.int .i64 (E 3).1,.int .i64 (E 3).2,.int .i64 (E 4).1,.int .i64 (E 4).2,.int .i64 (E 5).1,.int .i64 (E 5).2,.int .i64 (E 6).1,.int .i64 (E 6).2] 30)).alloc (.cells #[.int .i64 0,.int .i64 0,.int .i64 0,.int .i64 0,.int .i64 0,.int .i64 0,.int .i64 0,.int .i64 0,.int .i64 0,.int .i64 0,.int .i64 0,.int .i64 0,.int .i64 0,.int .i64 0,.slice none 0 0] 79))=V1 at *
 go_wp2_with (first
   | (refine wpList_loadBig (by rfl) _ 30 (by rfl) Try.underlying30 (dimL E) (by kernel_rfl) (by rfl) X.cell0 (dim_valU E) ?_)
   | (refine wpList_storeBig (by rfl) _ _ 79 (by rfl) RB (proL E (.slice none 0 0)) (by kernel_rfl) (by rfl) (by rfl) (by rfl) (by rfl) ?_;rintro V2 XB hs2 hB2 -))
 exact bodyPost_ret (v:=proV E (.slice none 0 0)) (results_cell_row Try.results63 _ V2 (w.heap.size+1) 79 (proL E (.slice none 0 0)).toArray (0,0) _ (by rfl) XB Try.underlying79 (by rfl) (by kernel_rfl)) rfl ⟨rfl,hB2 _ _ HB (by omega)⟩
end Go.Proofs.Ytbejmklkicoibaa
