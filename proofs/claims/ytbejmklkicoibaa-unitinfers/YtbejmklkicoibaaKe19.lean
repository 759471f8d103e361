/- Tapes: which operations may be, as the program tells. Trimming: rows of whole numbers and of truths in blocks of the call's own; what is needed, and where it stands now: the plain facts. Trimming: what is needed, and where it stands now: the plain facts, and the program's small functions. Which graphs may be (unit.graphRight, allBelow). Factors as they lie in memory; a slice of them that a call makes. unit.merged: the factors of a b^p. -/
import Derived.Test.YtbejmklkicoibaaKe17
import Derived.Handy
import Derived.WideKeyRuns
import Derived.Test.YtbejmklkicoibaaKe18
import Derived.Deep.AppendLies
import Derived.OwnWalk
import Derived.Test.YtbejmklkicoibaaKe16
import Derived.Deep.RegionLaw
import Derived.Deep.RegionHeld3
namespace Go.Proofs.Ytbejmklkicoibaa
open Go.ChangeShapes Go.WideShapes Go.ChangeAt Go.RowKit
theorem all_upto2 {p:Nat->Bool} {n:Nat}:(List.range n).all p=true↔∀i,i<n->p i=true:=by
 rw [List.all_eq_true]
 exact⟨fun h i hi=>h i (List.mem_range.2 hi),fun h i hi=>h i (List.mem_range.1 hi)⟩
theorem all_not2 {p:Nat->Bool} {n i:Nat} (hi:i<n) (h:p i=false):(List.range n).all p=false:=by
 cases c:(List.range n).all p
 ·rfl
 ·rw [all_upto2.1 c i hi] at h;cases h
def Ins (w:World) (A:Option Addr) (n:Nat) (Y:Nat->Int):Prop :=
 ∀i,i<n->∃b o,A=some ⟨b,o,none⟩/\b<w.heap.size/\w.cell? ⟨b,o+i,none⟩=some (.int .i64 (Y i))
theorem Ins.keep {w w2:World} {A:Option Addr} {n:Nat} {Y:Nat->Int} (h:Ins w A n Y) (hb:Below w.heap.size w w2):Ins w2 A n Y:=fun i hi=>by
 obtain⟨b,o,e,l,c0⟩:=h i hi
 exact⟨b,o,e,Nat.lt_of_lt_of_le l hb.size,keepsC hb c0 l⟩
def Cel (w:World) (g n:Nat) (f:Nat->Value):Prop:=g<w.heap.size/\∀i,i<n->w.cell? ⟨g,i,none⟩=some (f i)/\w.frozen? ⟨g,i,none⟩=false
theorem Cel.keepB {B:Nat} {w w2:World} {g n:Nat} {f:Nat->Value} (h:Cel w g n f) (hb:Below B w w2) (hg:g<B) (hs:w.heap.size<=w2.heap.size):Cel w2 g n f :=
 ⟨Nat.lt_of_lt_of_le h.1 hs,fun i hi=>⟨(hb.cell hg).trans (h.2 i hi).1,(hb.frozen hg).trans (h.2 i hi).2⟩⟩
theorem Cel.keep {w w2:World} {g n:Nat} {f:Nat->Value} (h:Cel w g n f) (hb:Below w.heap.size w w2):Cel w2 g n f :=
 ⟨Nat.lt_of_lt_of_le h.1 hb.size,fun i hi=>⟨keepsC hb (h.2 i hi).1 h.1,keepsF hb (h.2 i hi).2 h.1⟩⟩
theorem Cel.congr {w:World} {g n:Nat} {f k:Nat->Value} (h:Cel w g n f) (e:∀i,i<n->f i=k i):Cel w g n k:=⟨h.1,fun i hi=>by rw [<-e i hi];exact h.2 i hi⟩
theorem Cel.set {w:World} {g n:Nat} {f:Nat->Value} (h:Cel w g n f) (r:Nat) (v:Value) (hr:r<n):Cel (w.setCell ⟨g,r,none⟩ v) g n (fun i=>if i=r then v else f i):=by
 refine⟨by simp only [World.size_setCell];exact h.1,fun i hi=>?_⟩
 obtain⟨a,b⟩:=h.2 i hi
 obtain⟨a',b'⟩:=h.2 r hr
 by_cases e:i=r
 ·subst e
  simp only [if_true]
  exact⟨by go_simp,by go_simp⟩
 ·simp only [e,if_false]
  have m:r≠i:=fun c=>e c.symm
  exact⟨by go_simp,by go_simp⟩
theorem Try.infoInt:(Try.prog.info? 3).map (fun i=>(i.zero,i.size,i.bytes))=some (some (.int .i64 0),1,8):=by kernel_rfl
theorem Try.infoBool:(Try.prog.info? 4).map (fun i=>(i.zero,i.size,i.bytes))=some (some (.bool false),1,1):=by kernel_rfl
theorem made_one (v:Value) (hv:v.cells=#[v]) (n:Nat):(madeCells v.cells (n*1)).toList=List.replicate (n*1) v:=by
 refine List.eq_replicate_iff.2 ⟨by simp [madeCells],fun b hb=>?_⟩
 rw [hv] at hb
 simp [madeCells] at hb
 obtain⟨x, -,hx⟩:=hb
 rw [<-hx]
 have:x%1=0:=by omega
 simp [this]
theorem wpList_makeN {w:World} {ops:Array Oper} {rest:List Oper} {o:Oper} {a:Act} {Q:Exit->Act->World->Prop} (hgd:o.guard=none) (l c:Operand)
  (ho:o.op=.makeSlice 23 l c) (n:Nat) (hl:a.eval l=.int .i64 (n:Int)) (hc:a.eval c=.int .i64 (n:Int)) (hn:n<=3000000)
  (h:∀w',Cel w' w.heap.size n (fun _=>.int .i64 0)->Below w.heap.size w w'->w.heap.size<w'.heap.size->wpList Try.prog ops Q rest (a.put o.dst (.slice (some ⟨w.heap.size,0,none⟩) n n)) w'):wpList Try.prog ops Q (o :: rest) a w:=by
 obtain⟨i0,hi,hz0,hz1,hz2⟩:=info_parts Try.infoInt
 refine wpList_make_full w hgd l c 23 ho w.heap.size 3 i0 (.int .i64 0) 1 Try.underlying23 hi hz0 hz1 .i64 .i64 _ _ n hl hc rfl rfl (by rw [hz2];omega) (by unfold maxLen;omega) (Nat.le_refl _) ?_
 intro w' h1 h2
 have hlt:=(World.ownsRow.lt h1 _ rfl).2
 refine h w' ⟨hlt,fun i hi=>⟨?_,World.ownsRow.frozenAt h1 _⟩⟩ ⟨h2.os,h2.tape,h2.output,h2.size,fun k hk=>h2.block k hk (by simp)⟩ hlt
 rw [World.ownsRow.cellAt h1 i (by omega),made_one _ rfl]
 simp [hi]
theorem wpList_makeB {w:World} {ops:Array Oper} {rest:List Oper} {o:Oper} {a:Act} {Q:Exit->Act->World->Prop} (hgd:o.guard=none) (l c:Operand)
  (ho:o.op=.makeSlice 25 l c) (n:Nat) (hl:a.eval l=.int .i64 (n:Int)) (hc:a.eval c=.int .i64 (n:Int)) (hn:n<=3000000)
  (h:∀w',Cel w' w.heap.size n (fun _=>.bool false)->Below w.heap.size w w'->w.heap.size<w'.heap.size->wpList Try.prog ops Q rest (a.put o.dst (.slice (some ⟨w.heap.size,0,none⟩) n n)) w'):wpList Try.prog ops Q (o :: rest) a w:=by
 obtain⟨i0,hi,hz0,hz1,hz2⟩:=info_parts Try.infoBool
 refine wpList_make_full w hgd l c 25 ho w.heap.size 4 i0 (.bool false) 1 Try.underlying25 hi hz0 hz1 .i64 .i64 _ _ n hl hc rfl rfl (by rw [hz2];omega) (by unfold maxLen;omega) (Nat.le_refl _) ?_
 intro w' h1 h2
 have hlt:=(World.ownsRow.lt h1 _ rfl).2
 refine h w' ⟨hlt,fun i hi=>⟨?_,World.ownsRow.frozenAt h1 _⟩⟩ ⟨h2.os,h2.tape,h2.output,h2.size,fun k hk=>h2.block k hk (by simp)⟩ hlt
 rw [World.ownsRow.cellAt h1 i (by omega),made_one _ rfl]
 simp [hi]
def OwnN (B:Nat) (w:World) (v:Value) (zs:List Int):Prop:=w.ownsRow B 3 1 v zs.length (zs.map fun z=>Value.int .i64 z)
theorem own_keep {B:Nat} {w w2:World} {e:TypeId} {sz:Nat} {v:Value} {n:Nat} {xs:List Value} (h:w.ownsRow B e sz v n xs) (hb:Below w.heap.size w w2):w2.ownsRow B e sz v n xs:=by
 refine⟨h.1, ?_⟩
 rcases h.2 with hn | ⟨g,cap,cur,hv,hb2,hg,rest⟩
 ·exact .inl hn
 ·have hlt:g<w.heap.size:=(Array.getElem?_eq_some_iff.1 hg).1
  refine .inr ⟨g,cap,cur,hv,hb2, ?_,rest⟩
  rw [<-hg]
  exact hb.block g hlt
def setN (s:Nat->Bool) (j:Nat):Nat->Bool:=fun i=>if i=j then true else s i
def outN (Y:Nat->Int):Nat->Nat->Bool
 | 0=>fun _=>false
 | k+1=>setN (outN Y k) (Y k).toNat
def opsG (x:Nd) (i:Int):Bool:=(List.range x.ar).all fun j=>oneOf (x.at j) i
def nodeB (x:Nd) (i:Int):Bool:=kindB x.k&&(fieldB x&&opsG x i)
def graphB (X:Nat->Nd) (n:Nat):Bool:=decide (n<=4000)&&(List.range n).all fun i=>nodeB (X i) (i:Int)
set_option maxHeartbeats 1000000 in
theorem uallBelow_w (D:Option Addr) (m E:Nat) (e:Int) (Y:Nat->Int) (w:World) (VY:Ins w D m Y) (hm:(m:Int)<=9223372036854775807) :
  Calls Try.prog 12 #[.slice D m E,.int .i64 e] w fun r w'=>r=.returned (.bool ((List.range m).all fun i=>oneOf (Y i) e))/\w=w':=by
 obtain⟨R,hR⟩:∃R,Hid (((List.range m).all fun i=>oneOf (Y i) e)=R):=⟨_,rfl⟩
 rw [hR.out]
 go_enter Try.func12,Try.ntmps12
 go_wp2_with fail
 go_loopg [9] m (fun G s9 wx=>wx=w/\∃i:Nat,i+G=m/\s9=.int .i64 (i:Int)/\Hid (∀q,q<i->oneOf (Y q) e=true))
 case atStart=>exact⟨rfl,0,by omega,rfl,fun j hj=>absurd hj (by omega)⟩
 case round =>
  obtain⟨rfl,i,hi,rfl,hall⟩:=hrel
  by_cases ci:i=m
  ·have e1:Hid (true=R):=by have q:=hR.out;subst ci;rw [all_upto2.2 hall] at q;exact q
   clear hR hall
   subst ci
   go_wp2_with fail
   go_ret
   exact⟨by have q:=e1.out;subst q;rfl,rfl⟩
  ·have hlt:(i:Int)<(m:Int):=by omega
   obtain⟨b,o,hA,hb,x0⟩:=VY i (by omega)
   subst hA
   have c1:=fun W=>uisBelow_w (Y i) e W
   have hcase:oneOf (Y i) e=true\/oneOf (Y i) e=false:=by cases oneOf (Y i) e <;> simp
   rcases hcase with hq | hq
   ·rw [hq] at c1
    go_wp2_with (go_at_call 32;refine (c1 _).mono ?_;rintro _ _ ⟨rfl,rfl⟩)
    go_roundg (m-i-1)
    case measure=>omega
    case rel=>exact⟨rfl,i+1,by omega,by go_num,fun q hq'=>by rcases Nat.lt_or_ge q i with h | h;exact hall q h;rw [show q=i by omega];exact hq⟩
   ·rw [hq] at c1
    have e1:Hid (false=R):=by have q:=hR.out;rw [all_not2 (i:=i) (by omega) hq] at q;exact q
    clear hR hall
    go_wp2_with (go_at_call 32;refine (c1 _).mono ?_;rintro _ _ ⟨rfl,rfl⟩)
    go_ret
    exact⟨by have q:=e1.out;subst q;rfl,rfl⟩
set_option maxHeartbeats 4000000 in
set_option maxRecDepth 4000 in
theorem ugraph_w (A:Option Addr) (n C:Nat) (X:Nat->Nd) (hX:∀i,i<n->(X i).Ok) (w:World) (VX:Nds w A n X) (hm:(n:Int)<=9223372036854775807) :
  Calls Try.prog 11 #[.slice A n C] w fun r w'=>r=.returned (.bool (graphB X n))/\Below w.heap.size w w':=by
 obtain⟨R,hR⟩:∃R,Hid (graphB X n=R):=⟨_,rfl⟩
 rw [hR.out]
 by_cases hn:n<=4000
 ·have hR2:Hid (((List.range n).all fun i=>nodeB (X i) (i:Int))=R):=by have q:=hR.out;rw [graphB,decide_eq_true hn,Bool.true_and] at q;exact q
  have hX':Hid (∀i,i<n->(X i).Ok):=hX
  clear hR hX hm
  go_enter Try.func11,Try.ntmps11
  go_wp2_with fail
  go_loopg [12] n (fun G s12 wx=>∃i:Nat,i+G=n/\s12=.int .i64 (i:Int)/\Below w.heap.size w wx/\Hid (∀q,q<i->nodeB (X q) (q:Int)=true))
  case atStart=>exact⟨0,by omega,rfl,by go_grown,fun j hj=>absurd hj (by omega)⟩
  case round =>
   obtain⟨i,hi,rfl,HB,hall⟩:=hrel
   by_cases ci:i=n
   ·have e1:Hid (true=R):=by have q:=hR2.out;subst ci;rw [all_upto2.2 hall] at q;exact q
    clear hR2 hall
    subst ci
    go_wp2_with fail
    go_ret
    exact⟨by have q:=e1.out;subst q;rfl,HB⟩
   ·have hlt:(i:Int)<(n:Int):=by omega
    obtain⟨b,o,hA,hb, -⟩:=(VX.keep HB) i (by omega)
    subst hA
    have o1:=hX'.out i (by omega)
    obtain⟨x,hx⟩:∃x,x=X i:=⟨_,rfl⟩
    have xc:∀j c,(ndL x)[j]?=some c->wr.cell? ⟨b,o+i*22+j,none⟩=some c:=by rw [hx];exact ((VX.keep HB).at (i:=i) (by omega)).2
    rw [<-hx] at o1
    replace xc:Hid _:=xc
    have ck:=fun W=>uisKind_w x.k W
    have cf:=fun W=>ufields_w x o1 W
    have co:=fun W=>uoperands_w x W
    have hbad:∀q:nodeB x (i:Int)=false,Hid (false=R):=fun q=>by have q2:=hR2.out;rw [all_not2 (i:=i) (by omega) (by rw [<-hx];exact q)] at q2;exact q2
    have hnode:Hid (nodeB x (i:Int)=(kindB x.k&&(fieldB x&&opsG x (i:Int)))):=rfl
    have hgood:Hid (nodeB x (i:Int)=true->∀q,q<i+1->nodeB (X q) (q:Int)=true):=fun h q hq'=>by rcases Nat.lt_or_ge q i with h1 | h1;exact hall q h1;rw [show q=i by omega,<-hx];exact h
    have hops:Hid (opsG x (i:Int)=((List.range x.ar).all fun j=>oneOf (x.at j) (i:Int))):=rfl
    have hL2:x.ar<=2:=arG_le x.k
    clear hR2 hx hall o1 hX'
    generalize kindB x.k=k1 at *
    generalize fieldB x=f1 at *
    generalize opsG x (i:Int)=p1 at *
    generalize nodeB x (i:Int)=n1 at *
    obtain⟨L,hL⟩:∃L,L=x.ar:=⟨_,rfl⟩
    rw [<-hL] at co hops hL2
    clear hL
    go_upto_region 6 with (first
     | (refine wpList_loadBig (by rfl) _ 54 (by rfl) Try.underlying54 (ndL x) (by kernel_rfl) (by rfl) xc.out (nd_val x) ?_)
     | (refine wpList_storeBig (by rfl) _ _ 54 (by rfl) (blk_new _ _ _) (ndL x) (by kernel_rfl) (by rfl) (by rfl) (by rfl) (by rfl) ?_;rintro V2 XB hs2 hB2 -;replace HB:=hB2 _ _ (Below.alloc HB HB.size _) HB.size;clear hB2))
    obtain⟨x0,x1,x2,x3,x4,x5,x6,x7⟩:=XB.nd.cells
    cases k1
    ·have e1:=hbad hnode.out
     clear hbad hgood hnode hops cf co
     go_wp2_with (first | (go_at_call 29;refine (ck _).mono ?_;rintro _ _ ⟨rfl,rfl⟩))
     go_ret
     exact⟨by have q:=e1.out;subst q;rfl,HB⟩
    cases f1
    ·have e1:=hbad hnode.out
     clear hbad hgood hnode hops co
     go_wp2_with (first
      | (refine wpList_loadBig (by rfl) _ 54 (by rfl) Try.underlying54 (ndL x) (by kernel_rfl) (by rfl) XB.cell0 (nd_val x) ?_)
      | (go_at_call 29;refine (ck _).mono ?_;rintro _ _ ⟨rfl,rfl⟩)
      | (go_at_call 30;(with_reducible refine (cf _).mono ?_);rintro _ VV ⟨rfl,hb1⟩))
     go_ret
     exact⟨by have q:=e1.out;subst q;rfl,later HB hb1⟩
    replace hnode:Hid (n1=p1):=hnode.out
    go_wp2_with (first
     | (refine wpList_loadBig (by rfl) _ 54 (by rfl) Try.underlying54 (ndL x) (by kernel_rfl) (by rfl) XB.cell0 (nd_val x) ?_)
     | (go_at_call 29;refine (ck _).mono ?_;rintro _ _ ⟨rfl,rfl⟩)
     | (go_at_call 30;(with_reducible refine (cf _).mono ?_);rintro _ VV ⟨rfl,hb1⟩;replace XB:=XB.keeps hb1;replace HB:=later HB hb1;clear hb1 x0 x1 x2 x3 x4 x5 x6 x7;obtain⟨x0,x1,x2,x3,x4,x5,x6,x7⟩:=XB.nd.cells)
     | (go_at_call 31;(with_reducible refine (co _).mono ?_);rintro _ w4 ⟨⟨A4,C4,rfl,kk⟩,hb4⟩;replace HB:=later HB hb4;clear hb4 x0 x1 x2 x3 x4 x5 x6 x7))
    replace kk:Hid _:=kk
    go_loopg [29] L (fun G s29 wy=>wy=w4/\∃j:Nat,j+G=L/\s29=.int .i64 (j:Int)/\Hid (∀q,q<j->oneOf (x.at q) (i:Int)=true))
    case atStart=>exact⟨rfl,0,by omega,rfl,fun j hj=>absurd hj (by omega)⟩
    case round =>
     obtain⟨rfl,j,hj,rfl,hall⟩:=hrel
     by_cases cj:j=L
     ·have e1:Hid (p1=true):=by subst cj;rw [hops.out];exact all_upto2.2 hall
      have e2:=hgood.out (hnode.out.trans e1.out)
      replace e2:Hid _:=e2
      clear hbad hgood hnode hops hall e1 kk
      subst cj
      go_wp2_with fail
      go_roundg (n-i-1)
      case measure=>omega
      case rel=>exact⟨i+1,by omega,by go_num,HB,e2⟩
     ·have hlt2:(j:Int)<(L:Int):=by omega
      obtain⟨B4,hA4, -,hB4,kj⟩:=kk.out j (by omega)
      subst hA4
      have c1:=fun W=>uisBelow_w (x.at j) (i:Int) W
      have hcase:oneOf (x.at j) (i:Int)=true\/oneOf (x.at j) (i:Int)=false:=by cases oneOf (x.at j) (i:Int) <;> simp
      rcases hcase with hq | hq
      ·rw [hq] at c1
       replace hq:Hid _:=hq
       go_wp2_with (go_at_call 32;refine (c1 _).mono ?_;rintro _ _ ⟨rfl,rfl⟩)
       go_roundg (L-j-1)
       case measure=>omega
       case rel=>exact⟨rfl,j+1,by omega,by go_num,fun q hq'=>by rcases Nat.lt_or_ge q j with h | h;exact hall q h;rw [show q=j by omega];exact hq⟩
      ·rw [hq] at c1
       have e0:p1=false:=by rw [hops.out];exact all_not2 (i:=j) (by omega) hq
       have e1:Hid (false=R):=hbad (hnode.out.trans e0)
       clear hbad hgood hnode hops hall e0 hq kk
       go_wp2_with (go_at_call 32;refine (c1 _).mono ?_;rintro _ _ ⟨rfl,rfl⟩)
       go_ret
       exact⟨by have q:=e1.out;subst q;rfl,HB⟩
 ·have e1:Hid (false=R):=by have q:=hR.out;rw [graphB,decide_eq_false hn,Bool.false_and] at q;exact q
  have hn2:4000<(n:Int):=by omega
  clear hR
  go_enter Try.func11,Try.ntmps11
  go_wp2_with fail
  go_ret
  exact⟨by have q:=e1.out;subst q;rfl,by go_grown⟩
def facCells:List Fac->List Value
 | []=>[]
 | f :: L=>.int .i64 f.1 :: .int .i64 f.2.1 :: .int .i64 f.2.2 :: facCells L
theorem facCells_len:∀L,(facCells L).length=L.length*3
 | []=>rfl
 | _ :: L=>by simp only [facCells,List.length_cons,facCells_len L];omega
theorem facCells_append:∀L M,facCells (L++M)=facCells L++facCells M
 | [],_=>rfl
 | _ :: L,M=>by simp only [List.cons_append,facCells,facCells_append L M]
theorem facCells_one:∀L u,u∈facCells L->u.oneCell'=true
 | [],u,h=>by cases h
 | f :: L,u,h=>by
  simp only [facCells,List.mem_cons] at h
  rcases h with h | h | h | h
  ·rw [h];rfl
  ·rw [h];rfl
  ·rw [h];rfl
  ·exact facCells_one L u h
theorem facCells_at:∀(L:List Fac) (i:Nat) (f:Fac),L[i]?=some f->(facCells L)[i*3]?=some (.int .i64 f.1)/\(facCells L)[i*3+1]?=some (.int .i64 f.2.1)/\(facCells L)[i*3+2]?=some (.int .i64 f.2.2)
 | [],i,f,h=>by simp at h
 | g :: L,0,f,h=>by
  simp at h
  subst h
  exact⟨rfl,rfl,rfl⟩
 | g :: L,i+1,f,h=>by
  have h':L[i]?=some f:=by simpa using h
  have:=facCells_at L i f h'
  rw [show (i+1)*3=i*3+3 by omega,show i*3+3+1=(i*3+1)+3 by omega,show i*3+3+2=(i*3+2)+3 by omega]
  exact this
def FacAt (w:World) (A:Option Addr) (M:List Fac):Prop:=M≠[]->∃b o cs,A=some ⟨b,o,none⟩/\BlkAt w b 104 cs/\∀j u,(facCells M)[j]?=some u->cs[o+j]?=some u
theorem FacAt.keep {w W:World} {A:Option Addr} {M:List Fac} (h:FacAt w A M) (k:Below w.heap.size w W):FacAt W A M:=fun hm=>by
 obtain⟨b,o,cs,e,l,c⟩:=h hm
 exact⟨b,o,cs,e,l.keeps k,c⟩
theorem FacAt.other {w W:World} {A:Option Addr} {M:List Fac} {g:Nat} {T:TypeId} {cs:List Value} (h:FacAt w A M) (hg:BlkAt w g T cs) (hT:T≠104) (k:∀k Tk ck,g≠k->BlkAt w k Tk ck->BlkAt W k Tk ck):FacAt W A M:=fun hm=>by
 obtain⟨b,o,cs',e,l,c⟩:=h hm
 refine⟨b,o,cs',e,k b _ _ (fun e2=>?_) l,c⟩
 subst e2
 have q:some (Obj.cells cs.toArray T (0,0))=some (Obj.cells cs'.toArray 104 (0,0)):=hg.symm.trans l
 injection q with q
 injection q with _ q2 _
 exact hT q2
theorem FacAt.head {w:World} {A:Option Addr} {f:Fac} {L:List Fac} (h:FacAt w A (f :: L)) :
  ∃b o,A=some ⟨b,o,none⟩/\b<w.heap.size/\w.cell? ⟨b,o,none⟩=some (.int .i64 f.1)/\w.cell? ⟨b,o+1,none⟩=some (.int .i64 f.2.1)/\w.cell? ⟨b,o+2,none⟩=some (.int .i64 f.2.2)/\FacAt w (some ⟨b,o+3,none⟩) L:=by
 obtain⟨b,o,cs,e,l,c⟩:=h (by simp)
 exact⟨b,o,e,l.lt,l.cell _ _ (c 0 _ rfl),l.cell _ _ (c 1 _ rfl),l.cell _ _ (c 2 _ rfl),fun _=>⟨b,o+3,cs,rfl,l,fun j u hj=>by rw [show o+3+j=o+(j+3) by omega];exact c (j+3) u hj⟩⟩
theorem FacAt.at {w:World} {A:Option Addr} {L:List Fac} (h:FacAt w A L) {i:Nat} {f:Fac} (hi:L[i]?=some f) :
  ∃b o,A=some ⟨b,o,none⟩/\b<w.heap.size/\w.cell? ⟨b,o+i*3,none⟩=some (.int .i64 f.1)/\w.cell? ⟨b,o+i*3+1,none⟩=some (.int .i64 f.2.1)/\w.cell? ⟨b,o+i*3+2,none⟩=some (.int .i64 f.2.2):=by
 obtain⟨b,o,cs,e,l,c⟩:=h (fun e=>by rw [e] at hi;simp at hi)
 obtain⟨c0,c1,c2⟩:=facCells_at L i f hi
 exact⟨b,o,e,l.lt,l.cell _ _ (c _ _ c0),l.cell _ _ (by rw [Nat.add_assoc];exact c _ _ c1),l.cell _ _ (by rw [Nat.add_assoc];exact c _ _ c2)⟩
theorem facAt_blk {w:World} {b:Nat} {L:List Fac} (h:BlkAt w b 104 (facCells L)):FacAt w (some ⟨b,0,none⟩) L:=fun _=>⟨b,0,_,rfl,h,fun j u hj=>by rw [Nat.zero_add];exact hj⟩
theorem facAt_new (w:World) (f:Fac):FacAt (w.alloc (.cells #[.int .i64 f.1,.int .i64 f.2.1,.int .i64 f.2.2] 104)) (some ⟨w.heap.size,0,none⟩) [f]:=facAt_blk (blk_new w 104 (facCells [f]))
def FSl (w:World) (s:Value) (L:List Fac):Prop:=∃A c,s=.slice A L.length c/\L.length<=c/\FacAt w A L
theorem FSl.keep {w W:World} {s:Value} {L:List Fac} (h:FSl w s L) (k:Below w.heap.size w W):FSl W s L:=by
 obtain⟨A,c,e,l,f⟩:=h
 exact⟨A,c,e,l,f.keep k⟩
theorem fSl_nil (w:World):FSl w (.slice none 0 0) []:=⟨none,0,rfl,Nat.le_refl _,fun h=>absurd rfl h⟩
def OwnX (B:Nat) (w:World) (v:Value) (L:List Fac):Prop:=w.ownsRow B 104 3 v L.length (facCells L)
theorem OwnX.keep {B:Nat} {w w2:World} {v:Value} {L:List Fac} (h:OwnX B w v L) (hb:Below w.heap.size w w2):OwnX B w2 v L:=own_keep h hb
theorem OwnX.fsl {B:Nat} {w:World} {v:Value} {L:List Fac} (h:OwnX B w v L):FSl w v L:=by
 have h':w.ownsRow B 104 3 v L.length (facCells L):=h
 rcases h'.2 with ⟨rfl,hn⟩ | ⟨g,cap,cur,rfl, -,hg,hc, -⟩
 ·have:L=[]:=List.eq_nil_of_length_eq_zero (by simpa using hn)
  subst this
  exact fSl_nil w
 ·refine⟨_,_,rfl,hc,fun _=>⟨g,0,cur.toList,rfl,by show w.heap[g]?=_;rw [hg],fun j u hj=>?_⟩⟩
  have hl:j<L.length*3:=by
   have:=(List.getElem?_eq_some_iff.1 hj).1
   rwa [facCells_len] at this
  have h2:=World.ownsRow.cellAt h' j (by omega)
  rw [cell_of_row w g j cur 104 (0,0) hg,hj] at h2
  rw [Nat.zero_add]
  simpa using h2
theorem OwnX.form {B:Nat} {w:World} {v:Value} {L:List Fac} (h:OwnX B w v L):∃A C,v=.slice A L.length C/\L.length<=C:=by
 obtain⟨A,C,e,l, -⟩:=h.fsl
 exact⟨A,C,e,l⟩
theorem OwnX.base {B B':Nat} {w:World} {v:Value} {L:List Fac} (h:OwnX B w v L) (hb:B'<=B):OwnX B' w v L:=by
 refine⟨h.1, ?_⟩
 rcases h.2 with hn | ⟨g,cap,cur,hv,hb2,rest⟩
 ·exact .inl hn
 ·exact .inr ⟨g,cap,cur,hv,Nat.le_trans hb hb2,rest⟩
theorem heap_setCell (w:World) (b j k:Nat) (x:Value) (hne:b≠k):(w.setCell ⟨b,j,none⟩ x).heap[k]?=w.heap[k]?:=by
 show (w.heap.modify b _)[k]?=_
 rw [Array.getElem?_modify,if_neg hne]
theorem OwnX.off {B:Nat} {w:World} {v:Value} {L:List Fac} {b:Nat} (h:OwnX B w v L) (hne:v.ownBlock≠some b) (j:Nat) (x:Value):OwnX B (w.setCell ⟨b,j,none⟩ x) v L:=by
 refine⟨h.1, ?_⟩
 rcases h.2 with hn | ⟨g,cap,cur,hv,hb2,hg,rest⟩
 ·exact .inl hn
 ·refine .inr ⟨g,cap,cur,hv,hb2, ?_,rest⟩
  rw [heap_setCell w b j g x (fun e=>hne (by rw [hv,e];rfl))]
  exact hg
theorem BlkAt.setCell {w:World} {g:Nat} {T:TypeId} {cs:List Value} (h:BlkAt w g T cs) (j:Nat) (x:Value):BlkAt (w.setCell ⟨g,j,none⟩ x) g T (cs.set j x):=by
 show (w.heap.modify g _)[g]?=_
 have h':w.heap[g]?=some (.cells cs.toArray T (0,0)):=h
 rw [Array.getElem?_modify,if_pos rfl,h']
 simp
theorem BlkAt.offCell {w:World} {g b:Nat} {T:TypeId} {cs:List Value} (h:BlkAt w g T cs) (hne:b≠g) (j:Nat) (x:Value):BlkAt (w.setCell ⟨b,j,none⟩ x) g T cs:=(heap_setCell w b j g x hne).trans h
theorem Try.infoFac:(Try.prog.info? 104).map (fun i=>(i.zero,i.size,i.bytes))=some (some (.agg #[.int .i64 0,.int .i64 0,.int .i64 0]),3,24):=by kernel_rfl
theorem wpList_makeX {w:World} {ops:Array Oper} {rest:List Oper} {o:Oper} {a:Act} {Q:Exit->Act->World->Prop} (hgd:o.guard=none) (l c:Operand)
  (ho:o.op=.makeSlice 77 l c) (n:Nat) (hl:a.eval l=.int .i64 0) (hc:a.eval c=.int .i64 (n:Int)) (hn:n<=3000000)
  (h:∀w',OwnX w.heap.size w' (.slice (some ⟨w.heap.size,0,none⟩) 0 n) []->Below w.heap.size w w'->wpList Try.prog ops Q rest (a.put o.dst (.slice (some ⟨w.heap.size,0,none⟩) 0 n)) w'):wpList Try.prog ops Q (o :: rest) a w:=by
 obtain⟨i0,hi,hz0,hz1,hz2⟩:=info_parts Try.infoFac
 refine wpList_make_own w hgd l c 77 ho w.heap.size 104 i0 _ 3 Try.underlying77 hi hz0 hz1 .i64 .i64 _ n hl hc rfl (by rw [hz2];omega) (by unfold maxLen;omega) (Nat.le_refl _) ?_
 intro w' h1 h2
 exact h w' h1 ⟨h2.os,h2.tape,h2.output,h2.size,fun k hk=>h2.block k hk (by simp)⟩
theorem append_none {P:Program} (t ty e:TypeId) (i:TypeInfo) (ht:P.underlying t=some (.slice e)) (hi:P.info? e=some i) (b:Option Addr) (l c:Nat) (hc:l<=c) (x:Option Addr) (d:Nat) (w:World) :
  (Builtin.append_ #[t,t] ty #[.slice b l c,.slice x 0 d]).run P w=.ok (.slice b l c) w:=by
 cases b <;> cases x <;> simp [Builtin.append_,run_underlying ht,sizeOf,typeInfo,hi,Builtin.lenOf,Builtin.firstCells,loadCells,loadCellsFrom,storeCells,hc]
theorem step_catX {B:Nat} {w:World} {ops:Array Oper} {o:Oper} {a:Act} {K:Act->World->Prop} {Q:Exit->Act->World->Prop} {E:Prop} (hgd:o.guard=none) (s x:Operand)
  (ho:o.op=.call { callee:=.builtin .append,args:=#[s,x],argTypes:=#[77,77] }) (v:Value) (L M:List Fac) (X0:Option Addr) (m D:Nat) (hs:a.eval s=v) (hx:a.eval x=.slice X0 m D) (hm:m=M.length)
  (hown:OwnX B w v L) (VY:FacAt w X0 M) (hl:L.length+M.length<=2000000) (hB:B<=w.heap.size)
  (h:∀v' w',OwnX B w' v' (L++M)->Below B w w'->w.heap.size<=w'.heap.size->(∀b T cs,BlkAt w b T cs->v.ownBlock≠some b->BlkAt w' b T cs/\v'.ownBlock≠some b)->(∀W0,W0.heap.size<=B->Below W0.heap.size W0 w->Below W0.heap.size W0 w')->K (a.put o.dst v') w') :
  if Region.wanted o (yielded ops a.tmps)=true then Oper.wp Try.prog o a w K Q else E:=by
 subst hm
 obtain⟨i0,hi,hz0,hz1,hz2⟩:=info_parts Try.infoFac
 by_cases m0:M=[]
 ·subst m0
  obtain⟨b,c,rfl,hc⟩:=hown.form
  have hr:=fun ty=>append_none (P:=Try.prog) 77 ty 104 i0 Try.underlying77 hi b L.length c hc X0 D w
  rw [if_pos (by simp [Region.wanted,hgd])]
  unfold Oper.wp
  simp [execOp,ho,resolve,invoke,builtin,hs,hx,hr,Result.andThen]
  exact h _ _ (by simpa using hown) (Below.refl _ _) (Nat.le_refl _) (fun _ _ _ h1 h2=>⟨h1,h2⟩) (fun _ _ k=>k)
 ·obtain⟨b,o',cs0,rfl,hbk,hcs0⟩:=VY m0
  have hcs:∀j u,(facCells M)[j]?=some u->w.cell? ⟨b,o'+j,none⟩=some u:=fun j u hj=>hbk.cell _ _ (hcs0 j u hj)
  refine step_append_lies w hgd s x 77 ho B 104 i0 _ 3 24 Try.underlying77 hi hz0 hz1 hz2 rfl (by decide) v L.length (facCells L) hs hown ⟨b,o',none⟩ M.length D (facCells M) hx (facCells_len M) (fun j u hj=>by rw [add_plain];exact hcs j u hj) (facCells_one M) (by have:0<M.length:=List.length_pos_iff.2 m0;omega) (by unfold maxLen;omega) (by omega) hB w.heap.size rfl ?_
  intro g cap w' h1 h2 h3 _
  have lt:∀k,v.ownBlock=some k->B<=k:=fun k hk=>(World.ownsRow.lt hown k hk).1
  have hb:Below B w w':=(Below.refl B w).grown h2 hB lt
  refine h _ w' ?_ hb h2.size (fun b T cs h4 hne=>⟨(h2.block b h4.lt (fun e=>hne e.symm)).trans h4,fun e=>by
   have e':g=b:=by injection e
   rcases h3 with h5 | h5
   ·exact hne (by rw [h5,e'])
   ·have:=h4.lt;omega⟩) (fun W0 hW0 k=>k.trans (hb.mono hW0))
  unfold OwnX
  rw [facCells_append,List.length_append]
  exact h1
theorem wpList_catX {B:Nat} {w:World} {ops:Array Oper} {rest:List Oper} {o:Oper} {a:Act} {Q:Exit->Act->World->Prop} (hgd:o.guard=none) (s x:Operand)
  (ho:o.op=.call { callee:=.builtin .append,args:=#[s,x],argTypes:=#[77,77] }) (v:Value) (L M:List Fac) (X0:Option Addr) (m D:Nat) (hs:a.eval s=v) (hx:a.eval x=.slice X0 m D) (hm:m=M.length)
  (hown:OwnX B w v L) (VY:FacAt w X0 M) (hl:L.length+M.length<=2000000) (hB:B<=w.heap.size)
  (h:∀v' w',OwnX B w' v' (L++M)->Below B w w'->w.heap.size<=w'.heap.size->(∀b T cs,BlkAt w b T cs->v.ownBlock≠some b->BlkAt w' b T cs/\v'.ownBlock≠some b)->(∀W0,W0.heap.size<=B->Below W0.heap.size W0 w->Below W0.heap.size W0 w')->wpList Try.prog ops Q rest (a.put o.dst v') w'):wpList Try.prog ops Q (o :: rest) a w :=
 wpList_step fun _ hK=>step_catX hgd s x ho v L M X0 m D hs hx hm hown VY hl hB (fun v' w' h1 h2 h3 h4 h5=>hK _ _ (h v' w' h1 h2 h3 h4 h5))
def MgAns (r:Ending) (w:World) (R:Option (List Fac)):Prop:=(∃L s,R=some L/\r=.returned s/\FSl w s L)\/(R=none/\r=.panicked (stopP 3))
set_option maxHeartbeats 1000000 in
theorem umerged_same (A:Option Addr) (n C:Nat) (D:Option Addr) (m E:Nat) (p:Int×Int) (h:m=0\/p=(0,1)) (w:World) :
  Calls Try.prog 76 #[.slice A n C,.slice D m E,.agg #[.int .i64 p.1,.int .i64 p.2]] w fun r w'=>r=.returned (.slice A n C)/\Below w.heap.size w w':=by
 have PB:BlkAt (w.alloc (.cells #[.int .i64 p.1,.int .i64 p.2] 27)) w.heap.size 27 [.int .i64 p.1,.int .i64 p.2]:=blk_new w _ _
 have HB:Below w.heap.size w (w.alloc (.cells #[.int .i64 p.1,.int .i64 p.2] 27)):=by go_grown
 have cw:=fun W=>uwhole_w 0 W
 by_cases c:m=0
 ·subst c
  clear h
  go_enter Try.func76,Try.ntmps76
  go_upto_region 1 with fail
  generalize (w.alloc (.cells #[.int .i64 p.1,.int .i64 p.2] 27))=V1 at *
  refine region_behind (by kernel_rfl) (by kernel_rfl) ?_
  repeat (go_big_quiet_step (first | (go_at_call 56;with_reducible refine Behind.call (cw _))))
  refine wpQuiet_nil ?_
  rintro _ ⟨q,rfl⟩
  obtain⟨W,hb1⟩:=q
  dsimp only
  go_wp2_with fail
  go_ret
  exact⟨rfl,later HB hb1⟩
 ·have hp:p=(0,1):=h.resolve_left c
  subst hp
  have hm:((m:Int)==0)=false:=by simp;omega
  clear h c
  go_enter Try.func76,Try.ntmps76
  go_upto_region 1 with fail
  generalize (w.alloc (.cells #[.int .i64 0,.int .i64 1] 27))=V1 at *
  have k0:=fun n:Behind V1=>n.cell (PB.cell 0 _ rfl) PB.lt
  have k1:=fun n:Behind V1=>n.cell (PB.cell 1 _ rfl) PB.lt
  refine region_behind (by kernel_rfl) (by kernel_rfl) ?_
  repeat (go_big_quiet_step (first | (go_at_call 56;with_reducible refine Behind.call (cw _))))
  refine wpQuiet_nil ?_
  rintro _ ⟨q,rfl⟩
  obtain⟨W,hb1⟩:=q
  dsimp only
  go_wp2_with fail
  go_ret
  exact⟨rfl,later HB hb1⟩
end Go.Proofs.Ytbejmklkicoibaa
