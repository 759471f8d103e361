/- Slices of intervals that a call makes: one more at their end, as many noughts, and what they hold. The program's Dot, a matrix's first row, and both images of a vector. The program's image of a vector. Columns, and rows of noughts: what the program makes. The program's product of two matrices. The program's Mul; two matrices of the same intervals are the same to the reference. The reference's product of two matrices. -/
import Derived.Test.YtlabmpngbcnhpaaGreatZi22
import Derived.Handy
namespace Go.Proofs.YtlabmpngbcnhpaaGreat
open Go.ChangeShapes Go.WideShapes Go.ChangeAt Go.RowKit
def ivCells (xs:List (Nat×Nat)):List Value:=xs.flatMap fun p=>[.float .f64 p.1,.float .f64 p.2]
theorem ivCells_at (xs:List (Nat×Nat)) (i:Nat) (p:Nat×Nat) (h:xs[i]?=some p):(ivCells xs)[i*2]?=some (.float .f64 p.1)∧(ivCells xs)[i*2+1]?=some (.float .f64 p.2):=by
 induction xs generalizing i with
 | nil=>simp at h
 | cons q t ih =>
   have e:ivCells (q :: t)=.float .f64 q.1 :: .float .f64 q.2 :: ivCells t:=rfl
   rw [e]
   cases i with
   | zero =>
     simp at h
     subst h
     exact⟨rfl,rfl⟩
   | succ i =>
     have h':t[i]?=some p:=by simpa using h
     have:=ih i h'
     rw [show (i+1)*2=i*2+2 by omega,show i*2+2+1=(i*2+1)+2 by omega]
     simpa using this
def OwnI (B:Nat) (w:World) (v:Value) (xs:List (Nat×Nat)):Prop:=w.ownsRow B 36 2 v xs.length (ivCells xs)
theorem Tryz.infoIval:(Tryz.prog.info? 36).map (fun i=>(i.zero,i.size,i.bytes))=some (some (.agg #[.float .f64 0,.float .f64 0]),2,16):=by kernel_rfl
theorem ownI_empty (w:World):OwnI w.heap.size (w.alloc (.cells #[] 36)) (.slice (some ⟨w.heap.size,0,none⟩) 0 0) []:=World.ownsRow_made w #[] 0 (Nat.le_refl _) (Nat.zero_le _) rfl
theorem wpList_pushI {B:Nat} {w0 wr:World} {ops:Array Oper} {rest:List Oper} {o:Oper} {a:Act} {Q:Exit→Act→World→Prop} (hgd:o.guard=none) (s x:Operand)
   (ho:o.op=.call { callee:=.builtin .append,args:=#[s,x],argTypes:=#[29,29] }) (v:Value) (xs:List (Nat×Nat)) (p q:Nat) (hs:a.eval s=v) (hx:a.eval x=.slice (some ⟨wr.heap.size,0,none⟩) 1 1)
   (hown:OwnI B wr v xs) (hl:xs.length≤2000000) (hB:B≤wr.heap.size) (hbel:Below B w0 wr)
   (h:∀v' w',OwnI B w' v' (xs++[(p,q)])→Below B w0 w'→B≤w'.heap.size→wpList Tryz.prog ops Q rest (a.put o.dst v') w'):wpList Tryz.prog ops Q (o :: rest) a (wr.alloc (.cells #[.float .f64 p,.float .f64 q] 36)):=by
 obtain⟨i0,hi,hz0,hz1,hz2⟩:=info_parts Tryz.infoIval
 refine wpList_append_own _ hgd s x 29 ho B 36 i0 (.agg #[.float .f64 0,.float .f64 0]) 2 16 Tryz.underlying29 hi hz0 hz1 hz2 rfl (by decide) v xs.length (ivCells xs) hs (hown.alloc _) ⟨wr.heap.size,0,none⟩ 1 1 [.float .f64 p,.float .f64 q] hx rfl ?_ ?_ (by unfold maxLen;omega) (by omega) (by simp;omega) ?_
 · intro j u hj
   match j,hj with
   | 0,hj=>simp at hj;subst hj;simp [Addr.add]
   | 1,hj=>simp at hj;subst hj;simp [Addr.add]
 · intro u hu
   simp at hu
   rcases hu with rfl | rfl <;> rfl
 · intro v' w' h1 h2 _
   refine h v' w' ?_ ((hbel.alloc hB _).grown h2 (by simp;omega) ?_) (by have:=h2.size;simp at this;omega)
   · unfold OwnI
     have e:ivCells (xs++[(p,q)])=ivCells xs++[.float .f64 p,.float .f64 q]:=by simp [ivCells]
     rw [e,List.length_append]
     exact h1
   · intro k hk
     exact (World.ownsRow.lt hown k hk).1
theorem OwnI.keep {B:Nat} {w w2:World} {v:Value} {xs:List (Nat×Nat)} (h:OwnI B w v xs) (hb:Below w.heap.size w w2):OwnI B w2 v xs:=by
 refine⟨h.1, ?_⟩
 rcases h.2 with hn | ⟨g,cap,cur,hv,hb2,hg,rest⟩
 · exact .inl hn
 · have hlt:g<w.heap.size:=(Array.getElem?_eq_some_iff.1 hg).1
   refine .inr ⟨g,cap,cur,hv,hb2, ?_,rest⟩
   rw [←hg]
   exact hb.block g hlt
def Img (w:World) (g N:Nat) (xs:Nat→Nat×Nat):Prop :=
 g<w.heap.size∧∀i,i<N→w.cell? ⟨g,i*2,none⟩=some (.float .f64 (xs i).1)∧w.cell? ⟨g,i*2+1,none⟩=some (.float .f64 (xs i).2)∧w.frozen? ⟨g,i*2,none⟩=false∧w.frozen? ⟨g,i*2+1,none⟩=false
theorem Img.keep {w w2:World} {g N:Nat} {xs:Nat→Nat×Nat} (h:Img w g N xs) (hb:Below w.heap.size w w2):Img w2 g N xs :=
 ⟨Nat.lt_of_lt_of_le h.1 hb.size,fun i hi=>by obtain⟨a,b,c,d⟩:=h.2 i hi;exact⟨keepsC hb a h.1,keepsC hb b h.1,keepsF hb c h.1,keepsF hb d h.1⟩⟩
theorem Img.set {w:World} {g N:Nat} {xs:Nat→Nat×Nat} (h:Img w g N xs) (r p q:Nat) (hr:r<N):Img ((w.setCell ⟨g,r*2,none⟩ (.float .f64 p)).setCell ⟨g,r*2+1,none⟩ (.float .f64 q)) g N (fun i=>if i=r then (p,q) else xs i):=by
 refine⟨by simp only [World.size_setCell];exact h.1,fun i hi=>?_⟩
 obtain⟨a,b,c,d⟩:=h.2 i hi
 obtain⟨a',b',c',d'⟩:=h.2 r hr
 have ne3:r*2≠r*2+1:=by omega
 have ne4:r*2+1≠r*2:=by omega
 by_cases e:i=r
 · subst e
   simp only [if_true]
   exact⟨by go_simp,by go_simp,by go_simp,by go_simp⟩
 · simp only [e,if_false]
   have n1:i*2≠r*2:=by omega
   have n2:i*2≠r*2+1:=by omega
   have n3:i*2+1≠r*2:=by omega
   have n4:i*2+1≠r*2+1:=by omega
   have m1:r*2≠i*2:=by omega
   have m2:r*2+1≠i*2:=by omega
   have m3:r*2≠i*2+1:=by omega
   have m4:r*2+1≠i*2+1:=by omega
   refine⟨?_, ?_,by go_simp,by go_simp⟩
   · go_simp
   · go_simp
theorem Img.congr {w:World} {g N:Nat} {xs ys:Nat→Nat×Nat} (h:Img w g N xs) (e:∀i,i<N→xs i=ys i):Img w g N ys :=
 ⟨h.1,fun i hi=>by rw [←e i hi];exact h.2 i hi⟩
theorem Img.ivs {w:World} {g N:Nat} {xs:Nat→Nat×Nat} (h:Img w g N xs) (hx:∀i,i<N→(xs i).1<18446744073709551616∧(xs i).2<18446744073709551616):Ivs w (some ⟨g,0,none⟩) N xs:=fun i hi=>by
 obtain⟨a,b, -, -⟩:=h.2 i hi
 exact⟨g,0,rfl,h.1,by rw [Nat.zero_add];exact a,by rw [Nat.zero_add];exact b,hx i hi⟩
theorem wpList_makeI {w:World} {ops:Array Oper} {rest:List Oper} {o:Oper} {a:Act} {Q:Exit→Act→World→Prop} (hgd:o.guard=none) (l c:Operand)
   (ho:o.op=.makeSlice 29 l c) (n:Nat) (hl:a.eval l=.int .i64 (n:Int)) (hc:a.eval c=.int .i64 (n:Int)) (hn:n≤3000000)
   (h:∀w',Img w' w.heap.size n (fun _=>(0,0))→Below w.heap.size w w'→w.heap.size<w'.heap.size→wpList Tryz.prog ops Q rest (a.put o.dst (.slice (some ⟨w.heap.size,0,none⟩) n n)) w'):wpList Tryz.prog ops Q (o :: rest) a w:=by
 obtain⟨i0,hi,hz0,hz1,hz2⟩:=info_parts Tryz.infoIval
 refine wpList_make_full w hgd l c 29 ho w.heap.size 36 i0 (.agg #[.float .f64 0,.float .f64 0]) 2 Tryz.underlying29 hi hz0 hz1 .i64 .i64 _ _ n hl hc rfl rfl (by rw [hz2];omega) (by unfold maxLen;omega) (Nat.le_refl _) ?_
 intro w' h1 h2
 have hlt:=(World.ownsRow.lt h1 _ rfl).2
 refine h w' ⟨hlt,fun i hi=>?_⟩ ⟨h2.os,h2.tape,h2.output,h2.size,fun k hk=>h2.block k hk (by simp)⟩ hlt
 have hc:∀j,j<n*2→w'.cell? ⟨w.heap.size,j,none⟩=some (.float .f64 0):=fun j hj=>by
   have e1:(madeCells (Value.agg #[.float .f64 0,.float .f64 0]).cells (n*2)).toList=List.replicate (n*2) (Value.float .f64 0):=by
     refine List.eq_replicate_iff.2 ⟨by simp [madeCells],fun b hb=>?_⟩
     simp [madeCells,Value.cells] at hb
     obtain⟨x, -,hx⟩:=hb
     rw [←hx]
     have:x%2=0∨x%2=1:=by omega
     rcases this with e | e <;> simp [e]
   rw [World.ownsRow.cellAt h1 j hj,e1]
   simp [hj]
 exact⟨hc _ (by omega),hc _ (by omega),World.ownsRow.frozenAt h1 _,World.ownsRow.frozenAt h1 _⟩
theorem ownI_ivs {B:Nat} {w:World} {v:Value} {xs:List (Nat×Nat)} (h:OwnI B w v xs) (hx:∀p∈xs,p.1<18446744073709551616∧p.2<18446744073709551616):∃A C,v=.slice A xs.length C∧Ivs w A xs.length (fun i=>xs.getD i (0,0)):=by
 have h':w.ownsRow B 36 2 v xs.length (ivCells xs):=h
 rcases h'.2 with ⟨rfl,hn⟩ | ⟨g,cap,cur,rfl, -⟩
 · rw [hn]
   exact⟨none,0,rfl,fun i hi=>by omega⟩
 · refine⟨_,cap,rfl,fun i hi=>?_⟩
   have hl:=(World.ownsRow.lt h g rfl).2
   have hg:xs[i]?=some (xs.getD i (0,0)):=by simp [List.getD,hi]
   obtain⟨a,b⟩:=ivCells_at xs i _ hg
   refine⟨g,0,rfl,hl, ?_, ?_,hx _ ?_⟩
   · rw [Nat.zero_add,World.ownsRow.cellAt h (i*2) (by omega)];exact a
   · rw [Nat.zero_add,World.ownsRow.cellAt h (i*2+1) (by omega)];exact b
   · show xs.getD i (0,0)∈xs
     have:=List.getElem?_eq_some_iff.1 hg
     obtain⟨h1,h2⟩:=this
     rw [←h2]
     exact List.getElem_mem h1
set_option maxHeartbeats 2000000 in
theorem column_w (A:Option Addr) (N C j:Nat) (RA:Nat→Option Addr) (RL RC:Nat→Nat) (X:Nat→Nat→Nat×Nat) (hN:N≤24) (hR:∀r,r<N→j<RL r) (w:World) (V:Rws w A N RA RL RC X) :
   Calls Tryz.prog 52 #[.slice A N C,.int .i64 (j:Int)] w fun e w'=>∃g,e=.returned (.slice (some ⟨g,0,none⟩) N N)∧Img w' g N (fun r=>X r j)∧w.heap.size≤g∧Below w.heap.size w w':=by
 have HR:Hid (∀r,r<N→j<RL r):=hR
 clear hR
 go_enter Tryz.func52,Tryz.ntmps52
 go_wp2_with (at_make;refine wpList_makeI (by rfl) _ _ (by rfl) N (by rfl) (by rfl) (by omega) ?_;intro w3 hI HB hS3)
 go_loopg [12] N (fun G s12 wx=>Below w.heap.size w wx∧∃r:Nat,r+G=N∧s12=.int .i64 (r:Int)∧Img wx w.heap.size N (fun i=>if i<r then X i j else (0,0)))
 case atStart=>exact⟨HB,0,by omega,rfl,hI.congr fun i _=>by simp⟩
 case round =>
   clear HB hI
   obtain⟨HB,r,hr,rfl,hI⟩:=hrel
   by_cases cr:r=N
   · subst cr
     go_wp2_with fail
     go_ret
     exact⟨_,rfl,hI.congr fun i hi=>by simp [hi],Nat.le_refl _,HB⟩
   · have hlt:(r:Int)<(N:Int):=by omega
     obtain⟨b',o',hA,hb',x0,l0,I⟩:=(V.keep HB) r (by omega)
     have hjr:=HR r (by omega)
     have hlt2:(j:Int)<(RL r:Int):=by omega
     obtain⟨b2,o2,hA2,hb2,y0,y1, -, -⟩:=I j hjr
     obtain⟨i0,i1,f0,f1⟩:=id (hI.2 r (by omega))
     subst hA
     rw [hA2] at x0
     go_wp2_with fail
     go_roundg (N-r-1)
     case measure=>omega
     case rel =>
       refine⟨?_,r+1,by omega,by go_num,(hI.set r _ _ (by omega)).congr fun i hi=>?_⟩
       · repeat' (first | (with_reducible exact HB) | (with_reducible refine Below.setCell ?_ ?_ _) | go_size | omega)
       · by_cases e:i=r
         · subst e
           simp
         · simp only [e,if_false]
           by_cases q:i<r
           · simp [q,show i<r+1 by omega]
           · simp [q,show ¬i<r+1 by omega]
def Out (w:World) (g n:Nat) (f:Nat→Value):Prop:=g<w.heap.size∧∀i,i<n→w.cell? ⟨g,i,none⟩=some (f i)∧w.frozen? ⟨g,i,none⟩=false
theorem Out.keep {w w2:World} {g n:Nat} {f:Nat→Value} (h:Out w g n f) (hb:Below w.heap.size w w2):Out w2 g n f :=
 ⟨Nat.lt_of_lt_of_le h.1 hb.size,fun i hi=>⟨keepsC hb (h.2 i hi).1 h.1,keepsF hb (h.2 i hi).2 h.1⟩⟩
theorem Out.congr {w:World} {g n:Nat} {f k:Nat→Value} (h:Out w g n f) (e:∀i,i<n→f i=k i):Out w g n k:=⟨h.1,fun i hi=>by rw [←e i hi];exact h.2 i hi⟩
theorem Out.set {w:World} {g n:Nat} {f:Nat→Value} (h:Out w g n f) (r:Nat) (v:Value) (hr:r<n):Out (w.setCell ⟨g,r,none⟩ v) g n (fun i=>if i=r then v else f i):=by
 refine⟨by simp only [World.size_setCell];exact h.1,fun i hi=>?_⟩
 obtain⟨a,b⟩:=h.2 i hi
 obtain⟨a',b'⟩:=h.2 r hr
 by_cases e:i=r
 · subst e
   simp only [if_true]
   exact⟨by go_simp,by go_simp⟩
 · simp only [e,if_false]
   have m:r≠i:=fun c=>e c.symm
   exact⟨by go_simp,by go_simp⟩
theorem Img.far {w:World} {g N c k:Nat} {xs:Nat→Nat×Nat} (h:Img w g N xs) (hne:c≠g) (v:Value):Img (w.setCell ⟨c,k,none⟩ v) g N xs:=by
 refine⟨by simp only [World.size_setCell];exact h.1,fun i hi=>?_⟩
 obtain⟨a,b,d,e⟩:=h.2 i hi
 have hne':g≠c:=fun e=>hne e.symm
 exact⟨by simp [World.cell?_setCell_far, *],by simp [World.cell?_setCell_far, *],by go_simp,by go_simp⟩
theorem Out.far {w:World} {g n c k:Nat} {f:Nat→Value} (h:Out w g n f) (hne:c≠g) (v:Value):Out (w.setCell ⟨c,k,none⟩ v) g n f:=by
 refine⟨by simp only [World.size_setCell];exact h.1,fun i hi=>?_⟩
 obtain⟨a,b⟩:=h.2 i hi
 have hne':g≠c:=fun e=>hne e.symm
 exact⟨by simp [World.cell?_setCell_far, *],by go_simp⟩
theorem Tryz.infoRow:(Tryz.prog.info? 29).map (fun i=>(i.zero,i.size,i.bytes))=some (some (.slice none 0 0),1,24):=by kernel_rfl
theorem wpList_makeR {w:World} {ops:Array Oper} {rest:List Oper} {o:Oper} {a:Act} {Q:Exit→Act→World→Prop} (hgd:o.guard=none) (l c:Operand)
   (ho:o.op=.makeSlice 23 l c) (n:Nat) (hl:a.eval l=.int .i64 (n:Int)) (hc:a.eval c=.int .i64 (n:Int)) (hn:n≤3000000)
   (h:∀w',Out w' w.heap.size n (fun _=>.slice none 0 0)→Below w.heap.size w w'→w.heap.size<w'.heap.size→wpList Tryz.prog ops Q rest (a.put o.dst (.slice (some ⟨w.heap.size,0,none⟩) n n)) w'):wpList Tryz.prog ops Q (o :: rest) a w:=by
 obtain⟨i0,hi,hz0,hz1,hz2⟩:=info_parts Tryz.infoRow
 refine wpList_make_full w hgd l c 23 ho w.heap.size 29 i0 (.slice none 0 0) 1 Tryz.underlying23 hi hz0 hz1 .i64 .i64 _ _ n hl hc rfl rfl (by rw [hz2];omega) (by unfold maxLen;omega) (Nat.le_refl _) ?_
 intro w' h1 h2
 have hlt:=(World.ownsRow.lt h1 _ rfl).2
 refine h w' ⟨hlt,fun i hi=>⟨?_,World.ownsRow.frozenAt h1 _⟩⟩ ⟨h2.os,h2.tape,h2.output,h2.size,fun k hk=>h2.block k hk (by simp)⟩ hlt
 have e1:(madeCells (Value.slice none 0 0).cells (n*1)).toList=List.replicate (n*1) (Value.slice none 0 0):=by
   refine List.eq_replicate_iff.2 ⟨by simp [madeCells],fun b hb=>?_⟩
   simp [madeCells,Value.cells] at hb
   obtain⟨x, -,hx⟩:=hb
   rw [←hx]
   have:x%1=0:=by omega
   simp [this]
 rw [World.ownsRow.cellAt h1 i (by omega),e1]
 simp [hi]
structure Grd (w:World) (g n m:Nat) (h:Nat→Nat) (F:Nat→Nat→Nat×Nat):Prop where
 out:Out w g n (fun r=>.slice (some ⟨h r,0,none⟩) m m)
 row:∀r,r<n→Img w (h r) m (F r)
 ne:∀r,r<n→h r≠g
 inj:∀r,r<n→∀s,s<n→r≠s→h r≠h s
set_option maxHeartbeats 2000000 in
theorem grid_w (n m:Nat) (hn:n≤24) (hm:m≤24) (w:World) :
   Calls Tryz.prog 41 #[.int .i64 (n:Int),.int .i64 (m:Int)] w fun e w'=>∃g h,e=.returned (.slice (some ⟨g,0,none⟩) n n)∧Grd w' g n m h (fun _ _=>(0,0))∧w.heap.size≤g∧(∀r,r<n→w.heap.size≤h r)∧Below w.heap.size w w':=by
 go_enter Tryz.func41,Tryz.ntmps41
 go_wp2_with (at_make;refine wpList_makeR (by rfl) _ _ (by rfl) n (by rfl) (by rfl) (by omega) ?_;intro w3 hO HB hS3)
 go_loopg [11] n (fun G s11 wx=>Below w.heap.size w wx∧∃(r:Nat) (h:Nat→Nat),r+G=n∧s11=.int .i64 (r:Int)∧Out wx w.heap.size n (fun i=>if i<r then .slice (some ⟨h i,0,none⟩) m m else .slice none 0 0) ∧
   Hid (∀i,i<r→Img wx (h i) m (fun _=>(0,0))∧w.heap.size<h i)∧Hid (∀i,i<r→∀j,j<r→i≠j→h i≠h j))
 case atStart=>exact⟨HB,0,fun _=>0,by omega,rfl,hO.congr fun i _=>by simp,fun i hi=>absurd hi (by omega),fun i hi=>absurd hi (by omega)⟩
 case round =>
   clear HB hO
   obtain⟨HB,r,h,hr,rfl,hO,hI,hJ⟩:=hrel
   by_cases cr:r=n
   · subst cr
     go_wp2_with fail
     go_ret
     exact⟨_,h,rfl,⟨hO.congr fun i hi=>by simp [hi],fun i hi=>(hI i hi).1,fun i hi=>by have:=(hI i hi).2;omega,hJ⟩,Nat.le_refl _,fun i hi=>by have:=(hI i hi).2;omega,HB⟩
   · have hlt:(r:Int)<(n:Int):=by omega
     have hg:w.heap.size<wr.heap.size:=hO.1
     go_wp2_with (at_make;refine wpList_makeI (by rfl) _ _ (by rfl) m (by rfl) (by rfl) (by omega) ?_;intro w4 hI4 hb4 hS4;replace HB:=later HB hb4;replace hO:=hO.keep hb4;obtain⟨o0,o1⟩:=id (hO.2 r (by omega)))
     go_roundg (n-r-1)
     case measure=>omega
     case rel =>
       have ne:w.heap.size≠wr.heap.size:=by omega
       refine⟨?_,r+1,fun i=>if i=r then wr.heap.size else h i,by omega,by go_num,(hO.set r _ (by omega)).congr fun i hi=>?_,fun i hi=>?_,fun i hi j hj hij=>?_⟩
       · repeat' (first | (with_reducible exact HB) | (with_reducible refine Below.setCell ?_ ?_ _) | go_size | omega)
       · by_cases e:i=r
         · subst e
           simp
         · simp only [e,if_false]
           by_cases q:i<r
           · simp [q,show i<r+1 by omega]
           · simp [q,show ¬i<r+1 by omega]
       · by_cases e:i=r
         · simp only [e,if_true]
           exact⟨hI4.far ne _,hg⟩
         · simp only [e,if_false]
           have q:=hI i (by omega)
           exact⟨(q.1.keep hb4).far (by have:=q.2;omega) _,q.2⟩
       · have f:∀k,k<r→h k<wr.heap.size:=fun k hk=>(hI k hk).1.1
         by_cases e:i=r
         · by_cases e':j=r
           · omega
           · simp only [e,e',if_true,if_false]
             have:=f j (by omega)
             omega
         · by_cases e':j=r
           · simp only [e,e',if_true,if_false]
             have:=f i (by omega)
             omega
           · simp only [e,e',if_false]
             exact hJ i (by omega) j (by omega) hij
theorem Grd.keep {w w2:World} {g n m:Nat} {h:Nat→Nat} {F:Nat→Nat→Nat×Nat} (G:Grd w g n m h F) (hb:Below w.heap.size w w2):Grd w2 g n m h F :=
 ⟨G.out.keep hb,fun r hr=>(G.row r hr).keep hb,G.ne,G.inj⟩
theorem Grd.congr {w:World} {g n m:Nat} {h:Nat→Nat} {F E:Nat→Nat→Nat×Nat} (G:Grd w g n m h F) (e:∀r,r<n→∀c,c<m→F r c=E r c):Grd w g n m h E :=
 ⟨G.out,fun r hr=>(G.row r hr).congr (e r hr),G.ne,G.inj⟩
theorem Grd.set {w:World} {g n m:Nat} {h:Nat→Nat} {F:Nat→Nat→Nat×Nat} (G:Grd w g n m h F) (i j p q:Nat) (hi:i<n) (hj:j<m) :
   Grd ((w.setCell ⟨h i,j*2,none⟩ (.float .f64 p)).setCell ⟨h i,j*2+1,none⟩ (.float .f64 q)) g n m h (fun r c=>if r=i∧c=j then (p,q) else F r c):=by
 refine⟨(G.out.far (G.ne i hi) _).far (G.ne i hi) _,fun r hr=>?_,G.ne,G.inj⟩
 by_cases e:r=i
 · subst e
   exact ((G.row r hr).set j p q hj).congr fun c _=>by simp
 · refine (((G.row r hr).far (G.inj i hi r hr (fun c=>e c.symm)) _).far (G.inj i hi r hr (fun c=>e c.symm)) _).congr fun c _=>?_
   simp [e]
def prodI (X Y:Nat→Nat→Nat×Nat) (M i j:Nat):Nat×Nat:=dotP (X i) (fun s=>Y s j) M
theorem rws_words {w:World} {A:Option Addr} {N:Nat} {RA:Nat→Option Addr} {RL RC:Nat→Nat} {X:Nat→Nat→Nat×Nat} (V:Rws w A N RA RL RC X) {r c:Nat} (hr:r<N) (hc:c<RL r):(X r c).1<18446744073709551616∧(X r c).2<18446744073709551616:=by
 obtain⟨b,o, -, -, -, -,I⟩:=V r hr
 exact ivs_words I c hc
set_option maxHeartbeats 4000000 in
theorem prodM_w (A B:Option Addr) (N M L C D:Nat) (RA SA:Nat→Option Addr) (RL RC SL SC:Nat→Nat) (X Y:Nat→Nat→Nat×Nat) (hN:N≤24) (hM:M≤24) (hM0:0<M) (hL:L≤24) (hR:∀r,r<N→RL r=M) (hS:∀s,s<M→SL s=L) (w:World) (V:Rws w A N RA RL RC X) (U:Rws w B M SA SL SC Y) :
   Calls Tryz.prog 19 #[.slice A N C,.slice B M D] w fun e w'=>∃g h,e=.returned (.slice (some ⟨g,0,none⟩) N N)∧Grd w' g N L h (prodI X Y M)∧Below w.heap.size w w':=by
 have HR:Hid (∀r,r<N→RL r=M):=hR
 have HS:Hid (∀s,s<M→SL s=L):=hS
 have hS0:(SL 0:Int)=(L:Int):=by rw [hS 0 hM0]
 have h4:(0:Int)<(M:Int):=by omega
 obtain⟨b,o,hB,hb,x0, -, -⟩:=U 0 hM0
 rw [Nat.add_zero,hS 0 hM0] at x0
 clear hR hS hS0
 have cg:=fun w=>grid_w N L hN hL w
 subst hB
 go_enter Tryz.func19,Tryz.ntmps19
 go_wp2_with (go_at_call 41;refine (cg _).mono ?_;rintro _ w1 ⟨g,h,rfl,G0,hg,hh,HB⟩;have x1:=keepsC HB x0 hb)
 clear x0 cg
 go_loopg [21] L (fun G s21 wx=>Below w.heap.size w wx∧∃j:Nat,j+G=L∧s21=.int .i64 (j:Int)∧Grd wx g N L h (fun r c=>if c<j then prodI X Y M r c else (0,0)))
 case atStart=>exact⟨HB,0,by omega,rfl,G0.congr fun r _ c _=>by simp⟩
 case round =>
   clear HB G0 x1
   obtain⟨HB,j,hj,rfl,G0⟩:=hrel
   by_cases cj:j=L
   · subst cj
     go_wp2_with fail
     go_ret
     exact⟨g,h,rfl,G0.congr fun r _ c hc=>by simp [hc],HB⟩
   · have hltj:(j:Int)<(L:Int):=by omega
     have cc:=column_w (some ⟨b,o,none⟩) M D j SA SL SC Y hM (fun s hs=>by have:=HS s hs;omega) wr (U.keep HB)
     go_wp2_with (go_at_call 52;refine cc.mono ?_;rintro _ w2 ⟨vb,rfl,hV,hvb,hb1⟩)
     have HV:Hid (∀r,r<N→h r<vb):=fun r hr=>Nat.lt_of_lt_of_le (G0.row r hr).1 hvb
     have hgv:g<vb:=Nat.lt_of_lt_of_le G0.out.1 hvb
     replace G0:=G0.keep hb1
     replace HB:=later HB hb1
     clear hb1 hvb cc
     go_loopg [29] N (fun G s29 wy=>Below w.heap.size w wy∧∃i:Nat,i+G=N∧s29=.int .i64 (i:Int)∧Grd wy g N L h (fun r c=>if c<j∨(c=j∧r<i) then prodI X Y M r c else (0,0))∧Img wy vb M (fun s=>Y s j))
     case atStart=>exact⟨HB,0,by omega,rfl,G0.congr fun r _ c _=>by simp,hV⟩
     case round =>
       clear HB G0 hV
       obtain⟨HB,i,hi,rfl,G0,hV⟩:=hrel
       by_cases ci:i=N
       · subst ci
         go_wp2_with fail
         go_roundg (L-j-1)
         case measure=>omega
         case rel =>
           refine⟨HB,j+1,by omega,by go_num,G0.congr fun r hr c _=>?_⟩
           by_cases q:c<j+1
           · simp [q,show c<j∨c=j∧r<i by omega]
           · simp [q,show ¬(c<j∨c=j∧r<i) by omega]
       · have hlti:(i:Int)<(N:Int):=by omega
         obtain⟨b',o',hA,hb',y0,l0,I⟩:=(V.keep HB) i (by omega)
         have hw:∀s,s<M→(Y s j).1<18446744073709551616∧(Y s j).2<18446744073709551616:=fun s hs=>rws_words U hs (by have:=HS s hs;omega)
         have cd:∀n:Behind wr,Calls Tryz.prog 53 #[.slice (RA i) (RL i) (RC i),.slice (some ⟨vb,0,none⟩) M M] n.W fun e w'=>e=.returned (.agg #[.float .f64 (prodI X Y M i j).1,.float .f64 (prodI X Y M i j).2])∧Below n.W.heap.size n.W w':=fun n=>by
           have q:=dot_w (RA i) (some ⟨vb,0,none⟩) (RL i) M (RC i) M (X i) (fun s=>Y s j) l0 (by omega) (by have:=HR i (by omega);omega) n.W (I.keep n.bel) ((hV.ivs hw).keep n.bel)
           have e1:dotP (X i) (fun s=>Y s j) (RL i)=prodI X Y M i j:=by rw [HR i (by omega)];rfl
           rw [e1] at q
           exact q
         obtain⟨g0, -⟩:=G0.out.2 i (by omega)
         have gl:=G0.out.1
         subst hA
         go_upto_region 9 with fail
         have kg0:=fun n:Behind wr=>n.cell g0 gl
         refine tail_behind 9 (by kernel_rfl) (by kernel_rfl) ?_
         simp only [List.take_succ_cons,List.take_zero,List.drop_succ_cons,List.drop_zero]
         repeat (go_big_quiet_step (first
           | (go_at_call 53;with_reducible refine Behind.call (cd _))))
         refine wpQuiet_nil ?_
         rintro _ ⟨q,rfl⟩
         obtain⟨W,hb1⟩:=q
         dsimp only
         clear kg0 g0 gl cd
         replace G0:=G0.keep hb1
         replace hV:=hV.keep hb1
         replace HB:=later HB hb1
         clear hb1
         obtain⟨i0,i1,f0,f1⟩:=id ((G0.row i (by omega)).2 j (by omega))
         go_wp2_with fail
         go_roundg (N-i-1)
         case measure=>omega
         case rel =>
           have hne:h i≠vb:=by have:=HV i (by omega);omega
           have hhi:=hh i (by omega)
           refine⟨?_,i+1,by omega,by go_num,(G0.set i j _ _ (by omega) (by omega)).congr fun r hr c hc=>?_,(hV.far hne _).far hne _⟩
           · repeat' (first | (with_reducible exact HB) | (with_reducible refine Below.setCell ?_ ?_ _) | go_size | omega)
           · by_cases e:r=i∧c=j
             · obtain⟨rfl,rfl⟩:=e
               simp
             · rw [if_neg e]
               by_cases q:c<j∨c=j∧r<i
               · rw [if_pos q,if_pos (by omega)]
               · rw [if_neg q,if_neg (by omega)]
theorem Grd.rws {w:World} {g n m:Nat} {h:Nat→Nat} {F:Nat→Nat→Nat×Nat} (G:Grd w g n m h F) (hm:m≤9223372036854775807) (hF:∀r,r<n→∀c,c<m→(F r c).1<18446744073709551616∧(F r c).2<18446744073709551616) :
   Rws w (some ⟨g,0,none⟩) n (fun r=>some ⟨h r,0,none⟩) (fun _=>m) (fun _=>m) F:=fun r hr =>
 ⟨g,0,rfl,G.out.1,by rw [Nat.zero_add];exact (G.out.2 r hr).1,hm,(G.row r hr).ivs (hF r hr)⟩
def OwnR (B:Nat) (w:World) (v:Value) (vs:List Value):Prop:=w.ownsRow B 29 1 v vs.length vs
theorem ownR_empty (w:World):OwnR w.heap.size (w.alloc (.cells #[] 29)) (.slice (some ⟨w.heap.size,0,none⟩) 0 0) []:=World.ownsRow_made w #[] 0 (Nat.le_refl _) (Nat.zero_le _) rfl
theorem OwnR.keep {B:Nat} {w w2:World} {v:Value} {vs:List Value} (h:OwnR B w v vs) (hb:Below w.heap.size w w2):OwnR B w2 v vs:=by
 refine⟨h.1, ?_⟩
 rcases h.2 with hn | ⟨g,cap,cur,hv,hb2,hg,rest⟩
 · exact .inl hn
 · have hlt:g<w.heap.size:=(Array.getElem?_eq_some_iff.1 hg).1
   refine .inr ⟨g,cap,cur,hv,hb2, ?_,rest⟩
   rw [←hg]
   exact hb.block g hlt
theorem OwnI.base {B B':Nat} {w:World} {v:Value} {xs:List (Nat×Nat)} (h:OwnI B w v xs) (hb:B'≤B):OwnI B' w v xs:=by
 refine⟨h.1, ?_⟩
 rcases h.2 with hn | ⟨g,cap,cur,hv,hb2,rest⟩
 · exact .inl hn
 · exact .inr ⟨g,cap,cur,hv,Nat.le_trans hb hb2,rest⟩
theorem own_apart {B:Nat} {w:World} {u v:Value} {xs:List (Nat×Nat)} {vs:List Value} (h:OwnI B w u xs) (k:OwnR B w v vs):u.ownBlock=none∨u.ownBlock≠v.ownBlock:=by
 rcases h.2 with ⟨rfl, -⟩ | ⟨g,cap,cur,rfl, -,hg, -⟩
 · exact .inl rfl
 · right
   rcases k.2 with ⟨rfl, -⟩ | ⟨g',cap',cur',rfl, -,hg', -⟩
   · intro e
     cases e
   · intro e
     have e':g=g':=Option.some.inj e
     subst e'
     rw [hg] at hg'
     simp at hg'
theorem wpList_pushR {B:Nat} {w0 wr:World} {ops:Array Oper} {rest:List Oper} {o:Oper} {a:Act} {Q:Exit→Act→World→Prop} (hgd:o.guard=none) (s x:Operand)
   (ho:o.op=.call { callee:=.builtin .append,args:=#[s,x],argTypes:=#[23,23] }) (v:Value) (vs:List Value) (A:Option Addr) (n c:Nat) (hs:a.eval s=v) (hx:a.eval x=.slice (some ⟨wr.heap.size,0,none⟩) 1 1)
   (hown:OwnR B wr v vs) (hl:vs.length≤2000000) (hB:B≤wr.heap.size) (hbel:Below B w0 wr)
   (h:∀v' w',OwnR B w' v' (vs++[.slice A n c])→Below B w0 w'→B≤w'.heap.size→(∀u xs,OwnI B wr u xs→OwnI B w' u xs)→wpList Tryz.prog ops Q rest (a.put o.dst v') w'):wpList Tryz.prog ops Q (o :: rest) a (wr.alloc (.cells #[.slice A n c] 29)):=by
 obtain⟨i0,hi,hz0,hz1,hz2⟩:=info_parts Tryz.infoRow
 have hal:Below wr.heap.size wr (wr.alloc (.cells #[.slice A n c] 29)):=(Below.refl _ _).alloc (Nat.le_refl _) _
 refine wpList_append_own _ hgd s x 23 ho B 29 i0 (.slice none 0 0) 1 24 Tryz.underlying23 hi hz0 hz1 hz2 rfl (by decide) v vs.length vs hs (hown.keep hal) ⟨wr.heap.size,0,none⟩ 1 1 [.slice A n c] hx rfl ?_ ?_ (by unfold maxLen;omega) (by omega) (by simp;omega) ?_
 · intro j u hj
   match j,hj with
   | 0,hj=>simp at hj;subst hj;simp [Addr.add]
 · intro u hu
   simp at hu
   rw [hu]
   rfl
 · intro v' w' h1 h2 _
   refine h v' w' ?_ ((hbel.alloc hB _).grown h2 (by simp;omega) ?_) (by have:=h2.size;simp at this;omega) fun u xs hu=>?_
   · unfold OwnR
     rw [List.length_append]
     exact h1
   · intro k hk
     exact (World.ownsRow.lt hown k hk).1
   · exact World.ownsRow.kept (hu.keep hal) h2 (own_apart (hu.keep hal) (hown.keep hal))
theorem dotP_congr {X X' Y Y':Nat→Nat×Nat} (n:Nat) (hx:∀i,i<n→X i=X' i) (hy:∀i,i<n→Y i=Y' i):dotP X Y n=dotP X' Y' n:=by
 induction n with
 | zero=>rfl
 | succ n ih =>
   show addP (dotP X Y n).1 (dotP X Y n).2 (mulP (X n).1 (X n).2 (Y n).1 (Y n).2).1 (mulP (X n).1 (X n).2 (Y n).1 (Y n).2).2=addP (dotP X' Y' n).1 (dotP X' Y' n).2 (mulP (X' n).1 (X' n).2 (Y' n).1 (Y' n).2).1 (mulP (X' n).1 (X' n).2 (Y' n).1 (Y' n).2).2
   rw [ih (fun i hi=>hx i (by omega)) (fun i hi=>hy i (by omega)),hx n (by omega),hy n (by omega)]
def colL (Y:Nat→Nat→Nat×Nat) (j n:Nat):List (Nat×Nat):=(List.range n).map fun s=>Y s j
def rowL (X Y:Nat→Nat→Nat×Nat) (M i n:Nat):List (Nat×Nat):=(List.range n).map fun c=>prodI X Y M i c
theorem colL_step (Y:Nat→Nat→Nat×Nat) (j n:Nat):colL Y j (n+1)=colL Y j n++[((Y n j).1,(Y n j).2)]:=by
 unfold colL;rw [List.range_succ,List.map_append];rfl
theorem rowL_step (X Y:Nat→Nat→Nat×Nat) (M i n:Nat):rowL X Y M i (n+1)=rowL X Y M i n++[((prodI X Y M i n).1,(prodI X Y M i n).2)]:=by
 unfold rowL;rw [List.range_succ,List.map_append];rfl
theorem colL_len (Y:Nat→Nat→Nat×Nat) (j n:Nat):(colL Y j n).length=n:=by simp [colL]
theorem rowL_len (X Y:Nat→Nat→Nat×Nat) (M i n:Nat):(rowL X Y M i n).length=n:=by simp [rowL]
theorem colL_at (Y:Nat→Nat→Nat×Nat) (j n t:Nat) (ht:t<n):(colL Y j n).getD t (0,0)=Y t j:=by simp [colL,List.getD,ht]
theorem rowL_at (X Y:Nat→Nat→Nat×Nat) (M i n t:Nat) (ht:t<n):(rowL X Y M i n).getD t (0,0)=prodI X Y M i t:=by simp [rowL,List.getD,ht]
theorem OwnI.form {B:Nat} {w:World} {v:Value} {xs:List (Nat×Nat)} (h:OwnI B w v xs):∃A C,v=.slice A xs.length C:=by
 rcases h.2 with ⟨rfl,hn⟩ | ⟨g,cap,cur,rfl, -⟩
 · exact⟨none,0,by rw [hn]⟩
 · exact⟨_,_,rfl⟩
def Rowed (B:Nat) (w:World) (X Y:Nat→Nat→Nat×Nat) (M L i:Nat) (vs:List Value):Prop:=vs.length=i∧∀r,r<i→∃A C,vs[r]?=some (.slice A L C)∧OwnI B w (.slice A L C) (rowL X Y M r L)
theorem Rowed.keep {B:Nat} {w w2:World} {X Y:Nat→Nat→Nat×Nat} {M L i:Nat} {vs:List Value} (h:Rowed B w X Y M L i vs) (hb:∀u xs,OwnI B w u xs→OwnI B w2 u xs):Rowed B w2 X Y M L i vs :=
 ⟨h.1,fun r hr=>by obtain⟨A,C,a,b⟩:=h.2 r hr;exact⟨A,C,a,hb _ _ b⟩⟩
theorem Rowed.push {B:Nat} {w:World} {X Y:Nat→Nat→Nat×Nat} {M L i:Nat} {vs:List Value} (h:Rowed B w X Y M L i vs) {A:Option Addr} {C:Nat} (k:OwnI B w (.slice A L C) (rowL X Y M i L)):Rowed B w X Y M L (i+1) (vs++[.slice A L C]):=by
 refine⟨by rw [List.length_append,h.1];rfl,fun r hr=>?_⟩
 by_cases e:r=i
 · subst e
   refine⟨A,C, ?_,k⟩
   rw [←h.1]
   simp
 · obtain⟨A',C',a,b⟩:=h.2 r (by omega)
   refine⟨A',C', ?_,b⟩
   rw [List.getElem?_append_left (by rw [h.1];omega)]
   exact a
set_option maxHeartbeats 8000000 in
theorem rMulM_w (A B:Option Addr) (N M L C D:Nat) (RA SA:Nat→Option Addr) (RL RC SL SC:Nat→Nat) (X Y:Nat→Nat→Nat×Nat) (hN:N≤24) (hM:M≤24) (hM0:0<M) (hL:L≤24) (hR:∀r,r<N→RL r=M) (hS:∀s,s<M→SL s=L) (w:World) (V:Rws w A N RA RL RC X) (U:Rws w B M SA SL SC Y) :
   Calls Tryz.prog 8 #[.slice A N C,.slice B M D] w fun e w'=>∃v vs,e=.returned v∧OwnR w.heap.size w' v vs∧Rowed w.heap.size w' X Y M L N vs∧Below w.heap.size w w':=by
 have HR:Hid (∀r,r<N→RL r=M):=hR
 have HS:Hid (∀s,s<M→SL s=L):=hS
 have h4:(0:Int)<(M:Int):=by omega
 clear hR hS
 have E:=ownR_empty w
 have hB0:Below w.heap.size w (w.alloc (.cells #[] 29)):=below_alloc (Below.refl _ _) _
 obtain⟨b,o,hB,hb,u0, -, -⟩:=U 0 hM0
 rw [Nat.add_zero,HS 0 hM0] at u0
 subst hB
 go_enter Tryz.func8,Tryz.ntmps8
 go_wp2_with fail
 go_loopg [5,16] N (fun G s5 s16 wx=>Below w.heap.size w wx∧w.heap.size≤wx.heap.size∧∃(i:Nat) (vs:List Value),i+G=N∧s16=.int .i64 (i:Int)∧OwnR w.heap.size wx s5 vs∧Rowed w.heap.size wx X Y M L i vs)
 case atStart=>exact⟨hB0,hB0.size,0,[],by omega,rfl,E,rfl,fun r hr=>absurd hr (by omega)⟩
 case round =>
   clear E hB0
   obtain⟨HB,hSz,i,vs,hi,rfl,hown,hrow⟩:=hrel
   by_cases ci:i=N
   · subst ci
     go_wp2_with fail
     go_ret
     exact⟨_,vs,rfl,hown,hrow,HB⟩
   · have hlti:(i:Int)<(N:Int):=by omega
     obtain⟨b',o',hA,hb',y0,l0,I⟩:=(V.keep HB) i (by omega)
     have u1:=keepsC HB u0 hb
     have hbl:b<wr.heap.size:=Nat.lt_of_lt_of_le hb HB.size
     have E1:=ownI_empty wr
     have hB1:Below wr.heap.size wr (wr.alloc (.cells #[] 36)):=below_alloc (Below.refl _ _) _
     subst hA
     obtain⟨w1,rfl⟩:∃w1,w1=wr:=⟨_,rfl⟩
     go_wp2_with fail
     go_loopg [8,25] L (fun G s8 s25 wy=>Below w1.heap.size w1 wy∧w1.heap.size≤wy.heap.size∧∃j:Nat,j+G=L∧s25=.int .i64 (j:Int)∧OwnI w1.heap.size wy s8 (rowL X Y M i j))
     case atStart=>exact⟨hB1,hB1.size,0,by omega,rfl,E1⟩
     case round =>
       clear E1 hB1
       obtain⟨HC,hSy,j,hj,rfl,hownI⟩:=hrel
       by_cases cj:j=L
       · subst cj
         obtain⟨A',C',hv⟩:=hownI.form
         rw [rowL_len] at hv
         subst hv
         have hlen:vs.length≤2000000:=by rw [hrow.1];omega
         have hownR:=hown.keep HC
         have hrow1:=hrow.keep fun u xs q=>q.keep HC
         have HB1:=later HB HC
         have hS1:=HB1.size
         go_wp2_with (at_builtin;refine wpList_pushR (by rfl) _ _ (by rfl) _ vs A' j C' (by rfl) (by rfl) hownR hlen hS1 HB1 ?_;intro v' w' hown' hB' hS' hkeep)
         go_roundg (N-i-1)
         case measure=>omega
         case rel=>exact⟨hB',hS',i+1,_,by omega,by go_num,hown',(hrow1.keep hkeep).push (hkeep _ _ (hownI.base hSz))⟩
       · have hltj:(j:Int)<(L:Int):=by omega
         have E2:=ownI_empty wr
         have hB2:Below wr.heap.size wr (wr.alloc (.cells #[] 36)):=below_alloc (Below.refl _ _) _
         obtain⟨w2,rfl⟩:∃w2,w2=wr:=⟨_,rfl⟩
         go_wp2_with fail
         go_loopg [10,31] M (fun G s10 s31 wz=>Below w2.heap.size w2 wz∧w2.heap.size≤wz.heap.size∧∃k:Nat,k+G=M∧s31=.int .i64 (k:Int)∧OwnI w2.heap.size wz s10 (colL Y j k))
         case atStart=>exact⟨hB2,hB2.size,0,by omega,rfl,E2⟩
         case round =>
           clear E2 hB2
           obtain⟨HD,hSw,k,hk,rfl,hcol⟩:=hrel
           by_cases ck:k=M
           · subst ck
             obtain⟨A',C',hv,J⟩:=ownI_ivs hcol (fun p hp=>by
               simp only [colL,List.mem_map,List.mem_range] at hp
               obtain⟨t,ht,rfl⟩:=hp
               exact rws_words U ht (by have:=HS t ht;omega))
             rw [colL_len] at hv J
             subst hv
             have cd:Calls Tryz.prog 33 #[.slice (RA i) (RL i) (RC i),.slice A' k C'] wr fun e w'=>e=.returned (.agg #[.float .f64 (prodI X Y k i j).1,.float .f64 (prodI X Y k i j).2])∧Below wr.heap.size wr w':=by
               have q:=rdot_w (RA i) A' (RL i) k (RC i) C' (X i) (fun t=>(colL Y j k).getD t (0,0)) l0 (by omega) (by have:=HR i (by omega);omega) wr ((I.keep HC).keep HD) J
               have e1:dotP (X i) (fun t=>(colL Y j k).getD t (0,0)) (RL i)=prodI X Y k i j:=by
                 rw [HR i (by omega)]
                 exact dotP_congr k (fun _ _=>rfl) (fun t ht=>colL_at Y j k t ht)
               rw [e1] at q
               exact q
             have hlen:(rowL X Y k i j).length≤2000000:=by rw [rowL_len];omega
             have hown1:=hownI.keep HD
             have HC1:=later HC HD
             go_wp2_with (first
               | (go_at_call 33;refine cd.mono ?_;rintro _ w3 ⟨rfl,hb1⟩;replace hown1:=OwnI.keep hown1 hb1;replace HC1:=later HC1 hb1;have hS1:=HC1.size)
               | (at_builtin;refine wpList_pushI (by rfl) _ _ (by rfl) _ (rowL X Y k i j) (prodI X Y k i j).1 (prodI X Y k i j).2 (by rfl) (by rfl) hown1 hlen hS1 HC1 ?_;intro v' w' hown' hB' hS'))
             go_roundg (L-j-1)
             case measure=>omega
             case rel=>exact⟨hB',hS',j+1,by omega,by go_num,by rw [rowL_step];exact hown'⟩
           · have hltk:(k:Int)<(M:Int):=by omega
             obtain⟨b3,o3,hA3,hb3,z0,l3,I3⟩:=(U.keep (later (later HB HC) HD)) k (by omega)
             have hjk:j<SL k:=by have:=HS k (by omega);omega
             have hltjk:(j:Int)<(SL k:Int):=by omega
             obtain⟨b4,o4,hA4,hb4,q0,q1, -, -⟩:=I3 j hjk
             simp only [Option.some.injEq,Addr.mk.injEq,and_true] at hA3
             obtain⟨rfl,rfl⟩:=hA3
             rw [hA4] at z0
             have hlen:(colL Y j k).length≤2000000:=by rw [colL_len];omega
             have hSz2:=HD.size
             clear I3
             go_wp2_with (at_builtin;refine wpList_pushI (by rfl) _ _ (by rfl) _ (colL Y j k) (Y k j).1 (Y k j).2 (by rfl) (by rfl) hcol hlen hSw HD ?_;intro v' w' hown' hB' hS')
             go_roundg (M-k-1)
             case measure=>omega
             case rel=>exact⟨hB',hS',k+1,by omega,by go_num,by rw [colL_step];exact hown'⟩
end Go.Proofs.YtlabmpngbcnhpaaGreat
