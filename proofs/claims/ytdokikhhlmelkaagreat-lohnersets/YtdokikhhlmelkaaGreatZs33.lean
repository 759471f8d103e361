/- Slices of intervals that a call makes: one more at their end, as many noughts, and what they hold. The program's Dot, a matrix's first row, and both images of a vector. The program's image of a vector. -/
import Derived.Test.YtdokikhhlmelkaaGreatZs32
import Derived.Handy
namespace Go.Proofs.YtdokikhhlmelkaaGreat
open Go.ChangeShapes Go.WideShapes Go.ChangeAt Go.RowKit
def ivCells (xs:List (Nat×Nat)):List Value:=xs.flatMap fun p=>[.float .f64 p.1,.float .f64 p.2]
theorem ivCells_at (xs:List (Nat×Nat)) (i:Nat) (p:Nat×Nat) (h:xs[i]?=some p):(ivCells xs)[i*2]?=some (.float .f64 p.1)∧(ivCells xs)[i*2+1]?=some (.float .f64 p.2):=by
 induction xs generalizing i with
 | nil=>simp at h
 | cons q t ih =>
   have e:ivCells (q :: t)=.float .f64 q.1 :: .float .f64 q.2 :: ivCells t:=rfl
   rw [e]
   cases i with
   | zero =>
     simp at h
     subst h
     exact⟨rfl,rfl⟩
   | succ i =>
     have h':t[i]?=some p:=by simpa using h
     have:=ih i h'
     rw [show (i+1)*2=i*2+2 by omega,show i*2+2+1=(i*2+1)+2 by omega]
     simpa using this
def OwnI (B:Nat) (w:World) (v:Value) (xs:List (Nat×Nat)):Prop:=w.ownsRow B 38 2 v xs.length (ivCells xs)
theorem Tryz.infoIval:(Tryz.prog.info? 38).map (fun i=>(i.zero,i.size,i.bytes))=some (some (.agg #[.float .f64 0,.float .f64 0]),2,16):=by kernel_rfl
theorem ownI_empty (w:World):OwnI w.heap.size (w.alloc (.cells #[] 38)) (.slice (some ⟨w.heap.size,0,none⟩) 0 0) []:=World.ownsRow_made w #[] 0 (Nat.le_refl _) (Nat.zero_le _) rfl
theorem wpList_pushI {B:Nat} {w0 wr:World} {ops:Array Oper} {rest:List Oper} {o:Oper} {a:Act} {Q:Exit→Act→World→Prop} (hgd:o.guard=none) (s x:Operand)
   (ho:o.op=.call { callee:=.builtin .append,args:=#[s,x],argTypes:=#[24,24] }) (v:Value) (xs:List (Nat×Nat)) (p q:Nat) (hs:a.eval s=v) (hx:a.eval x=.slice (some ⟨wr.heap.size,0,none⟩) 1 1)
   (hown:OwnI B wr v xs) (hl:xs.length≤2000000) (hB:B≤wr.heap.size) (hbel:Below B w0 wr)
   (h:∀v' w',OwnI B w' v' (xs++[(p,q)])→Below B w0 w'→B≤w'.heap.size→wpList Tryz.prog ops Q rest (a.put o.dst v') w'):wpList Tryz.prog ops Q (o :: rest) a (wr.alloc (.cells #[.float .f64 p,.float .f64 q] 38)):=by
 obtain⟨i0,hi,hz0,hz1,hz2⟩:=info_parts Tryz.infoIval
 refine wpList_append_own _ hgd s x 24 ho B 38 i0 (.agg #[.float .f64 0,.float .f64 0]) 2 16 Tryz.underlying24 hi hz0 hz1 hz2 rfl (by decide) v xs.length (ivCells xs) hs (hown.alloc _) ⟨wr.heap.size,0,none⟩ 1 1 [.float .f64 p,.float .f64 q] hx rfl ?_ ?_ (by unfold maxLen;omega) (by omega) (by simp;omega) ?_
 · intro j u hj
   match j,hj with
   | 0,hj=>simp at hj;subst hj;simp [Addr.add]
   | 1,hj=>simp at hj;subst hj;simp [Addr.add]
 · intro u hu
   simp at hu
   rcases hu with rfl | rfl <;> rfl
 · intro v' w' h1 h2 _
   refine h v' w' ?_ ((hbel.alloc hB _).grown h2 (by simp;omega) ?_) (by have:=h2.size;simp at this;omega)
   · unfold OwnI
     have e:ivCells (xs++[(p,q)])=ivCells xs++[.float .f64 p,.float .f64 q]:=by simp [ivCells]
     rw [e,List.length_append]
     exact h1
   · intro k hk
     exact (World.ownsRow.lt hown k hk).1
theorem OwnI.keep {B:Nat} {w w2:World} {v:Value} {xs:List (Nat×Nat)} (h:OwnI B w v xs) (hb:Below w.heap.size w w2):OwnI B w2 v xs:=by
 refine⟨h.1, ?_⟩
 rcases h.2 with hn | ⟨g,cap,cur,hv,hb2,hg,rest⟩
 · exact .inl hn
 · have hlt:g<w.heap.size:=(Array.getElem?_eq_some_iff.1 hg).1
   refine .inr ⟨g,cap,cur,hv,hb2, ?_,rest⟩
   rw [←hg]
   exact hb.block g hlt
def imageP (X:Nat→Nat→Nat×Nat) (Y:Nat→Nat×Nat) (k:Nat) (n:Nat):List (Nat×Nat):=(List.range n).map fun r=>dotP (X r) Y k
theorem imageP_step (X:Nat→Nat→Nat×Nat) (Y:Nat→Nat×Nat) (k n:Nat):imageP X Y k (n+1)=imageP X Y k n++[((dotP (X n) Y k).1,(dotP (X n) Y k).2)]:=by
 unfold imageP
 rw [List.range_succ,List.map_append]
 rfl
theorem imageP_len (X:Nat→Nat→Nat×Nat) (Y:Nat→Nat×Nat) (k n:Nat):(imageP X Y k n).length=n:=by simp [imageP]
set_option maxHeartbeats 2000000 in
theorem rapply_w (A B:Option Addr) (N C k D:Nat) (RA:Nat→Option Addr) (RL RC:Nat→Nat) (X:Nat→Nat→Nat×Nat) (Y:Nat→Nat×Nat) (hN:N≤24) (hk:k≤24) (hR:∀r,r<N→RL r=k) (w:World) (V:Rws w A N RA RL RC X) (U:Ivs w B k Y) :
   Calls Tryz.prog 29 #[.slice A N C,.slice B k D] w fun e w'=>∃v,e=.returned v∧OwnI w.heap.size w' v (imageP X Y k N)∧Below w.heap.size w w':=by
 obtain⟨Z,hZ⟩:∃Z:Nat→List (Nat×Nat),∀n,Z n=imageP X Y k n:=⟨_,fun _=>rfl⟩
 have hs:∀n,Z (n+1)=Z n++[((dotP (X n) Y k).1,(dotP (X n) Y k).2)]:=fun n=>by rw [hZ,hZ];exact imageP_step X Y k n
 have hl:∀n,(Z n).length=n:=fun n=>by rw [hZ];exact imageP_len X Y k n
 have h0:Z 0=[]:=by rw [hZ];rfl
 rw [←hZ N]
 clear hZ
 have E:=ownI_empty w
 rw [←h0] at E
 have HE:Hid (∀n,Z (n+1)=Z n++[((dotP (X n) Y k).1,(dotP (X n) Y k).2)]):=hs
 have HL:Hid (∀n,(Z n).length=n):=hl
 have HR:Hid (∀r,r<N→RL r=k):=hR
 clear hs hl h0 hR
 have hB0:Below w.heap.size w (w.alloc (.cells #[] 38)):=below_alloc (Below.refl _ _) _
 go_enter Tryz.func29,Tryz.ntmps29
 go_wp2_with fail
 go_loopg [5,11] N (fun G s5 s11 wx=>Below w.heap.size w wx∧w.heap.size≤wx.heap.size∧∃r:Nat,r+G=N∧s11=.int .i64 (r:Int)∧OwnI w.heap.size wx s5 (Z r))
 case atStart=>exact⟨hB0,hB0.size,0,by omega,rfl,E⟩
 case round =>
   clear E hB0
   obtain⟨HB,hS,r,hr,rfl,hown⟩:=hrel
   by_cases cr:r=N
   · subst cr
     go_wp2_with fail
     go_ret
     exact⟨_,rfl,hown,HB⟩
   · have hlt:(r:Int)<(N:Int):=by omega
     obtain⟨b,o,hA,hb,x0,l0,I⟩:=(V.keep HB) r (by omega)
     have c:Calls Tryz.prog 58 #[.slice (RA r) (RL r) (RC r),.slice B k D] wr fun e w'=>e=.returned (.agg #[.float .f64 (dotP (X r) Y (RL r)).1,.float .f64 (dotP (X r) Y (RL r)).2])∧Below wr.heap.size wr w' :=
       rdot_w (RA r) B (RL r) k (RC r) D (X r) Y l0 (by omega) (by have:=HR r (by omega);omega) wr I (U.keep HB)
     have e1:(dotP (X r) Y (RL r))=dotP (X r) Y k:=by rw [HR r (by omega)]
     rw [e1] at c
     clear e1
     have hlen:(Z r).length≤2000000:=by rw [HL r];omega
     subst hA
     go_wp2_with (first
       | (go_at_call 58;refine c.mono ?_;rintro _ w1 ⟨rfl,hb1⟩;replace hown:=OwnI.keep hown hb1;replace HB:=later HB hb1;have hS1:=HB.size)
       | (at_builtin;refine wpList_pushI (by rfl) _ _ (by rfl) _ (Z r) (dotP (X r) Y k).1 (dotP (X r) Y k).2 (by rfl) (by rfl) hown hlen hS1 HB ?_;intro v' w' hown' hB' hS'))
     go_roundg (N-r-1)
     case measure=>omega
     case rel=>exact⟨hB',hS',r+1,by omega,by go_num,by rw [HE r];exact hown'⟩
def Img (w:World) (g N:Nat) (xs:Nat→Nat×Nat):Prop :=
 g<w.heap.size∧∀i,i<N→w.cell? ⟨g,i*2,none⟩=some (.float .f64 (xs i).1)∧w.cell? ⟨g,i*2+1,none⟩=some (.float .f64 (xs i).2)∧w.frozen? ⟨g,i*2,none⟩=false∧w.frozen? ⟨g,i*2+1,none⟩=false
theorem Img.keep {w w2:World} {g N:Nat} {xs:Nat→Nat×Nat} (h:Img w g N xs) (hb:Below w.heap.size w w2):Img w2 g N xs :=
 ⟨Nat.lt_of_lt_of_le h.1 hb.size,fun i hi=>by obtain⟨a,b,c,d⟩:=h.2 i hi;exact⟨keepsC hb a h.1,keepsC hb b h.1,keepsF hb c h.1,keepsF hb d h.1⟩⟩
theorem Img.set {w:World} {g N:Nat} {xs:Nat→Nat×Nat} (h:Img w g N xs) (r p q:Nat) (hr:r<N):Img ((w.setCell ⟨g,r*2,none⟩ (.float .f64 p)).setCell ⟨g,r*2+1,none⟩ (.float .f64 q)) g N (fun i=>if i=r then (p,q) else xs i):=by
 refine⟨by simp only [World.size_setCell];exact h.1,fun i hi=>?_⟩
 obtain⟨a,b,c,d⟩:=h.2 i hi
 obtain⟨a',b',c',d'⟩:=h.2 r hr
 have ne3:r*2≠r*2+1:=by omega
 have ne4:r*2+1≠r*2:=by omega
 by_cases e:i=r
 · subst e
   simp only [if_true]
   exact⟨by go_simp,by go_simp,by go_simp,by go_simp⟩
 · simp only [e,if_false]
   have n1:i*2≠r*2:=by omega
   have n2:i*2≠r*2+1:=by omega
   have n3:i*2+1≠r*2:=by omega
   have n4:i*2+1≠r*2+1:=by omega
   have m1:r*2≠i*2:=by omega
   have m2:r*2+1≠i*2:=by omega
   have m3:r*2≠i*2+1:=by omega
   have m4:r*2+1≠i*2+1:=by omega
   refine⟨?_, ?_,by go_simp,by go_simp⟩
   · go_simp
   · go_simp
theorem Img.congr {w:World} {g N:Nat} {xs ys:Nat→Nat×Nat} (h:Img w g N xs) (e:∀i,i<N→xs i=ys i):Img w g N ys :=
 ⟨h.1,fun i hi=>by rw [←e i hi];exact h.2 i hi⟩
theorem Img.ivs {w:World} {g N:Nat} {xs:Nat→Nat×Nat} (h:Img w g N xs) (hx:∀i,i<N→(xs i).1<18446744073709551616∧(xs i).2<18446744073709551616):Ivs w (some ⟨g,0,none⟩) N xs:=fun i hi=>by
 obtain⟨a,b, -, -⟩:=h.2 i hi
 exact⟨g,0,rfl,h.1,by rw [Nat.zero_add];exact a,by rw [Nat.zero_add];exact b,hx i hi⟩
theorem wpList_makeI {w:World} {ops:Array Oper} {rest:List Oper} {o:Oper} {a:Act} {Q:Exit→Act→World→Prop} (hgd:o.guard=none) (l c:Operand)
   (ho:o.op=.makeSlice 24 l c) (n:Nat) (hl:a.eval l=.int .i64 (n:Int)) (hc:a.eval c=.int .i64 (n:Int)) (hn:n≤3000000)
   (h:∀w',Img w' w.heap.size n (fun _=>(0,0))→Below w.heap.size w w'→w.heap.size<w'.heap.size→wpList Tryz.prog ops Q rest (a.put o.dst (.slice (some ⟨w.heap.size,0,none⟩) n n)) w'):wpList Tryz.prog ops Q (o :: rest) a w:=by
 obtain⟨i0,hi,hz0,hz1,hz2⟩:=info_parts Tryz.infoIval
 refine wpList_make_full w hgd l c 24 ho w.heap.size 38 i0 (.agg #[.float .f64 0,.float .f64 0]) 2 Tryz.underlying24 hi hz0 hz1 .i64 .i64 _ _ n hl hc rfl rfl (by rw [hz2];omega) (by unfold maxLen;omega) (Nat.le_refl _) ?_
 intro w' h1 h2
 have hlt:=(World.ownsRow.lt h1 _ rfl).2
 refine h w' ⟨hlt,fun i hi=>?_⟩ ⟨h2.os,h2.tape,h2.output,h2.size,fun k hk=>h2.block k hk (by simp)⟩ hlt
 have hc:∀j,j<n*2→w'.cell? ⟨w.heap.size,j,none⟩=some (.float .f64 0):=fun j hj=>by
   have e1:(madeCells (Value.agg #[.float .f64 0,.float .f64 0]).cells (n*2)).toList=List.replicate (n*2) (Value.float .f64 0):=by
     refine List.eq_replicate_iff.2 ⟨by simp [madeCells],fun b hb=>?_⟩
     simp [madeCells,Value.cells] at hb
     obtain⟨x, -,hx⟩:=hb
     rw [←hx]
     have:x%2=0∨x%2=1:=by omega
     rcases this with e | e <;> simp [e]
   rw [World.ownsRow.cellAt h1 j hj,e1]
   simp [hj]
 exact⟨hc _ (by omega),hc _ (by omega),World.ownsRow.frozenAt h1 _,World.ownsRow.frozenAt h1 _⟩
set_option maxHeartbeats 2000000 in
theorem apply_new (A B:Option Addr) (N C k D:Nat) (RA:Nat→Option Addr) (RL RC:Nat→Nat) (X:Nat→Nat→Nat×Nat) (Y:Nat→Nat×Nat) (hN:N≤24) (h0:0<N) (hk:k≤24) (hR:∀r,r<N→RL r=k) (w:World) (V:Rws w A N RA RL RC X) (U:Ivs w B k Y)
   (c1:∀w2,Below w.heap.size w w2→Calls Tryz.prog 49 #[.slice A N C] w2 fun e w'=>e=.returned (.bool true)∧Below w2.heap.size w2 w')
   (c2:∀w2,Below w.heap.size w w2→Calls Tryz.prog 50 #[.slice B k D] w2 fun e w'=>e=.returned (.bool true)∧Below w2.heap.size w2 w') :
   Calls Tryz.prog 25 #[.slice A N C,.slice B k D] w fun e w'=>∃g,e=.returned (.tuple #[.slice (some ⟨g,0,none⟩) N N,.int .i64 0])∧Img w' g N (fun r=>dotP (X r) Y k)∧w.heap.size≤g∧Below w.heap.size w w':=by
 have HR:Hid (∀r,r<N→RL r=k):=hR
 have h3:((RL 0:Int) != (k:Int))=false:=by simp [hR 0 h0]
 have h4:(0:Int)<(N:Int):=by omega
 clear hR
 obtain⟨b,o,hA,hb,x0, -, -⟩:=V 0 h0
 rw [Nat.add_zero] at x0
 go_enter Tryz.func25,Tryz.ntmps25
 have HB:Below w.heap.size w w:=Below.refl _ _
 subst hA
 go_wp2_with (first
   | (go_at_call 49;with_reducible refine (c1 _ HB).mono ?_;rintro _ w1 ⟨rfl,hb1⟩;have x1:=keepsC hb1 x0 hb;replace HB:=later HB hb1)
   | (go_at_call 50;with_reducible refine (c2 _ HB).mono ?_;rintro _ w2 ⟨rfl,hb2⟩;have x2:=keepsC hb2 x1 (Nat.lt_of_lt_of_le hb hb1.size);replace HB:=later HB hb2)
   | (at_make;refine wpList_makeI (by rfl) _ _ (by rfl) N (by rfl) (by rfl) (by omega) ?_;intro w3 hI hb3 hS3))
 have hg:w.heap.size≤w2.heap.size:=HB.size
 replace HB:=later HB hb3
 generalize w2.heap.size=g at *
 clear x0 x1 x2 hb1 hb2 hb3 c1 c2
 go_loopg [31] N (fun G s31 wx=>Below w.heap.size w wx∧∃r:Nat,r+G=N∧s31=.int .i64 (r:Int)∧Img wx g N (fun i=>if i<r then dotP (X i) Y k else (0,0)))
 case atStart=>exact⟨HB,0,by omega,rfl,hI.congr fun i _=>by simp⟩
 case round =>
   clear HB hI
   obtain⟨HB,r,hr,rfl,hI⟩:=hrel
   by_cases cr:r=N
   · subst cr
     go_wp2_with fail
     refine bodyPost_ret (v:=.tuple #[.slice (some ⟨g,0,none⟩) r r,.int .i64 0]) (by simp [results,Tryz.results25,go_sem, *]) rfl ⟨g,rfl,hI.congr fun i hi=>by simp [hi],hg,HB⟩
   · have hlt:(r:Int)<(N:Int):=by omega
     obtain⟨b',o',hA,hb',x0,l0,I⟩:=(V.keep HB) r (by omega)
     have c:Calls Tryz.prog 51 #[.slice (RA r) (RL r) (RC r),.slice B k D] wr fun e w'=>e=.returned (.agg #[.float .f64 (dotP (X r) Y (RL r)).1,.float .f64 (dotP (X r) Y (RL r)).2])∧Below wr.heap.size wr w' :=
       dot_w (RA r) B (RL r) k (RC r) D (X r) Y l0 (by omega) (by have:=HR r (by omega);omega) wr I (U.keep HB)
     have e1:(dotP (X r) Y (RL r))=dotP (X r) Y k:=by rw [HR r (by omega)]
     rw [e1] at c
     clear e1
     simp only [Option.some.injEq,Addr.mk.injEq,and_true] at hA
     obtain⟨rfl,rfl⟩:=hA
     go_wp2_with (go_at_call 51;refine c.mono ?_;rintro _ w4 ⟨rfl,hb1⟩;replace hI:=hI.keep hb1;replace HB:=later HB hb1;obtain⟨i0,i1,f0,f1⟩:=id (hI.2 r (by omega)))
     go_roundg (N-r-1)
     case measure=>omega
     case rel =>
       refine⟨?_,r+1,by omega,by go_num,(hI.set r _ _ (by omega)).congr fun i hi=>?_⟩
       · repeat' (first | (with_reducible exact HB) | (with_reducible refine Below.setCell ?_ ?_ _) | go_size | omega)
       · by_cases e:i=r
         · subst e
           simp
         · simp only [e,if_false]
           by_cases q:i<r
           · simp [q,show i<r+1 by omega]
           · simp [q,show ¬i<r+1 by omega]
theorem ownI_ivs {B:Nat} {w:World} {v:Value} {xs:List (Nat×Nat)} (h:OwnI B w v xs) (hx:∀p∈xs,p.1<18446744073709551616∧p.2<18446744073709551616):∃A C,v=.slice A xs.length C∧Ivs w A xs.length (fun i=>xs.getD i (0,0)):=by
 have h':w.ownsRow B 38 2 v xs.length (ivCells xs):=h
 rcases h'.2 with ⟨rfl,hn⟩ | ⟨g,cap,cur,rfl, -⟩
 · rw [hn]
   exact⟨none,0,rfl,fun i hi=>by omega⟩
 · refine⟨_,cap,rfl,fun i hi=>?_⟩
   have hl:=(World.ownsRow.lt h g rfl).2
   have hg:xs[i]?=some (xs.getD i (0,0)):=by simp [List.getD,hi]
   obtain⟨a,b⟩:=ivCells_at xs i _ hg
   refine⟨g,0,rfl,hl, ?_, ?_,hx _ ?_⟩
   · rw [Nat.zero_add,World.ownsRow.cellAt h (i*2) (by omega)];exact a
   · rw [Nat.zero_add,World.ownsRow.cellAt h (i*2+1) (by omega)];exact b
   · show xs.getD i (0,0)∈xs
     have:=List.getElem?_eq_some_iff.1 hg
     obtain⟨h1,h2⟩:=this
     rw [←h2]
     exact List.getElem_mem h1
set_option maxHeartbeats 2000000 in
theorem rsameV_w (A B:Option Addr) (n C D:Nat) (X Y:Nat→Nat×Nat) (hn:n≤9223372036854775807) (hxy:∀i,i<n→X i=Y i) (w:World) (V:Ivs w A n X) (U:Ivs w B n Y) :
   Calls Tryz.prog 9 #[.slice A n C,.slice B n D] w fun e w'=>e=.returned (.bool true)∧Below w.heap.size w w':=by
 have HX:Hid (∀i,i<n→X i=Y i):=hxy
 clear hxy
 go_enter Tryz.func9,Tryz.ntmps9
 go_wp2_with fail
 go_loopg [13] n (fun G s13 wx=>Below w.heap.size w wx∧∃i:Nat,i+G=n∧s13=.int .i64 (i:Int))
 case atStart=>exact⟨Below.refl _ _,0,by omega,rfl⟩
 case round =>
   obtain⟨HB,i,hi,rfl⟩:=hrel
   by_cases ci:i=n
   · subst ci
     go_wp2_with fail
     go_ret
     exact⟨rfl,HB⟩
   · have hlt:(i:Int)<(n:Int):=by omega
     obtain⟨b,o,hA,hb,x0,x1,l0,l1⟩:=(V.keep HB) i (by omega)
     obtain⟨b',o',hB,hb',y0,y1, -, -⟩:=(U.keep HB) i (by omega)
     rw [←HX i (by omega)] at y0 y1
     have c:=fun w=>rsame_self (X i).1 (X i).2 l0 l1 w
     subst hA hB
     go_upto_region 6 with fail
     have kx0:=fun n:Behind wr=>n.cell x0 hb
     have kx1:=fun n:Behind wr=>n.cell x1 hb
     have ky0:=fun n:Behind wr=>n.cell y0 hb'
     have ky1:=fun n:Behind wr=>n.cell y1 hb'
     refine region_behind (by kernel_rfl) (by kernel_rfl) ?_
     repeat (go_big_quiet_step (first
       | (go_at_call 16;with_reducible refine Behind.call (c _))))
     refine wpQuiet_nil ?_
     rintro _ ⟨q,rfl⟩
     obtain⟨W,hb1⟩:=q
     dsimp only
     replace HB:=later HB hb1
     clear hb1 kx0 kx1 ky0 ky1
     go_wp2_with fail
     go_roundg (n-i-1)
     case measure=>omega
     case rel=>exact⟨HB,i+1,by omega,by go_num⟩
end Go.Proofs.YtdokikhhlmelkaaGreat
