/- Slices of intervals that a call makes: one more at their end, as many noughts, and what they hold. The program's Dot, a matrix's first row, and both images of a vector. The program's image of a vector. A tape's values: refused, atOuts and Eval of the program. A tape's values: Eval of the program. A region that draws its order, of quiet operations and one store into a block that none of them reads, then others behind all of them (return f(x), c): walked once. -/
import Derived.Test.YtnchhfhoaepjnaaGreatQ34
import Derived.Handy
import Derived.Test.YtnchhfhoaepjnaaGreatQ48
import Derived.Test.YtnchhfhoaepjnaaGreatQ20
import Derived.Test.YtnchhfhoaepjnaaGreatQ36
namespace Go.Proofs.YtnchhfhoaepjnaaGreat
open Go.ChangeShapes Go.WideShapes Go.ChangeAt Go.RowKit
def ivCells (xs:List (Nat×Nat)):List Value:=xs.flatMap fun p=>[.float .f64 p.1,.float .f64 p.2]
theorem ivCells_at (xs:List (Nat×Nat)) (i:Nat) (p:Nat×Nat) (h:xs[i]?=some p):(ivCells xs)[i*2]?=some (.float .f64 p.1)∧(ivCells xs)[i*2+1]?=some (.float .f64 p.2):=by
 induction xs generalizing i with
 | nil=>simp at h
 | cons q t ih =>
   have e:ivCells (q :: t)=.float .f64 q.1 :: .float .f64 q.2 :: ivCells t:=rfl
   rw [e]
   cases i with
   | zero =>
     simp at h
     subst h
     exact⟨rfl,rfl⟩
   | succ i =>
     have h':t[i]?=some p:=by simpa using h
     have:=ih i h'
     rw [show (i+1)*2=i*2+2 by omega,show i*2+2+1=(i*2+1)+2 by omega]
     simpa using this
def OwnI (B:Nat) (w:World) (v:Value) (xs:List (Nat×Nat)):Prop:=w.ownsRow B 46 2 v xs.length (ivCells xs)
theorem Tryz.infoIval:(Tryz.prog.info? 46).map (fun i=>(i.zero,i.size,i.bytes))=some (some (.agg #[.float .f64 0,.float .f64 0]),2,16):=by kernel_rfl
theorem wpList_pushI {B:Nat} {w0 wr:World} {ops:Array Oper} {rest:List Oper} {o:Oper} {a:Act} {Q:Exit→Act→World→Prop} (hgd:o.guard=none) (s x:Operand)
   (ho:o.op=.call { callee:=.builtin .append,args:=#[s,x],argTypes:=#[26,26] }) (v:Value) (xs:List (Nat×Nat)) (p q:Nat) (hs:a.eval s=v) (hx:a.eval x=.slice (some ⟨wr.heap.size,0,none⟩) 1 1)
   (hown:OwnI B wr v xs) (hl:xs.length≤2000000) (hB:B≤wr.heap.size) (hbel:Below B w0 wr)
   (h:∀v' w',OwnI B w' v' (xs++[(p,q)])→Below B w0 w'→B≤w'.heap.size→wpList Tryz.prog ops Q rest (a.put o.dst v') w'):wpList Tryz.prog ops Q (o :: rest) a (wr.alloc (.cells #[.float .f64 p,.float .f64 q] 46)):=by
 obtain⟨i0,hi,hz0,hz1,hz2⟩:=info_parts Tryz.infoIval
 refine wpList_append_own _ hgd s x 26 ho B 46 i0 (.agg #[.float .f64 0,.float .f64 0]) 2 16 Tryz.underlying26 hi hz0 hz1 hz2 rfl (by decide) v xs.length (ivCells xs) hs (hown.alloc _) ⟨wr.heap.size,0,none⟩ 1 1 [.float .f64 p,.float .f64 q] hx rfl ?_ ?_ (by unfold maxLen;omega) (by omega) (by simp;omega) ?_
 · intro j u hj
   match j,hj with
   | 0,hj=>simp at hj;subst hj;simp [Addr.add]
   | 1,hj=>simp at hj;subst hj;simp [Addr.add]
 · intro u hu
   simp at hu
   rcases hu with rfl | rfl <;> rfl
 · intro v' w' h1 h2 _
   refine h v' w' ?_ ((hbel.alloc hB _).grown h2 (by simp;omega) ?_) (by have:=h2.size;simp at this;omega)
   · unfold OwnI
     have e:ivCells (xs++[(p,q)])=ivCells xs++[.float .f64 p,.float .f64 q]:=by simp [ivCells]
     rw [e,List.length_append]
     exact h1
   · intro k hk
     exact (World.ownsRow.lt hown k hk).1
theorem OwnI.keep {B:Nat} {w w2:World} {v:Value} {xs:List (Nat×Nat)} (h:OwnI B w v xs) (hb:Below w.heap.size w w2):OwnI B w2 v xs:=by
 refine⟨h.1, ?_⟩
 rcases h.2 with hn | ⟨g,cap,cur,hv,hb2,hg,rest⟩
 · exact .inl hn
 · have hlt:g<w.heap.size:=(Array.getElem?_eq_some_iff.1 hg).1
   refine .inr ⟨g,cap,cur,hv,hb2, ?_,rest⟩
   rw [←hg]
   exact hb.block g hlt
def Img (w:World) (g N:Nat) (xs:Nat→Nat×Nat):Prop :=
 g<w.heap.size∧∀i,i<N→w.cell? ⟨g,i*2,none⟩=some (.float .f64 (xs i).1)∧w.cell? ⟨g,i*2+1,none⟩=some (.float .f64 (xs i).2)∧w.frozen? ⟨g,i*2,none⟩=false∧w.frozen? ⟨g,i*2+1,none⟩=false
theorem Img.set {w:World} {g N:Nat} {xs:Nat→Nat×Nat} (h:Img w g N xs) (r p q:Nat) (hr:r<N):Img ((w.setCell ⟨g,r*2,none⟩ (.float .f64 p)).setCell ⟨g,r*2+1,none⟩ (.float .f64 q)) g N (fun i=>if i=r then (p,q) else xs i):=by
 refine⟨by simp only [World.size_setCell];exact h.1,fun i hi=>?_⟩
 obtain⟨a,b,c,d⟩:=h.2 i hi
 obtain⟨a',b',c',d'⟩:=h.2 r hr
 have ne3:r*2≠r*2+1:=by omega
 have ne4:r*2+1≠r*2:=by omega
 by_cases e:i=r
 · subst e
   simp only [if_true]
   exact⟨by go_simp,by go_simp,by go_simp,by go_simp⟩
 · simp only [e,if_false]
   have n1:i*2≠r*2:=by omega
   have n2:i*2≠r*2+1:=by omega
   have n3:i*2+1≠r*2:=by omega
   have n4:i*2+1≠r*2+1:=by omega
   have m1:r*2≠i*2:=by omega
   have m2:r*2+1≠i*2:=by omega
   have m3:r*2≠i*2+1:=by omega
   have m4:r*2+1≠i*2+1:=by omega
   refine⟨?_, ?_,by go_simp,by go_simp⟩
   · go_simp
   · go_simp
theorem Img.congr {w:World} {g N:Nat} {xs ys:Nat→Nat×Nat} (h:Img w g N xs) (e:∀i,i<N→xs i=ys i):Img w g N ys :=
 ⟨h.1,fun i hi=>by rw [←e i hi];exact h.2 i hi⟩
theorem Img.ivs {w:World} {g N:Nat} {xs:Nat→Nat×Nat} (h:Img w g N xs) (hx:∀i,i<N→(xs i).1<18446744073709551616∧(xs i).2<18446744073709551616):Ivs w (some ⟨g,0,none⟩) N xs:=fun i hi=>by
 obtain⟨a,b, -, -⟩:=h.2 i hi
 exact⟨g,0,rfl,h.1,by rw [Nat.zero_add];exact a,by rw [Nat.zero_add];exact b,hx i hi⟩
theorem wpList_makeI {w:World} {ops:Array Oper} {rest:List Oper} {o:Oper} {a:Act} {Q:Exit→Act→World→Prop} (hgd:o.guard=none) (l c:Operand)
   (ho:o.op=.makeSlice 26 l c) (n:Nat) (hl:a.eval l=.int .i64 (n:Int)) (hc:a.eval c=.int .i64 (n:Int)) (hn:n≤3000000)
   (h:∀w',Img w' w.heap.size n (fun _=>(0,0))→Below w.heap.size w w'→w.heap.size<w'.heap.size→wpList Tryz.prog ops Q rest (a.put o.dst (.slice (some ⟨w.heap.size,0,none⟩) n n)) w'):wpList Tryz.prog ops Q (o :: rest) a w:=by
 obtain⟨i0,hi,hz0,hz1,hz2⟩:=info_parts Tryz.infoIval
 refine wpList_make_full w hgd l c 26 ho w.heap.size 46 i0 (.agg #[.float .f64 0,.float .f64 0]) 2 Tryz.underlying26 hi hz0 hz1 .i64 .i64 _ _ n hl hc rfl rfl (by rw [hz2];omega) (by unfold maxLen;omega) (Nat.le_refl _) ?_
 intro w' h1 h2
 have hlt:=(World.ownsRow.lt h1 _ rfl).2
 refine h w' ⟨hlt,fun i hi=>?_⟩ ⟨h2.os,h2.tape,h2.output,h2.size,fun k hk=>h2.block k hk (by simp)⟩ hlt
 have hc:∀j,j<n*2→w'.cell? ⟨w.heap.size,j,none⟩=some (.float .f64 0):=fun j hj=>by
   have e1:(madeCells (Value.agg #[.float .f64 0,.float .f64 0]).cells (n*2)).toList=List.replicate (n*2) (Value.float .f64 0):=by
     refine List.eq_replicate_iff.2 ⟨by simp [madeCells],fun b hb=>?_⟩
     simp [madeCells,Value.cells] at hb
     obtain⟨x, -,hx⟩:=hb
     rw [←hx]
     have:x%2=0∨x%2=1:=by omega
     rcases this with e | e <;> simp [e]
   rw [World.ownsRow.cellAt h1 j hj,e1]
   simp [hj]
 exact⟨hc _ (by omega),hc _ (by omega),World.ownsRow.frozenAt h1 _,World.ownsRow.frozenAt h1 _⟩
theorem ownI_ivs {B:Nat} {w:World} {v:Value} {xs:List (Nat×Nat)} (h:OwnI B w v xs) (hx:∀p∈xs,p.1<18446744073709551616∧p.2<18446744073709551616):∃A C,v=.slice A xs.length C∧Ivs w A xs.length (fun i=>xs.getD i (0,0)):=by
 have h':w.ownsRow B 46 2 v xs.length (ivCells xs):=h
 rcases h'.2 with ⟨rfl,hn⟩ | ⟨g,cap,cur,rfl, -⟩
 · rw [hn]
   exact⟨none,0,rfl,fun i hi=>by omega⟩
 · refine⟨_,cap,rfl,fun i hi=>?_⟩
   have hl:=(World.ownsRow.lt h g rfl).2
   have hg:xs[i]?=some (xs.getD i (0,0)):=by simp [List.getD,hi]
   obtain⟨a,b⟩:=ivCells_at xs i _ hg
   refine⟨g,0,rfl,hl, ?_, ?_,hx _ ?_⟩
   · rw [Nat.zero_add,World.ownsRow.cellAt h (i*2) (by omega)];exact a
   · rw [Nat.zero_add,World.ownsRow.cellAt h (i*2+1) (by omega)];exact b
   · show xs.getD i (0,0)∈xs
     have:=List.getElem?_eq_some_iff.1 hg
     obtain⟨h1,h2⟩:=this
     rw [←h2]
     exact List.getElem_mem h1
set_option maxHeartbeats 2000000 in
theorem rsameV_w (A B:Option Addr) (n C D:Nat) (X Y:Nat→Nat×Nat) (hn:n≤9223372036854775807) (hxy:∀i,i<n→X i=Y i) (w:World) (V:Ivs w A n X) (U:Ivs w B n Y) :
   Calls Tryz.prog 8 #[.slice A n C,.slice B n D] w fun e w'=>e=.returned (.bool true)∧Below w.heap.size w w':=by
 have HX:Hid (∀i,i<n→X i=Y i):=hxy
 clear hxy
 go_enter Tryz.func8,Tryz.ntmps8
 go_wp2_with fail
 go_loopg [13] n (fun G s13 wx=>Below w.heap.size w wx∧∃i:Nat,i+G=n∧s13=.int .i64 (i:Int))
 case atStart=>exact⟨Below.refl _ _,0,by omega,rfl⟩
 case round =>
   obtain⟨HB,i,hi,rfl⟩:=hrel
   by_cases ci:i=n
   · subst ci
     go_wp2_with fail
     go_ret
     exact⟨rfl,HB⟩
   · have hlt:(i:Int)<(n:Int):=by omega
     obtain⟨b,o,hA,hb,x0,x1,l0,l1⟩:=(V.keep HB) i (by omega)
     obtain⟨b',o',hB,hb',y0,y1, -, -⟩:=(U.keep HB) i (by omega)
     rw [←HX i (by omega)] at y0 y1
     have c:=fun w=>rsame_self (X i).1 (X i).2 l0 l1 w
     subst hA hB
     go_upto_region 6 with fail
     have kx0:=fun n:Behind wr=>n.cell x0 hb
     have kx1:=fun n:Behind wr=>n.cell x1 hb
     have ky0:=fun n:Behind wr=>n.cell y0 hb'
     have ky1:=fun n:Behind wr=>n.cell y1 hb'
     refine region_behind (by kernel_rfl) (by kernel_rfl) ?_
     repeat (go_big_quiet_step (first
       | (go_at_call 24;with_reducible refine Behind.call (c _))))
     refine wpQuiet_nil ?_
     rintro _ ⟨q,rfl⟩
     obtain⟨W,hb1⟩:=q
     dsimp only
     replace HB:=later HB hb1
     clear hb1 kx0 kx1 ky0 ky1
     go_wp2_with fail
     go_roundg (n-i-1)
     case measure=>omega
     case rel=>exact⟨HB,i+1,by omega,by go_num⟩
structure HasT (w:World) (b:Nat) (v:Int) (A:Option Addr) (n C:Nat) (D:Option Addr) (m E:Nat):Prop where
 c0:w.cell? ⟨b,0,none⟩=some (.int .i64 v)
 c1:w.cell? ⟨b,1,none⟩=some (.slice A n C)
 c2:w.cell? ⟨b,2,none⟩=some (.slice D m E)
 lt:b<w.heap.size
theorem HasT.keep {w w2:World} {b:Nat} {v:Int} {A:Option Addr} {n C:Nat} {D:Option Addr} {m E:Nat} (h:HasT w b v A n C D m E) (hb:Below w.heap.size w w2):HasT w2 b v A n C D m E :=
 ⟨keepsC hb h.c0 h.lt,keepsC hb h.c1 h.lt,keepsC hb h.c2 h.lt,Nat.lt_of_lt_of_le h.lt hb.size⟩
theorem hasT_new (w:World) (v:Int) (A:Option Addr) (n C:Nat) (D:Option Addr) (m E:Nat):HasT (w.alloc (.cells #[.int .i64 v,.slice A n C,.slice D m E] 25)) w.heap.size v A n C D m E :=
 ⟨by go_simp,by go_simp,by go_simp,by go_size⟩
set_option maxHeartbeats 1000000 in
theorem ref_bad (v:Int) (A:Option Addr) (n C:Nat) (D:Option Addr) (m E:Nat) (xs:Value) (e:Int) (he:e=50) (w:World) (c1:∀W,Below w.heap.size w W→Calls Tryz.prog 10 #[tapeV v A n C D m E] W fun e' w'=>e'=.returned (.int .i64 e)∧Below W.heap.size W w') :
   Calls Tryz.prog 15 #[tapeV v A n C D m E,xs] w fun e w'=>e=.returned (.int .i64 50)∧Below w.heap.size w w':=by
 subst he
 unfold tapeV at *
 have T:=hasT_new w v A n C D m E
 have HB:Below w.heap.size w (w.alloc (.cells #[.int .i64 v,.slice A n C,.slice D m E] 25)):=by go_grown
 go_enter Tryz.func15,Tryz.ntmps15
 go_upto_region 1 with fail
 generalize (w.alloc (.cells #[.int .i64 v,.slice A n C,.slice D m E] 25))=V1 at *
 obtain⟨t0,t1,t2,tl⟩:=id T
 go_wp2_with (go_at_call 10;refine (c1 _ HB).mono ?_;rintro _ VV ⟨rfl,hb1⟩;replace HB:=later HB hb1)
 go_ret
 exact⟨rfl,HB⟩
set_option maxHeartbeats 1000000 in
theorem ref_len (v:Int) (A:Option Addr) (n C:Nat) (D:Option Addr) (m E:Nat) (AX:Option Addr) (mx CX:Nat) (hne:((mx:Int) != v)=true) (w:World) (c1:∀W,Below w.heap.size w W→Calls Tryz.prog 10 #[tapeV v A n C D m E] W fun e' w'=>e'=.returned (.int .i64 0)∧Below W.heap.size W w') :
   Calls Tryz.prog 15 #[tapeV v A n C D m E,.slice AX mx CX] w fun e w'=>e=.returned (.int .i64 1)∧Below w.heap.size w w':=by
 unfold tapeV at *
 have T:=hasT_new w v A n C D m E
 have HB:Below w.heap.size w (w.alloc (.cells #[.int .i64 v,.slice A n C,.slice D m E] 25)):=by go_grown
 go_enter Tryz.func15,Tryz.ntmps15
 go_upto_region 1 with fail
 generalize (w.alloc (.cells #[.int .i64 v,.slice A n C,.slice D m E] 25))=V1 at *
 obtain⟨t0,t1,t2,tl⟩:=id T
 go_wp2_with (go_at_call 10;refine (c1 _ HB).mono ?_;rintro _ VV ⟨rfl,hb1⟩;replace HB:=later HB hb1;replace T:=T.keep hb1;clear t0 t1 t2 tl;obtain⟨t0,t1,t2,tl⟩:=id T)
 go_ret
 exact⟨rfl,HB⟩
def allB (m:Nat) (X:Nat→Nat×Nat):Bool:=(List.range m).all fun i=>hsB (X i).1 (X i).2
set_option maxHeartbeats 1000000 in
theorem ref_all (v:Int) (A:Option Addr) (n C:Nat) (D:Option Addr) (m E:Nat) (AX:Option Addr) (mx CX:Nat) (X:Nat→Nat×Nat) (hm:mx≤9223372036854775807) (hne:((mx:Int) != v)=false) (w:World) (VX:Ivs w AX mx X) (c1:∀W,Below w.heap.size w W→Calls Tryz.prog 10 #[tapeV v A n C D m E] W fun e' w'=>e'=.returned (.int .i64 0)∧Below W.heap.size W w') :
   Calls Tryz.prog 15 #[tapeV v A n C D m E,.slice AX mx CX] w fun e w'=>e=.returned (.int .i64 (if allB mx X then 0 else 1))∧Below w.heap.size w w':=by
 have cr:=fun (i:Nat) (h1:(X i).1<18446744073709551616) (h2:(X i).2<18446744073709551616) w=>mayHold_w (X i).1 (X i).2 h1 h2 w
 unfold tapeV at *
 have T:=hasT_new w v A n C D m E
 have HB:Below w.heap.size w (w.alloc (.cells #[.int .i64 v,.slice A n C,.slice D m E] 25)):=by go_grown
 go_enter Tryz.func15,Tryz.ntmps15
 go_upto_region 1 with fail
 generalize (w.alloc (.cells #[.int .i64 v,.slice A n C,.slice D m E] 25))=V1 at *
 obtain⟨t0,t1,t2,tl⟩:=id T
 go_wp2_with (go_at_call 10;refine (c1 _ HB).mono ?_;rintro _ VV ⟨rfl,hb1⟩;replace HB:=later HB hb1;replace T:=T.keep hb1;clear t0 t1 t2 tl;obtain⟨t0,t1,t2,tl⟩:=id T)
 clear t0 t1 t2 tl T c1
 go_loopg [20] mx (fun G s20 wx=>Below w.heap.size w wx∧∃i:Nat,i+G=mx∧s20=.int .i64 (i:Int)∧Hid (∀j,j<i→hsB (X j).1 (X j).2=true))
 case atStart=>exact⟨HB,0,by omega,rfl,fun j hj=>absurd hj (by omega)⟩
 case round =>
   clear HB
   obtain⟨HB,i,hi,rfl,hall⟩:=hrel
   by_cases ci:i=mx
   · subst ci
     have e:allB i X=true:=by unfold allB;exact all_upto.2 hall
     go_wp2_with fail
     go_ret
     exact⟨rfl,HB⟩
   · have hlt:(i:Int)<(mx:Int):=by omega
     obtain⟨b,o,hA,hb,x0,x1,l0,l1⟩:=(VX.keep HB) i (by omega)
     have c:=cr i l0 l1
     have hcase:hsB (X i).1 (X i).2=true∨hsB (X i).1 (X i).2=false:=by cases hsB (X i).1 (X i).2 <;> simp
     rcases hcase with hq | hq
     · rw [hq] at c
       subst hA
       go_wp2_with (go_at_call 33;refine (c _).mono ?_;rintro _ w1 ⟨rfl,hb1⟩;replace HB:=later (below_alloc HB _) hb1)
       go_roundg (mx-i-1)
       case measure=>omega
       case rel=>exact⟨HB,i+1,by omega,by go_num,fun j hj=>by rcases Nat.lt_or_ge j i with h | h;exact hall j h;rw [show j=i by omega];exact hq⟩
     · rw [hq] at c
       have e:allB mx X=false:=by
         unfold allB
         exact all_not (i:=i) (by omega) hq
       subst hA
       go_wp2_with (go_at_call 33;refine (c _).mono ?_;rintro _ w1 ⟨rfl,hb1⟩;replace HB:=later (below_alloc HB _) hb1)
       all_goals
         go_ret
         exact⟨rfl,HB⟩
set_option maxHeartbeats 2000000 in
theorem outs_i (v:Int) (A:Option Addr) (n C:Nat) (D:Option Addr) (m E:Nat) (Y:Nat→Int) (B:Option Addr) (k F:Nat) (V:Nat→Nat×Nat) (hm:m≤400) (hY:∀i,i<m→0≤Y i∧Y i<(k:Int)) (w:World) (U:Ivs w B k V) (VY:Ins w D m Y) :
   Calls Tryz.prog 17 #[tapeV v A n C D m E,.slice B k F] w fun e w'=>∃g,e=.returned (.slice (some ⟨g,0,none⟩) m m)∧Img w' g m (fun i=>V (Y i).toNat)∧Below w.heap.size w w':=by
 have HY:Hid (∀i,i<m→0≤Y i∧Y i<(k:Int)):=hY
 clear hY
 unfold tapeV at *
 have T:=hasT_new w v A n C D m E
 have HB:Below w.heap.size w (w.alloc (.cells #[.int .i64 v,.slice A n C,.slice D m E] 25)):=by go_grown
 go_enter Tryz.func17,Tryz.ntmps17
 go_upto_region 1 with fail
 generalize (w.alloc (.cells #[.int .i64 v,.slice A n C,.slice D m E] 25))=V1 at *
 obtain⟨t0,t1,t2,tl⟩:=id T
 go_wp2_with (at_make;refine wpList_makeI (by rfl) _ _ (by rfl) m (by rfl) (by rfl) (by omega) ?_;intro w3 hI hb3 hS3;replace T:=T.keep hb3;clear t0 t1 t2 tl;obtain⟨t0,t1,t2,tl⟩:=id T)
 clear t0 t1 t2 tl T
 have hg:w.heap.size≤V1.heap.size:=HB.size
 replace HB:=later HB hb3
 clear hb3
 generalize V1.heap.size=g at *
 go_loopg [15] m (fun G s15 wx=>Below w.heap.size w wx∧∃r:Nat,r+G=m∧s15=.int .i64 (r:Int)∧Img wx g m (fun i=>if i<r then V (Y i).toNat else (0,0)))
 case atStart=>exact⟨HB,0,by omega,rfl,hI.congr fun i _=>by simp⟩
 case round =>
   clear HB hI
   obtain⟨HB,r,hr,rfl,hI⟩:=hrel
   by_cases cr:r=m
   · subst cr
     go_wp2_with fail
     go_ret
     exact⟨g,rfl,hI.congr fun i hi=>by simp [hi],HB⟩
   · have hlt:(r:Int)<(m:Int):=by omega
     obtain⟨b',o',hA,hb',y0⟩:=(VY.keep HB) r (by omega)
     obtain⟨j,hj⟩:∃j:Nat,Y r=(j:Int):=⟨(Y r).toNat,by have:=HY r (by omega);omega⟩
     have hjk:(j:Int)<(k:Int):=by have:=HY r (by omega);omega
     obtain⟨xb,xo,hB,hxb,x0,x1, -⟩:=(U.keep HB) j (by omega)
     have ej:V (Y r).toNat=V j:=by rw [hj];rfl
     rw [hj] at y0
     obtain⟨i0,i1,f0,f1⟩:=id (hI.2 r (by omega))
     subst hA
     subst hB
     go_wp2_with fail
     go_roundg (m-r-1)
     case measure=>omega
     case rel =>
       refine⟨?_,r+1,by omega,by go_num,(hI.set r _ _ (by omega)).congr fun i hi=>?_⟩
       · repeat' (first | (with_reducible exact HB) | (with_reducible refine Below.setCell ?_ ?_ _) | go_size | omega)
       · by_cases e:i=r
         · subst e
           simp [ej]
         · simp only [e,if_false]
           by_cases q:i<r
           · simp [q,show i<r+1 by omega]
           · simp [q,show ¬i<r+1 by omega]
def vsL (O:Nat→Opw) (X:Nat→Nat×Nat):Nat→List (Nat×Nat)
 | 0=>[]
 | i+1=>vsL O X i++[evalQ (O i) (argA (O i) (fun j=>(vsL O X i).getD j (0,0))) (argB (O i) (fun j=>(vsL O X i).getD j (0,0))) X]
def vAt (O:Nat→Opw) (X:Nat→Nat×Nat) (i:Nat):Nat→Nat×Nat:=fun j=>(vsL O X i).getD j (0,0)
def valI (O:Nat→Opw) (X:Nat→Nat×Nat) (i:Nat):Nat×Nat:=evalQ (O i) (argA (O i) (vAt O X i)) (argB (O i) (vAt O X i)) X
def errI (O:Nat→Opw) (X:Nat→Nat×Nat) (i:Nat):Int:=errQ (O i) (argA (O i) (vAt O X i)) (argB (O i) (vAt O X i)) X
theorem vsL_step (O:Nat→Opw) (X:Nat→Nat×Nat) (i:Nat):vsL O X (i+1)=vsL O X i++[((valI O X i).1,(valI O X i).2)]:=rfl
theorem vsL_len (O:Nat→Opw) (X:Nat→Nat×Nat) (i:Nat):(vsL O X i).length=i:=by
 induction i with
 | zero=>rfl
 | succ i ih=>rw [vsL_step,List.length_append,ih];rfl
theorem vsL_W2 {O:Nat→Opw} {X:Nat→Nat×Nat} {n:Nat} {vars:Int} (hr:∀i,i<n→opB (O i) (i:Int) vars=true) (hl:∀i,i<n→W2 ((O i).lo,(O i).hi)) (hX:∀i:Nat,(i:Int)<vars→W2 (X i)):∀i,i≤n→∀p∈vsL O X i,W2 p:=by
 intro i
 induction i with
 | zero=>intro _ p hp;cases hp
 | succ i ih =>
   intro hi p hp
   have ih':=ih (by omega)
   rw [vsL_step] at hp
   rcases List.mem_append.1 hp with h | h
   · exact ih' p h
   · have e:p=valI O X i:=by simpa using h
     rw [e]
     obtain⟨-,g1,g2,g3, -⟩:=opB_says (hr i (by omega))
     have at_:∀j:Nat,j<i→W2 (vAt O X i j):=fun j hj=>by
       have lj:j<(vsL O X i).length:=by rw [vsL_len];exact hj
       have:vAt O X i j=(vsL O X i)[j]:=by unfold vAt;simp [lj]
       rw [this]
       exact ih' _ (List.getElem_mem lj)
     refine evalQ_W2 (fun _=>hl i (by omega)) (fun e=>hX _ (by have:=g3 e;omega)) ?_ ?_
     · unfold argA
       split
       · rename_i c
         exact at_ _ (by have:=g1 c;omega)
       · exact zz_W2
     · unfold argB
       split
       · rename_i c
         exact at_ _ (by have:=g2 c;omega)
       · exact zz_W2
theorem wpList_makeI0 {w:World} {ops:Array Oper} {rest:List Oper} {o:Oper} {a:Act} {Q:Exit→Act→World→Prop} (hgd:o.guard=none) (l c:Operand)
   (ho:o.op=.makeSlice 26 l c) (n:Nat) (hl:a.eval l=.int .i64 0) (hc:a.eval c=.int .i64 (n:Int)) (hn:n≤3000000)
   (h:∀w',OwnI w.heap.size w' (.slice (some ⟨w.heap.size,0,none⟩) 0 n) []→Below w.heap.size w w'→wpList Tryz.prog ops Q rest (a.put o.dst (.slice (some ⟨w.heap.size,0,none⟩) 0 n)) w'):wpList Tryz.prog ops Q (o :: rest) a w:=by
 obtain⟨i0,hi,hz0,hz1,hz2⟩:=info_parts Tryz.infoIval
 refine wpList_make_own w hgd l c 26 ho w.heap.size 46 i0 (.agg #[.float .f64 0,.float .f64 0]) 2 Tryz.underlying26 hi hz0 hz1 .i64 .i64 _ n hl hc rfl (by rw [hz2];omega) (by unfold maxLen;omega) (Nat.le_refl _) ?_
 intro w' h1 h2
 exact h w' h1 ⟨h2.os,h2.tape,h2.output,h2.size,fun k hk=>h2.block k hk (by simp)⟩
set_option maxHeartbeats 4000000 in
theorem eval_t (v:Int) (A:Option Addr) (n C:Nat) (D:Option Addr) (m E:Nat) (O:Nat→Opw) (Y:Nat→Int) (AX:Option Addr) (mx CX:Nat) (X:Nat→Nat×Nat) (hn:n≤4000) (hm:m≤400) (hv:v=(mx:Int)) (hr:∀i,i<n→opB (O i) (i:Int) (mx:Int)=true) (hY:∀i,i<m→0≤Y i∧Y i<(n:Int)) (w:World) (VO:Ops w A n O) (VY:Ins w D m Y) (VX:Ivs w AX mx X)
   (c1:∀W,Below w.heap.size w W→Calls Tryz.prog 15 #[tapeV v A n C D m E,.slice AX mx CX] W fun e w'=>e=.returned (.int .i64 0)∧Below W.heap.size W w') :
   Calls Tryz.prog 6 #[tapeV v A n C D m E,.slice AX mx CX] w fun e w' =>
     ((∃g,e=.returned (.tuple #[.slice (some ⟨g,0,none⟩) m m,.int .i64 0])∧Img w' g m (fun i=>vAt O X n (Y i).toNat)∧∀j,j<n→errI O X j=0) ∨
      (∃k,k<n∧(∀j,j<k→errI O X j=0)∧errI O X k≠0∧e=.returned (.tuple #[.slice none 0 0,.int .i64 (errI O X k)])))∧Below w.heap.size w w':=by
 subst hv
 have HR:Hid (∀i,i<n→opB (O i) (i:Int) (mx:Int)=true):=hr
 have HY:Hid (∀i,i<m→0≤Y i∧Y i<(n:Int)):=hY
 have HW:Hid (∀i,i≤n→∀p∈vsL O X i,W2 p):=vsL_W2 hr (fun i hi=>by obtain⟨b,o,e,l,c0,c1,c2,c3,c4,c5,r⟩:=VO i hi;exact r) (fun i hi=>ivs_words VX i (by omega))
 have HL:Hid (∀i,(vsL O X i).length=i):=vsL_len O X
 clear hr hY
 unfold tapeV at c1 ⊢
 have T:=hasT_new w (mx:Int) A n C D m E
 have HB:Below w.heap.size w (w.alloc (.cells #[.int .i64 (mx:Int),.slice A n C,.slice D m E] 25)):=by go_grown
 go_enter Tryz.func6,Tryz.ntmps6
 go_upto_region 1 with fail
 generalize (w.alloc (.cells #[.int .i64 (mx:Int),.slice A n C,.slice D m E] 25))=V1 at *
 obtain⟨t0,t1,t2,tl⟩:=id T
 go_wp2_with (first
   | (go_at_call 15;refine (c1 _ HB).mono ?_;rintro _ V2 ⟨rfl,hb1⟩;replace HB:=later HB hb1;replace T:=T.keep hb1;clear t0 t1 t2 tl hb1;obtain⟨t0,t1,t2,tl⟩:=id T)
   | (at_make;refine wpList_makeI0 (by rfl) _ _ (by rfl) n (by rfl) (by rfl) (by omega) ?_;intro w3 hown hb3;have T3:=T.keep hb3;clear t0 t1 t2 tl;obtain⟨t0,t1,t2,tl⟩:=id T3))
 clear t0 t1 t2 tl T3 c1
 have TB:=T
 have HB2:=HB
 go_loopg [7,25] n (fun G s7 s25 wx=>Below V2.heap.size V2 wx∧∃k:Nat,k+G=n∧s25=.int .i64 (k:Int)∧OwnI V2.heap.size wx s7 (vsL O X k)∧Hid (∀j,j<k→errI O X j=0))
 case atStart=>exact⟨hb3,0,by omega,rfl,hown,fun j hj=>absurd hj (by omega)⟩
 case round =>
   clear hown hb3
   obtain⟨HV,k,hk,rfl,hown,hall⟩:=hrel
   have T:=TB.keep HV
   have HB:=later HB2 HV
   obtain⟨A7,C7,rfl,U⟩:=ownI_ivs hown (fun p hp=>HW k (by omega) p hp)
   rw [HL k] at U hown ⊢
   by_cases ck:k=n
   · subst ck
     obtain⟨t0,t1,t2,tl⟩:=id T
     have co:=outs_i (mx:Int) A k C D m E Y A7 k C7 (fun i=>(vsL O X k).getD i (0,0)) hm HY wr U (VY.keep HB)
     unfold tapeV at co
     go_wp2_with (go_at_call 17;refine co.mono ?_;rintro _ w4 ⟨g,rfl,hI,hb4⟩)
     refine bodyPost_ret (v:=.tuple #[.slice (some ⟨g,0,none⟩) m m,.int .i64 0]) (by simp [results,Tryz.results6,go_sem]) rfl ⟨Or.inl ⟨g,rfl,hI,hall⟩,later HB hb4⟩
   · have hlt:(k:Int)<(n:Int):=by omega
     obtain⟨b,o,hA,hb,x0,x1,x2,x3,x4,x5,l0,l1⟩:=(VO.keep HB) k (by omega)
     have cn:∀W,Below wr.heap.size wr W→Calls Tryz.prog 16 #[(O k).val,.slice A7 k C7,.slice AX mx CX] W fun e w'=>e=.returned (.tuple #[.agg #[.float .f64 (if errI O X k=0 then valI O X k else zz).1,.float .f64 (if errI O X k=0 then valI O X k else zz).2],.int .i64 (errI O X k)])∧Below W.heap.size W w' :=
       fun W hW=>nextv_w A7 C7 (fun j=>(vsL O X k).getD j (0,0)) AX mx CX X (HR k (by omega)) ⟨l0,l1⟩ W (U.keep hW) ((VX.keep HB).keep hW)
     unfold Opw.val at cn
     have hst:Hid (vsL O X (k+1)=vsL O X k++[((valI O X k).1,(valI O X k).2)]):=vsL_step O X k
     have hlen:(vsL O X k).length≤2000000:=by rw [HL k];omega
     replace hlen:Hid ((vsL O X k).length≤2000000):=hlen
     have hS:=HV.size
     by_cases he:errI O X k=0
     · rw [he,if_pos rfl] at cn
       replace he:Hid (errI O X k=0):=he
       generalize valI O X k=p at *
       subst hA
       go_upto_region 11 with (go_at_call 16;refine (cn _ (by go_grown)).mono ?_;rintro _ w5 ⟨rfl,hb5⟩;replace hown:=OwnI.keep (OwnI.keep hown (by go_grown)) hb5;replace HV:=later (below_alloc HV _) hb5)
       have Z:Has2 (w5.alloc (.cells #[.float .f64 p.1,.float .f64 p.2] 46)) w5.heap.size (.float .f64 p.1) (.float .f64 p.2):=has2_new _ _ _ _
       have hb6:Below w5.heap.size w5 (w5.alloc (.cells #[.float .f64 p.1,.float .f64 p.2] 46)):=by go_grown
       replace hown:=OwnI.keep hown hb6
       replace HV:=later HV hb6
       clear hb6 hb5 cn
       have hS6:=HV.size
       generalize w5.alloc (.cells #[.float .f64 p.1,.float .f64 p.2] 46)=w6 at *
       generalize w5.heap.size=z at *
       obtain⟨y0,y1,y2,y3,y4⟩:=id Z
       go_wp2_with (at_builtin;refine wpList_pushI (by rfl) _ _ (by rfl) _ (vsL O X k) p.1 p.2 (by rfl) (by rfl) hown hlen hS6 HV ?_;intro v' w' hown' hB' hS')
       go_roundg (n-k-1)
       case measure=>omega
       case rel=>exact⟨hB',k+1,by omega,by go_num,by rw [hst];exact hown',fun j hj=>by rcases Nat.lt_or_ge j k with h | h;exact hall j h;rw [show j=k by omega];exact he⟩
     · rw [if_neg he] at cn
       have hne:(errI O X k != 0)=true:=by simpa using he
       replace he:Hid (errI O X k≠0):=he
       subst hA
       go_wp2_with (go_at_call 16;refine (cn _ (by go_grown)).mono ?_;rintro _ w5 ⟨rfl,hb5⟩;replace HB:=later (below_alloc HB _) hb5)
       refine bodyPost_ret (v:=.tuple #[.slice none 0 0,.int .i64 (errI O X k)]) (by simp [results,Tryz.results6,go_sem]) rfl ⟨Or.inr ⟨k,by omega,hall,he,rfl⟩,below_alloc HB _⟩
section
variable {P:Program} {ops hd:Array Oper}
def storeB (l:List Oper) (n:Nat):Bool :=
 Region.lexB .any (l.take n).toArray&&decide (n+1<l.length)&&lowB l n&&distB (l.take n)&&Region.noSelect l.toArray
 && (match l[n]? with | some o=>o.guard.isNone&&o.dst.isNone&&(o.after.all fun e=>!Region.binds .any e || decide (e.on<n))&&((List.range n).all fun j=>match l[j]? with | some oj=>(match oj.dst with | some d=>!(o.looksAt l.toArray).contains d || Region.waitsFor .any l.toArray n j | none=>true) | none=>true) | none=>false)
 && ((List.range l.length).all fun j=>decide (j<n+1) || (List.range (n+1)).all fun i=>reachB l (n+1) 6 j i)
 && Region.seqB .any l.toArray (l.length-(n+1)) (n+1) (List.replicate (n+1) true++List.replicate (l.length-(n+1)) false).toArray
structure SInv (l:List Oper) (n:Nat) (lh listed:Array Bool) (st:Bool):Prop where
 s1:listed.size=l.length
 s2:lh.size=n
 same:∀j,j<n→lh.getD j true=listed.getD j true
 sto:listed.getD n true=st
 tail:∀j,n+1≤j→j<l.length→listed.getD j true=false
 cl:∀j oj,l.toArray[j]?=some oj→listed.getD j false=true→∀e∈oj.after,Region.binds .any e=true→listed.getD e.on false=true
theorem region_store {id:Nat} {Q:Exit→Act→World→Prop} {a:Act} {w:World} {l:List Oper} (n:Nat) (o:Oper) (A:Act) (D Z0 Z1:World→Prop) (put:World→World) (hm:P.follows .mixedOrders=true) (hB:storeB l n=true) (ho:l[n]?=some o)
   (hst:∀W,D W→Z0 W→(execOp A.eval o).run P W=.ok .skip (put W)∧Z1 (put W)∧D (put W))
   (hD:∀(w1 w2:World),D w1→Below w1.heap.size w1 w2→D w2) (hZ0:∀(w1 w2:World),Z0 w1→Below w1.heap.size w1 w2→Z0 w2) (hZ1:∀(w1 w2:World),Z1 w1→Below w1.heap.size w1 w2→Z1 w2) (hd:D w.drew) (hz:Z0 w.drew)
   (h:∀W,D W→wpQuiet P (l.take n).toArray (Beh W) (fun a'=>a'=A) (l.take n) a)
   (hT:∀W,D W→Z1 W→wpList P l.toArray Q (l.drop (n+1)) A W):(Code.region id l.toArray true).wp P Q a w:=by
 simp only [storeB,Bool.and_eq_true,decide_eq_true_eq] at hB
 obtain⟨⟨⟨⟨⟨⟨⟨hlex,hn⟩,hlow⟩,hdist⟩,hsel⟩,hop⟩,hwait⟩,hseq⟩:=hB
 rw [ho] at hop
 simp only [Bool.and_eq_true,Option.isNone_iff_eq_none] at hop
 obtain⟨⟨⟨hg,hd0⟩,haf⟩,hlk⟩:=hop
 have H:=heads_of (l:=l) (n:=n) (by omega) hlow
 have nosel:=Region.noSelect_spec hsel
 simp only [Region.lexB,Bool.and_eq_true] at hlex
 have hl:(l.take n).length=n:=by simp;omega
 have ho':l.toArray[n]?=some o:=by simpa using ho
 have late:∀(listed:Array Bool) (i:Nat),i<n+1→listed.getD i true=false→listed.size=l.length→(∀j oj,l.toArray[j]?=some oj→listed.getD j false=true→∀e∈oj.after,Region.binds .any e=true→listed.getD e.on false=true)→∀j∈Region.ready .any l.toArray listed,j<n+1:=fun listed i hi hli hsz cl j hj=>by
   rcases Nat.lt_or_ge j (n+1) with c | c
   · exact c
   · exfalso
     obtain⟨-,oj,hoj,hw⟩:=mem_ready.1 hj
     have hjl:j<l.length:=by have:=(Array.getElem?_eq_some_iff.1 hoj).1;simpa using this
     have h1:=List.all_eq_true.1 hwait j (List.mem_range.2 hjl)
     simp only [Bool.or_eq_true,decide_eq_true_eq] at h1
     rcases h1 with h1 | h1
     · omega
     · have h3:=reach_listed cl hsz 6 j i oj hoj hw (List.all_eq_true.1 h1 i (List.mem_range.2 hi))
       rw [getD_both hli] at h3
       cases h3
 have fin:∀(f:Nat) (lh listed:Array Bool) (a:Act) (w':World),SInv l n lh listed true→D w'→Z1 w'→Region.ready .any (l.take n).toArray lh=[]→a=A→wpAny P .any l.toArray Q (f+(l.length-(n+1))) listed a w':=fun f lh listed a w' inv hb hz hr ha=>by
   subst ha
   have full:=all_listed H inv.s2 hr
   have e:listed=(List.replicate (n+1) true++List.replicate (l.length-(n+1)) false).toArray:=by
     refine Array.ext (by simp [inv.s1];omega) fun i h1 h2=>?_
     have hi:i<l.length:=by rw [inv.s1] at h1;exact h1
     rcases Nat.lt_or_ge i (n+1) with c | c
     · have t:listed.getD i true=true:=by
         rcases Nat.lt_or_ge i n with c2 | c2
         · exact (inv.same i c2).symm.trans (full i c2)
         · rw [show i=n by omega];exact inv.sto
       simp [h1] at t
       simp [t,c]
     · have t:=inv.tail i c hi
       simp [h1] at t
       rw [t]
       simp only [List.getElem_toArray]
       rw [List.getElem_append_right (by simpa using c)]
       simp
   have s:=wpAny_of_seq (P:=P) (md:=.any) (Q':=Q) (l.drop (n+1)) (n+1) listed a w' (fun j=>by simp [List.getElem?_drop]) (by rw [e,List.length_drop];exact hseq) (hT w' hb hz)
   rw [List.length_drop] at s
   exact any_more' s f
 have main:∀(F f:Nat) (st:Bool) (lh listed:Array Bool) (a:Act) (w':World),F=f+(if st then 0 else 1)→SInv l n lh listed st→D w'→(st=false→Z0 w')→(st=true→Z1 w') →
     (∀W,D W→wpAnyQ P .any (l.take n).toArray (Beh W) (fun a'=>a'=A) f lh a)→wpAny P .any l.toArray Q (F+(l.length-(n+1))) listed a w':=by
   intro F
   induction F with
   | zero =>
     intro f st lh listed a w' hF inv hb h0 h1 hR
     cases st
     · simp at hF
     · have f0:f=0:=by simp at hF;omega
       subst f0
       have:=hR w' hb
       exact fin 0 lh listed a w' inv hb (h1 rfl) this.1 this.2
   | succ F ih =>
     intro f st lh listed a w' hF inv hb h0 h1 hR
     by_cases hr:Region.ready .any (l.take n).toArray lh=[]∧st=true
     · obtain⟨hr,rfl⟩:=hr
       have ha:a=A:=by
         have:=hR w' hb
         cases f with
         | zero=>exact this.2
         | succ f=>exact this.1 hr
       exact fin (F+1) lh listed a w' inv hb (h1 rfl) hr ha
     · have hup:∀j,j<n→(j∈Region.ready .any (l.take n).toArray lh↔j∈Region.ready .any l.toArray listed):=fun j hj=>by
         rw [mem_ready,mem_ready,inv.same j hj,H.same j hj]
         have key:∀oj,l.toArray[j]?=some oj→∀e∈oj.after,Region.binds .any e=true→lh.getD e.on false=listed.getD e.on false:=fun oj hoj e he hb=>by
           have hlo:=H.low j oj hj hoj e he hb
           rw [getD_any (l:=lh) (by rw [inv.s2];omega) false true,getD_any (l:=listed) (by rw [inv.s1];omega) false true]
           exact inv.same e.on (by omega)
         refine and_congr_right fun _=>⟨fun ⟨oj,hoj,h⟩=>⟨oj,hoj,fun e he hb=>?_⟩,fun ⟨oj,hoj,h⟩=>⟨oj,hoj,fun e he hb=>?_⟩⟩
         · rw [←key oj hoj e he hb];exact h e he hb
         · rw [key oj hoj e he hb];exact h e he hb
       obtain⟨i0,hi0,hl0⟩:∃i,i∈Region.ready .any l.toArray listed∧i<n+1:=by
         by_cases h2:Region.ready .any (l.take n).toArray lh=[]
         · have hst':st=false:=by
             cases st
             · rfl
             · exact absurd ⟨h2,rfl⟩ hr
           subst hst'
           have full:=all_listed H inv.s2 h2
           refine⟨n, ?_,by omega⟩
           rw [mem_ready]
           refine⟨inv.sto,o,ho',fun e he hbn=>?_⟩
           have h3:=Array.all_eq_true_iff_forall_mem.1 haf e he
           rw [hbn] at h3
           have lt:e.on<n:=by simpa using h3
           rw [getD_any (l:=listed) (by rw [inv.s1];omega) false true,←inv.same e.on lt]
           exact full e.on lt
         · obtain⟨i,hi⟩:=List.exists_mem_of_ne_nil _ h2
           have hin:i<n:=by
             obtain⟨_,oj,hoj,_⟩:=mem_ready.1 hi
             have:=(Array.getElem?_eq_some_iff.1 hoj).1
             rw [H.size] at this
             exact this
           exact⟨i,(hup i hin).1 hi,by omega⟩
       rw [show F+1+(l.length-(n+1))=(F+(l.length-(n+1)))+1 by omega]
       refine⟨fun h0=>(by rw [h0] at hi0;cases hi0),fun j hj=>?_⟩
       have hjk:=late listed i0 hl0 (mem_ready.1 hi0).1 inv.s1 inv.cl j hj
       rcases Nat.lt_or_ge j n with hjn | hjn
       · have hj':=(hup j hjn).2 hj
         have hoj:l.toArray[j]?=some (l.toArray[j]'(by simp;omega)):=by simp
         generalize hoo:l.toArray[j]'(by simp;omega)=oj at hoj
         have hoh:(l.take n).toArray[j]?=some oj:=by rw [H.same j hjn];exact hoj
         cases f with
         | zero =>
           have:=(hR w' hb).1
           rw [this] at hj'
           cases hj'
         | succ f =>
           have q:=head_q H hjn ((hR w' hb).2 j hj')
           obtain⟨v,hy,hKv⟩:=yieldsIn_of_qOp hoj q
           refine wpOp_of_qOp (C:=Beh w') (K:=fun a'=>a'=a.put oj.dst v) (beh_of (Below.refl _ _)) (fun a' w'' hw'' ha'=>?_) (hy.qOp hoj rfl)
           subst ha'
           have hbw:=hw''.below
           refine ih f st (lh.setIfInBounds j true) (listed.setIfInBounds j true) (a.put oj.dst v) w'' (by cases st <;> simp at hF ⊢ <;> omega) ⟨by simp [inv.s1],by simp [inv.s2],fun i hi=>?_,by rw [Go.getD_set_ne true (by omega)];exact inv.sto,fun i hi hil=>by rw [Go.getD_set_ne true (by omega)];exact inv.tail i hi hil,listed_cl inv.cl hj⟩ (hD _ _ hb hbw) (fun e=>hZ0 _ _ (h0 e) hbw) (fun e=>hZ1 _ _ (h1 e) hbw) (fun W hW=>?_)
           · by_cases hij:j=i
             · subst hij
               have h1:j<lh.size:=by rw [inv.s2];omega
               have h2:j<listed.size:=by rw [inv.s1];omega
               simp [h1,h2]
             · rw [Go.getD_set_ne true hij,Go.getD_set_ne true hij]
               exact inv.same i hi
           · obtain⟨v', -,hKv'⟩:=yieldsIn_of_qOp hoh ((hR W hW).2 j hj')
             have hKv2:wpAnyQ P .any (l.take n).toArray (Beh w') (fun a'=>a'=A) f (lh.setIfInBounds j true) (a.put oj.dst v):=hKv
             rw [put_pinned (md:=.any) hdist hoh (by rw [inv.s2];omega) hKv2 hKv']
             exact hKv'
       · -- the store
         have ej:j=n:=by omega
         subst ej
         have hst':st=false:=by
           have:=(mem_ready.1 hj).1
           rw [inv.sto] at this
           exact this
         subst hst'
         unfold wpOp
         simp only [ho']
         have hw:Region.wanted o (yielded l.toArray a.tmps)=true:=by unfold Region.wanted;rw [hg]
         rw [if_pos hw]
         refine .inl ?_
         have look:∀d,d∈o.looksAt l.toArray→A.tmps[d]?=a.tmps[d]?:=fun d hd=>by
           refine pin d f lh a (hR w' hb) (fun i oi hi hli=>?_)
           intro hdd
           have hi':i<j:=by
             have:=(Array.getElem?_eq_some_iff.1 hi).1
             rw [H.size] at this
             exact this
           have hol:l[i]?=some oi:=by
             rw [H.same i hi'] at hi
             simpa using hi
           have h2:=List.all_eq_true.1 hlk i (List.mem_range.2 hi')
           rw [hol] at h2
           simp only [hdd,Bool.or_eq_true,Bool.not_eq_true',List.contains_eq_mem,decide_eq_false_iff_not] at h2
           rcases h2 with h2 | h2
           · exact h2 hd
           · obtain⟨oj,hoj,e,he,hbn,hei⟩:=Region.waitsFor_spec h2
             have:oj=o:=Option.some.inj (hoj.symm.trans ho')
             subst this
             obtain⟨-,o2,ho2,hall⟩:=mem_ready.1 hj
             have:o2=oj:=Option.some.inj (ho2.symm.trans ho')
             subst this
             have h4:=hall e he hbn
             rw [hei] at h4
             rw [inv.same i hi'] at hli
             rw [getD_both hli] at h4
             cases h4
         have hex:execOp a.eval o=execOp A.eval o:=by
           refine execOp_congr o (fun cs b=>nosel j o cs b ho') fun x hx=>?_
           cases x with
           | tmp d =>
             have hd:d∈o.looksAt l.toArray:=List.mem_append_left _ (List.mem_filterMap.2 ⟨.tmp d,by simpa using hx,rfl⟩)
             have e:=look d hd
             unfold Act.eval
             simp [e]
           | _=>rfl
         obtain⟨hrun,hz1,hb2⟩:=hst w' hb (h0 rfl)
         unfold Oper.wp
         rw [hex,hrun]
         simp only [Oper.upon]
         rw [hd0]
         have ea:a.put none undef=a:=rfl
         rw [ea]
         refine ih f true lh (listed.setIfInBounds j true) a (put w') (by simp at hF ⊢;omega) ⟨by simp [inv.s1],inv.s2,fun i hi=>by rw [Go.getD_set_ne true (by omega)];exact inv.same i hi, ?_,fun i hi hil=>by rw [Go.getD_set_ne true (by omega)];exact inv.tail i hi hil,listed_cl inv.cl hj⟩ hb2 (fun e=>by cases e) (fun _=>hz1) hR
         have:j<listed.size:=by rw [inv.s1];omega
         simp [this]
 refine wp_region_any hm ?_
 have R:∀W,D W→wpAnyQ P .any (l.take n).toArray (Beh W) (fun a'=>a'=A) n (Array.replicate n false) a:=fun W hW=>by
   have q:=wpAnyQ_lex (P:=P) (C:=Beh W) (md:=.any) hlex.1 (l.take n) 0 (Array.replicate (l.take n).toArray.size false) a (by simp) (by simpa using hlex.2) (h W hW)
   rw [hl] at q
   have:(l.take n).toArray.size=n:=by simpa using hl
   rw [this] at q
   exact q
 have t:=main (n+1) n false (Array.replicate n false) (Array.replicate l.length false) a w.drew (by simp) ⟨by simp,by simp,fun j hj=>by simp [hj,show j<l.length by omega],by simp [show n<l.length by omega],fun j hj hjl=>by simp [hjl],fun j oj _ hl=>(by rw [getD_replicate_false] at hl;cases hl)⟩ hd (fun _=>hz) (fun e=>by cases e) R
 have e:n+1+(l.length-(n+1))=l.toArray.size:=by simp;omega
 rw [e] at t
 have e2:l.length=l.toArray.size:=by simp
 rw [e2] at t
 exact t
end
theorem Has2.keepB {w W:World} {b r:Nat} {x y:Value} (h:Has2 w b x y) (hb:Below r w W) (hlt:b<r) (hs:w.heap.size≤W.heap.size):Has2 W b x y :=
 ⟨(hb.cell (p:=⟨b,0,none⟩) hlt).trans h.1,(hb.cell (p:=⟨b,1,none⟩) hlt).trans h.2.1,(hb.frozen (p:=⟨b,0,none⟩) hlt).trans h.2.2.1,(hb.frozen (p:=⟨b,1,none⟩) hlt).trans h.2.2.2.1,Nat.lt_of_lt_of_le h.2.2.2.2 hs⟩
theorem tail_stored {id:Nat} {Q:Exit→Act→World→Prop} {a:Act} {w:World} {l:List Oper} {o:Oper} {A:Act} (n r:Nat) (z1 z2 v1 v2:Value) (D:World→Prop) (hm:Tryz.prog.follows .mixedOrders=true) (hB:storeB l n=true) (ho:l[n]?=some o) (hR:Has2 w r z1 z2) (hd:D w.drew)
   (hD:∀(w1 w2:World),D w1→Below w1.heap.size w1 w2→D w2) (hDp:∀W,D W→Has2 W r z1 z2→D ((W.setCell ⟨r,0,none⟩ v1).setCell ⟨r,1,none⟩ v2))
   (h:∀W,D W→wpQuiet Tryz.prog (l.take n).toArray (fun w'=>∃n:Behind W,w'=n.W) (fun a'=>a'=A) (l.take n) a)
   (hst:∀W,Has2 W r z1 z2→(execOp A.eval o).run Tryz.prog W=.ok .skip ((W.setCell ⟨r,0,none⟩ v1).setCell ⟨r,1,none⟩ v2))
   (hT:∀W,D W→Has2 W r v1 v2→wpList Tryz.prog l.toArray Q (l.drop (n+1)) A W):(Code.region id l.toArray true).wp Tryz.prog Q a w :=
 region_store n o A D (fun W=>Has2 W r z1 z2) (fun W=>Has2 W r v1 v2) (fun W=>(W.setCell ⟨r,0,none⟩ v1).setCell ⟨r,1,none⟩ v2) hm hB ho
   (fun W hb z=>⟨hst W z,z.put v1 v2,hDp W hb z⟩) hD (fun _ _ z hb=>z.keep hb) (fun _ _ z hb=>z.keep hb) hd hR.drew h hT
theorem tail_store {id:Nat} {Q:Exit→Act→World→Prop} {a:Act} {w:World} {l:List Oper} {o:Oper} {A:Act} (n r:Nat) (z1 z2 v1 v2:Value) (hm:Tryz.prog.follows .mixedOrders=true) (hB:storeB l n=true) (ho:l[n]?=some o) (hR:Has2 w r z1 z2)
   (h:∀W,Below r w W→w.heap.size≤W.heap.size→wpQuiet Tryz.prog (l.take n).toArray (fun w'=>∃n:Behind W,w'=n.W) (fun a'=>a'=A) (l.take n) a)
   (hst:∀W,Has2 W r z1 z2→(execOp A.eval o).run Tryz.prog W=.ok .skip ((W.setCell ⟨r,0,none⟩ v1).setCell ⟨r,1,none⟩ v2))
   (hT:∀W,Below r w W→w.heap.size≤W.heap.size→Has2 W r v1 v2→wpList Tryz.prog l.toArray Q (l.drop (n+1)) A W):(Code.region id l.toArray true).wp Tryz.prog Q a w :=
 tail_stored n r z1 z2 v1 v2 (fun W=>Below r w W∧w.heap.size≤W.heap.size) hm hB ho hR ⟨(Below.refl _ _).drew,Nat.le_refl _⟩
   (fun _ _ d hb=>⟨d.1.trans (hb.mono (Nat.le_trans (Nat.le_of_lt hR.2.2.2.2) d.2)),Nat.le_trans d.2 hb.size⟩)
   (fun W d _=>⟨(d.1.setCell (p:=⟨r,0,none⟩) (Nat.le_refl _) _).setCell (p:=⟨r,1,none⟩) (Nat.le_refl _) _,by simpa only [World.size_setCell] using d.2⟩)
   (fun W d=>h W d.1 d.2) hst (fun W d z=>hT W d.1 d.2 z)
end Go.Proofs.YtnchhfhoaepjnaaGreat
