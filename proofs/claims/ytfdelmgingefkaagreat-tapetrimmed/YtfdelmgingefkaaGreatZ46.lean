/- A tape's values: refused, atOuts and Eval of the program. A tape's values: Eval of the program. Trimming: the plain facts, and a map whose keys are operations. Trimming: rows of whole numbers and of truths in blocks of the call's own; what is needed, and where it stands now: the plain facts. Trimming: what is needed, and where it stands now: the plain facts, and the program's small functions. -/
import Derived.Test.YtfdelmgingefkaaGreatZ45
import Derived.Test.YtfdelmgingefkaaGreatZ18
import Derived.WideKeyRuns
import Derived.Handy
namespace Go.Proofs.YtfdelmgingefkaaGreat
open Go.ChangeShapes Go.WideShapes Go.ChangeAt Go.RowKit
structure HasT (w:World) (b:Nat) (v:Int) (A:Option Addr) (n C:Nat) (D:Option Addr) (m E:Nat):Prop where
 c0:w.cell? ⟨b,0,none⟩=some (.int .i64 v)
 c1:w.cell? ⟨b,1,none⟩=some (.slice A n C)
 c2:w.cell? ⟨b,2,none⟩=some (.slice D m E)
 lt:b<w.heap.size
theorem HasT.keep {w w2:World} {b:Nat} {v:Int} {A:Option Addr} {n C:Nat} {D:Option Addr} {m E:Nat} (h:HasT w b v A n C D m E) (hb:Below w.heap.size w w2):HasT w2 b v A n C D m E :=
 ⟨keepsC hb h.c0 h.lt,keepsC hb h.c1 h.lt,keepsC hb h.c2 h.lt,Nat.lt_of_lt_of_le h.lt hb.size⟩
theorem hasT_new (w:World) (v:Int) (A:Option Addr) (n C:Nat) (D:Option Addr) (m E:Nat):HasT (w.alloc (.cells #[.int .i64 v,.slice A n C,.slice D m E] 45)) w.heap.size v A n C D m E :=
 ⟨by go_simp,by go_simp,by go_simp,by go_size⟩
set_option maxHeartbeats 1000000 in
theorem ref_len (v:Int) (A:Option Addr) (n C:Nat) (D:Option Addr) (m E:Nat) (AX:Option Addr) (mx CX:Nat) (hne:((mx:Int) != v)=true) (w:World) (c1:∀W,Below w.heap.size w W→Calls Tryz.prog 27 #[tapeV v A n C D m E] W fun e' w'=>e'=.returned (.int .i64 0)∧Below W.heap.size W w') :
   Calls Tryz.prog 71 #[tapeV v A n C D m E,.slice AX mx CX] w fun e w'=>e=.returned (.int .i64 1)∧Below w.heap.size w w':=by
 unfold tapeV at *
 have T:=hasT_new w v A n C D m E
 have HB:Below w.heap.size w (w.alloc (.cells #[.int .i64 v,.slice A n C,.slice D m E] 45)):=by go_grown
 go_enter Tryz.func71,Tryz.ntmps71
 go_upto_region 1 with fail
 generalize (w.alloc (.cells #[.int .i64 v,.slice A n C,.slice D m E] 45))=V1 at *
 obtain⟨t0,t1,t2,tl⟩:=id T
 go_wp2_with (go_at_call 27;refine (c1 _ HB).mono ?_;rintro _ VV ⟨rfl,hb1⟩;replace HB:=later HB hb1;replace T:=T.keep hb1;clear t0 t1 t2 tl;obtain⟨t0,t1,t2,tl⟩:=id T)
 go_ret
 exact⟨rfl,HB⟩
def allB (m:Nat) (X:Nat→Nat×Nat):Bool:=(List.range m).all fun i=>hsB (X i).1 (X i).2
set_option maxHeartbeats 1000000 in
theorem ref_all (v:Int) (A:Option Addr) (n C:Nat) (D:Option Addr) (m E:Nat) (AX:Option Addr) (mx CX:Nat) (X:Nat→Nat×Nat) (hm:mx≤9223372036854775807) (hne:((mx:Int) != v)=false) (w:World) (VX:Ivs w AX mx X) (c1:∀W,Below w.heap.size w W→Calls Tryz.prog 27 #[tapeV v A n C D m E] W fun e' w'=>e'=.returned (.int .i64 0)∧Below W.heap.size W w') :
   Calls Tryz.prog 71 #[tapeV v A n C D m E,.slice AX mx CX] w fun e w'=>e=.returned (.int .i64 (if allB mx X then 0 else 1))∧Below w.heap.size w w':=by
 have cr:=fun (i:Nat) (h1:(X i).1<18446744073709551616) (h2:(X i).2<18446744073709551616) w=>mayHold_w (X i).1 (X i).2 h1 h2 w
 unfold tapeV at *
 have T:=hasT_new w v A n C D m E
 have HB:Below w.heap.size w (w.alloc (.cells #[.int .i64 v,.slice A n C,.slice D m E] 45)):=by go_grown
 go_enter Tryz.func71,Tryz.ntmps71
 go_upto_region 1 with fail
 generalize (w.alloc (.cells #[.int .i64 v,.slice A n C,.slice D m E] 45))=V1 at *
 obtain⟨t0,t1,t2,tl⟩:=id T
 go_wp2_with (go_at_call 27;refine (c1 _ HB).mono ?_;rintro _ VV ⟨rfl,hb1⟩;replace HB:=later HB hb1;replace T:=T.keep hb1;clear t0 t1 t2 tl;obtain⟨t0,t1,t2,tl⟩:=id T)
 clear t0 t1 t2 tl T c1
 go_loopg [20] mx (fun G s20 wx=>Below w.heap.size w wx∧∃i:Nat,i+G=mx∧s20=.int .i64 (i:Int)∧Hid (∀j,j<i→hsB (X j).1 (X j).2=true))
 case atStart=>exact⟨HB,0,by omega,rfl,fun j hj=>absurd hj (by omega)⟩
 case round =>
   clear HB
   obtain⟨HB,i,hi,rfl,hall⟩:=hrel
   by_cases ci:i=mx
   · subst ci
     have e:allB i X=true:=by unfold allB;exact all_upto.2 hall
     go_wp2_with fail
     go_ret
     exact⟨rfl,HB⟩
   · have hlt:(i:Int)<(mx:Int):=by omega
     obtain⟨b,o,hA,hb,x0,x1,l0,l1⟩:=(VX.keep HB) i (by omega)
     have c:=cr i l0 l1
     have hcase:hsB (X i).1 (X i).2=true∨hsB (X i).1 (X i).2=false:=by cases hsB (X i).1 (X i).2 <;> simp
     rcases hcase with hq | hq
     · rw [hq] at c
       subst hA
       go_wp2_with (go_at_call 130;refine (c _).mono ?_;rintro _ w1 ⟨rfl,hb1⟩;replace HB:=later (below_alloc HB _) hb1)
       go_roundg (mx-i-1)
       case measure=>omega
       case rel=>exact⟨HB,i+1,by omega,by go_num,fun j hj=>by rcases Nat.lt_or_ge j i with h | h;exact hall j h;rw [show j=i by omega];exact hq⟩
     · rw [hq] at c
       have e:allB mx X=false:=by
         unfold allB
         exact all_not (i:=i) (by omega) hq
       subst hA
       go_wp2_with (go_at_call 130;refine (c _).mono ?_;rintro _ w1 ⟨rfl,hb1⟩;replace HB:=later (below_alloc HB _) hb1)
       all_goals
         go_ret
         exact⟨rfl,HB⟩
set_option maxHeartbeats 2000000 in
theorem outs_i (v:Int) (A:Option Addr) (n C:Nat) (D:Option Addr) (m E:Nat) (Y:Nat→Int) (B:Option Addr) (k F:Nat) (V:Nat→Nat×Nat) (hm:m≤400) (hY:∀i,i<m→0≤Y i∧Y i<(k:Int)) (w:World) (U:Ivs w B k V) (VY:Ins w D m Y) :
   Calls Tryz.prog 74 #[tapeV v A n C D m E,.slice B k F] w fun e w'=>∃g,e=.returned (.slice (some ⟨g,0,none⟩) m m)∧Img w' g m (fun i=>V (Y i).toNat)∧Below w.heap.size w w':=by
 have HY:Hid (∀i,i<m→0≤Y i∧Y i<(k:Int)):=hY
 clear hY
 unfold tapeV at *
 have T:=hasT_new w v A n C D m E
 have HB:Below w.heap.size w (w.alloc (.cells #[.int .i64 v,.slice A n C,.slice D m E] 45)):=by go_grown
 go_enter Tryz.func74,Tryz.ntmps74
 go_upto_region 1 with fail
 generalize (w.alloc (.cells #[.int .i64 v,.slice A n C,.slice D m E] 45))=V1 at *
 obtain⟨t0,t1,t2,tl⟩:=id T
 go_wp2_with (at_make;refine wpList_makeI (by rfl) _ _ (by rfl) m (by rfl) (by rfl) (by omega) ?_;intro w3 hI hb3 hS3;replace T:=T.keep hb3;clear t0 t1 t2 tl;obtain⟨t0,t1,t2,tl⟩:=id T)
 clear t0 t1 t2 tl T
 have hg:w.heap.size≤V1.heap.size:=HB.size
 replace HB:=later HB hb3
 clear hb3
 generalize V1.heap.size=g at *
 go_loopg [15] m (fun G s15 wx=>Below w.heap.size w wx∧∃r:Nat,r+G=m∧s15=.int .i64 (r:Int)∧Img wx g m (fun i=>if i<r then V (Y i).toNat else (0,0)))
 case atStart=>exact⟨HB,0,by omega,rfl,hI.congr fun i _=>by simp⟩
 case round =>
   clear HB hI
   obtain⟨HB,r,hr,rfl,hI⟩:=hrel
   by_cases cr:r=m
   · subst cr
     go_wp2_with fail
     go_ret
     exact⟨g,rfl,hI.congr fun i hi=>by simp [hi],HB⟩
   · have hlt:(r:Int)<(m:Int):=by omega
     obtain⟨b',o',hA,hb',y0⟩:=(VY.keep HB) r (by omega)
     obtain⟨j,hj⟩:∃j:Nat,Y r=(j:Int):=⟨(Y r).toNat,by have:=HY r (by omega);omega⟩
     have hjk:(j:Int)<(k:Int):=by have:=HY r (by omega);omega
     obtain⟨xb,xo,hB,hxb,x0,x1, -⟩:=(U.keep HB) j (by omega)
     have ej:V (Y r).toNat=V j:=by rw [hj];rfl
     rw [hj] at y0
     obtain⟨i0,i1,f0,f1⟩:=id (hI.2 r (by omega))
     subst hA
     subst hB
     go_wp2_with fail
     go_roundg (m-r-1)
     case measure=>omega
     case rel =>
       refine⟨?_,r+1,by omega,by go_num,(hI.set r _ _ (by omega)).congr fun i hi=>?_⟩
       · repeat' (first | (with_reducible exact HB) | (with_reducible refine Below.setCell ?_ ?_ _) | go_size | omega)
       · by_cases e:i=r
         · subst e
           simp [ej]
         · simp only [e,if_false]
           by_cases q:i<r
           · simp [q,show i<r+1 by omega]
           · simp [q,show ¬i<r+1 by omega]
def vsL (O:Nat→Opw) (X:Nat→Nat×Nat):Nat→List (Nat×Nat)
 | 0=>[]
 | i+1=>vsL O X i++[evalQ (O i) (argA (O i) (fun j=>(vsL O X i).getD j (0,0))) (argB (O i) (fun j=>(vsL O X i).getD j (0,0))) X]
def vAt (O:Nat→Opw) (X:Nat→Nat×Nat) (i:Nat):Nat→Nat×Nat:=fun j=>(vsL O X i).getD j (0,0)
def valI (O:Nat→Opw) (X:Nat→Nat×Nat) (i:Nat):Nat×Nat:=evalQ (O i) (argA (O i) (vAt O X i)) (argB (O i) (vAt O X i)) X
def errI (O:Nat→Opw) (X:Nat→Nat×Nat) (i:Nat):Int:=errQ (O i) (argA (O i) (vAt O X i)) (argB (O i) (vAt O X i)) X
theorem vsL_step (O:Nat→Opw) (X:Nat→Nat×Nat) (i:Nat):vsL O X (i+1)=vsL O X i++[((valI O X i).1,(valI O X i).2)]:=rfl
theorem vsL_len (O:Nat→Opw) (X:Nat→Nat×Nat) (i:Nat):(vsL O X i).length=i:=by
 induction i with
 | zero=>rfl
 | succ i ih=>rw [vsL_step,List.length_append,ih];rfl
theorem vsL_W2 {O:Nat→Opw} {X:Nat→Nat×Nat} {n:Nat} {vars:Int} (hr:∀i,i<n→opB (O i) (i:Int) vars=true) (hl:∀i,i<n→W2 ((O i).lo,(O i).hi)) (hX:∀i:Nat,(i:Int)<vars→W2 (X i)):∀i,i≤n→∀p∈vsL O X i,W2 p:=by
 intro i
 induction i with
 | zero=>intro _ p hp;cases hp
 | succ i ih =>
   intro hi p hp
   have ih':=ih (by omega)
   rw [vsL_step] at hp
   rcases List.mem_append.1 hp with h | h
   · exact ih' p h
   · have e:p=valI O X i:=by simpa using h
     rw [e]
     obtain⟨-,g1,g2,g3, -⟩:=opB_says (hr i (by omega))
     have at_:∀j:Nat,j<i→W2 (vAt O X i j):=fun j hj=>by
       have lj:j<(vsL O X i).length:=by rw [vsL_len];exact hj
       have:vAt O X i j=(vsL O X i)[j]:=by unfold vAt;simp [lj]
       rw [this]
       exact ih' _ (List.getElem_mem lj)
     refine evalQ_W2 (fun _=>hl i (by omega)) (fun e=>hX _ (by have:=g3 e;omega)) ?_ ?_
     · unfold argA
       split
       · rename_i c
         exact at_ _ (by have:=g1 c;omega)
       · exact zz_W2
     · unfold argB
       split
       · rename_i c
         exact at_ _ (by have:=g2 c;omega)
       · exact zz_W2
theorem wpList_makeI0 {w:World} {ops:Array Oper} {rest:List Oper} {o:Oper} {a:Act} {Q:Exit→Act→World→Prop} (hgd:o.guard=none) (l c:Operand)
   (ho:o.op=.makeSlice 46 l c) (n:Nat) (hl:a.eval l=.int .i64 0) (hc:a.eval c=.int .i64 (n:Int)) (hn:n≤3000000)
   (h:∀w',OwnI w.heap.size w' (.slice (some ⟨w.heap.size,0,none⟩) 0 n) []→Below w.heap.size w w'→wpList Tryz.prog ops Q rest (a.put o.dst (.slice (some ⟨w.heap.size,0,none⟩) 0 n)) w'):wpList Tryz.prog ops Q (o :: rest) a w:=by
 obtain⟨i0,hi,hz0,hz1,hz2⟩:=info_parts Tryz.infoIval
 refine wpList_make_own w hgd l c 46 ho w.heap.size 24 i0 (.agg #[.float .f64 0,.float .f64 0]) 2 Tryz.underlying46 hi hz0 hz1 .i64 .i64 _ n hl hc rfl (by rw [hz2];omega) (by unfold maxLen;omega) (Nat.le_refl _) ?_
 intro w' h1 h2
 exact h w' h1 ⟨h2.os,h2.tape,h2.output,h2.size,fun k hk=>h2.block k hk (by simp)⟩
def eqO (x y:Opw):Bool:=x.k==y.k&&(x.a==y.a&&(x.b==y.b&&(x.n==y.n&&(eqB x.lo y.lo&&eqB x.hi y.hi))))
def Opw.ok (x:Opw):Prop:=x.lo<18446744073709551616∧x.hi<18446744073709551616
theorem equalIn_f (a b:Nat) (w:World):(Op.equalIn 9998 22 (.float .f64 a) (.float .f64 b)).run Tryz.prog w=.ok (FloatKind.f64.format.order a b==some .eq) w:=by
 unfold Op.equalIn
 simp [go_sem]
 rfl
theorem equalIn_iv (a b c d:Nat) (w:World):(Op.equalIn 9999 24 (.agg #[.float .f64 a,.float .f64 b]) (.agg #[.float .f64 c,.float .f64 d])).run Tryz.prog w=.ok ((FloatKind.f64.format.order a c==some .eq)&&(FloatKind.f64.format.order b d==some .eq)) w:=by
 show (Op.equalIn (9998+1) 24 _ _).run Tryz.prog w=_
 rw [run_equalIn_struct w 9998 24 _ _ (by kernel_rfl) (by kernel_rfl)]
 cases h1:(FloatKind.f64.format.order a c==some .eq) <;> cases h2:(FloatKind.f64.format.order b d==some .eq) <;> simp [go_sem,equalIn_f,h1,h2]
theorem equal_op (x y:Opw) (hx:x.ok) (hy:y.ok) (w:World):(Op.equal 80 x.val y.val).run Tryz.prog w=.ok (eqO x y) w:=by
 have e1:=o_eq hx.1 hy.1
 have e2:=o_eq hx.2 hy.2
 unfold Opw.val
 show (Op.equalIn (9999+1) 80 _ _).run Tryz.prog w=_
 rw [run_equalIn_struct w 9999 80 _ _ (by kernel_rfl) (by kernel_rfl)]
 unfold eqO
 rw [←e1,←e2]
 cases h1:x.k==y.k
 · simp [go_sem,h1]
 cases h2:x.a==y.a
 · simp [go_sem,h1,h2]
 cases h3:x.b==y.b
 · simp [go_sem,h1,h2,h3]
 cases h4:x.n==y.n
 · simp [go_sem,h1,h2,h3,h4]
 cases h5:(FloatKind.f64.format.order x.lo y.lo==some .eq) <;> cases h6:(FloatKind.f64.format.order x.hi y.hi==some .eq) <;> simp [go_sem,h1,h2,h3,h4,equalIn_iv,h5,h6]
def entL (T:List Opw) (i:Nat):List MapEntry:=(T.zipIdx i).map fun p=>{ key:=p.1.val,val:=.int .i64 (p.2:Int),born:=p.2 }
def entO (T:List Opw):Array MapEntry:=(entL T 0).toArray
theorem entL_cons (o:Opw) (T:List Opw) (i:Nat):entL (o :: T) i={ key:=o.val,val:=.int .i64 (i:Int),born:=i } :: entL T (i+1):=by
 unfold entL;simp [List.zipIdx_cons]
theorem entO_push (T:List Opw) (o:Opw):entO (T++[o])=(entO T).push { key:=o.val,val:=.int .i64 (T.length:Int),born:=T.length }:=by
 unfold entO entL
 rw [List.zipIdx_append]
 simp
theorem find_ops (mv:Opw) (hm:mv.ok) (w:World):∀(T:List Opw) (i:Nat),(∀t∈T,t.ok)→(Instr.findAsking 80 mv.val (entL T i) i).run Tryz.prog w=.ok ((T.findIdx? (eqO mv)).map fun j=>(i+j,.int .i64 ((i+j:Nat):Int))) w
 | [],i,_=>by simp [entL,Instr.findAsking]
 | o :: T,i,h=>by
   rw [entL_cons]
   unfold Instr.findAsking
   have e:=equal_op mv o hm (h o (by simp)) w
   have ih:=find_ops mv hm w T (i+1) (fun t ht=>h t (by simp [ht]))
   cases c:eqO mv o
   · rw [c] at e
     simp only [Sem.run_bind,e,Result.andThen_ok,Bool.false_eq_true,if_false]
     rw [ih,List.findIdx?_cons,c]
     cases T.findIdx? (eqO mv) with
     | none=>rfl
     | some j =>
       simp only [Option.map_some]
       rw [show i+1+j=i+(j+1) by omega]
       rfl
   · rw [c] at e
     simp only [Sem.run_bind,e,Result.andThen_ok,if_true]
     rw [List.findIdx?_cons,c]
     simp
theorem findKey_ops (mv:Opw) (hm:mv.ok) (T:List Opw) (h:∀t∈T,t.ok) (w:World):(Instr.findKey 80 mv.val (entO T).toList).run Tryz.prog w=.ok ((T.findIdx? (eqO mv)).map fun j=>(j,.int .i64 (j:Int))) w:=by
 rw [run_findKey_eq (k:=80) w (by kernel_rfl)]
 have:=find_ops mv hm w T 0 h
 simpa [entO] using this
theorem ck_int (b:Bool) (n:Nat) (x:Int) (w:World):(Instr.checkKey b (n+1) 3 (.int .i64 x)).run Tryz.prog w=.ok () w:=by
 unfold Instr.checkKey
 simp [Sem.run_bind,run_underlying Tryz.underlying3]
theorem ck_flt (b:Bool) (n:Nat) (x:Nat) (w:World):(Instr.checkKey b (n+1) 22 (.float .f64 x)).run Tryz.prog w=.ok () w:=by
 unfold Instr.checkKey
 simp [Sem.run_bind,run_underlying Tryz.underlying22]
theorem ck_iv (b:Bool) (n x y:Nat) (w:World):(Instr.checkKey b (n+2) 24 (.agg #[.float .f64 x,.float .f64 y])).run Tryz.prog w=.ok () w:=by
 have c:=fun z w=>ck_flt b n z w
 generalize hN:n+1=N at c
 rw [show n+2=N+1 by omega]
 unfold Instr.checkKey
 simp [Sem.run_bind,run_underlying Tryz.underlying24,go_sem,c]
theorem ck_op (b:Bool) (n:Nat) (o:Opw) (w:World):(Instr.checkKey b (n+3) 80 o.val).run Tryz.prog w=.ok () w:=by
 have c:=fun z w=>ck_int b (n+1) z w
 have d:=fun x y w=>ck_iv b n x y w
 rw [show n+1+1=n+2 by omega] at c
 generalize hN:n+2=N at c d
 rw [show n+3=N+1 by omega]
 unfold Opw.val
 unfold Instr.checkKey
 simp [Sem.run_bind,run_underlying Tryz.underlying80,go_sem,c,d]
theorem checkKey_op (o:Opw) (b:Bool) (w:World):(Instr.checkKey b 10000 80 o.val).run Tryz.prog w=.ok () w:=ck_op b 9997 o w
theorem look_op (mv:Opw) (hm:mv.ok) (T:List Opw) (h:∀t∈T,t.ok) (r c:Nat) (w:World) (hb:w.heap[r]?=some (.map (entO T) c)) :
   (Instr.lookup 78 (.map (some r)) mv.val true).run Tryz.prog w=.ok (.tuple #[.int .i64 ((((T.findIdx? (eqO mv)).getD 0:Nat)):Int),.bool (T.findIdx? (eqO mv)).isSome]) w:=by
 have e1:=findKey_ops mv hm T h w
 have e2:=checkKey_op mv (entO T).isEmpty w
 have e3:=run_getObj_map (P:=Tryz.prog) w r _ _ hb
 unfold Instr.lookup
 simp only [Sem.run_bind,run_underlying Tryz.underlying78,Result.andThen_ok,e3,e2,e1,Sem.run_pure]
 cases T.findIdx? (eqO mv) with
 | none=>simp [go_sem]
 | some j=>simp
def putM (w:World) (r:Nat) (o:Obj):World:={ w with heap:=w.heap.setIfInBounds r o }
theorem put_op (mv:Opw) (hm:mv.ok) (T:List Opw) (h:∀t∈T,t.ok) (hn:T.findIdx? (eqO mv)=none) (r:Nat) (w:World) (hb:w.heap[r]?=some (.map (entO T) T.length)) :
   (Instr.mapUpdate 78 (.map (some r)) mv.val (.int .i64 (T.length:Int))).run Tryz.prog w=.ok () (putM w r (.map (entO (T++[mv])) (T.length+1))):=by
 have e1:=findKey_ops mv hm T h w
 have e2:=checkKey_op mv false w
 have e3:=run_getObj_map (P:=Tryz.prog) w r _ _ hb
 have e4:=Go.MapKept.run_setObj_map (P:=Tryz.prog) (.map (entO (T++[mv])) (T.length+1)) hb
 rw [hn] at e1
 rw [entO_push] at e4 ⊢
 unfold Instr.mapUpdate
 simp only [Sem.run_bind,run_underlying Tryz.underlying78,Result.andThen_ok,e3,e2,e1,Option.map_none,e4]
 rfl
def Cel (w:World) (g n:Nat) (f:Nat→Value):Prop:=g<w.heap.size∧∀i,i<n→w.cell? ⟨g,i,none⟩=some (f i)∧w.frozen? ⟨g,i,none⟩=false
theorem Cel.keepB {B:Nat} {w w2:World} {g n:Nat} {f:Nat→Value} (h:Cel w g n f) (hb:Below B w w2) (hg:g<B) (hs:w.heap.size≤w2.heap.size):Cel w2 g n f :=
 ⟨Nat.lt_of_lt_of_le h.1 hs,fun i hi=>⟨(hb.cell hg).trans (h.2 i hi).1,(hb.frozen hg).trans (h.2 i hi).2⟩⟩
theorem Cel.keep {w w2:World} {g n:Nat} {f:Nat→Value} (h:Cel w g n f) (hb:Below w.heap.size w w2):Cel w2 g n f :=
 ⟨Nat.lt_of_lt_of_le h.1 hb.size,fun i hi=>⟨keepsC hb (h.2 i hi).1 h.1,keepsF hb (h.2 i hi).2 h.1⟩⟩
theorem Cel.congr {w:World} {g n:Nat} {f k:Nat→Value} (h:Cel w g n f) (e:∀i,i<n→f i=k i):Cel w g n k:=⟨h.1,fun i hi=>by rw [←e i hi];exact h.2 i hi⟩
theorem Cel.set {w:World} {g n:Nat} {f:Nat→Value} (h:Cel w g n f) (r:Nat) (v:Value) (hr:r<n):Cel (w.setCell ⟨g,r,none⟩ v) g n (fun i=>if i=r then v else f i):=by
 refine⟨by simp only [World.size_setCell];exact h.1,fun i hi=>?_⟩
 obtain⟨a,b⟩:=h.2 i hi
 obtain⟨a',b'⟩:=h.2 r hr
 by_cases e:i=r
 · subst e
   simp only [if_true]
   exact⟨by go_simp,by go_simp⟩
 · simp only [e,if_false]
   have m:r≠i:=fun c=>e c.symm
   exact⟨by go_simp,by go_simp⟩
theorem Cel.far {w:World} {g n c k:Nat} {f:Nat→Value} (h:Cel w g n f) (hne:c≠g) (v:Value):Cel (w.setCell ⟨c,k,none⟩ v) g n f:=by
 refine⟨by simp only [World.size_setCell];exact h.1,fun i hi=>?_⟩
 obtain⟨a,b⟩:=h.2 i hi
 have hne':g≠c:=fun e=>hne e.symm
 exact⟨by simp [World.cell?_setCell_far, *],by go_simp⟩
theorem Tryz.infoInt:(Tryz.prog.info? 3).map (fun i=>(i.zero,i.size,i.bytes))=some (some (.int .i64 0),1,8):=by kernel_rfl
theorem Tryz.infoBool:(Tryz.prog.info? 4).map (fun i=>(i.zero,i.size,i.bytes))=some (some (.bool false),1,1):=by kernel_rfl
theorem Tryz.infoOp:(Tryz.prog.info? 80).map (fun i=>(i.zero,i.size,i.bytes))=some (some (.agg #[.int .i64 0,.int .i64 0,.int .i64 0,.int .i64 0,.float .f64 0,.float .f64 0]),6,48):=by kernel_rfl
theorem made_one (v:Value) (hv:v.cells=#[v]) (n:Nat):(madeCells v.cells (n*1)).toList=List.replicate (n*1) v:=by
 refine List.eq_replicate_iff.2 ⟨by simp [madeCells],fun b hb=>?_⟩
 rw [hv] at hb
 simp [madeCells] at hb
 obtain⟨x, -,hx⟩:=hb
 rw [←hx]
 have:x%1=0:=by omega
 simp [this]
theorem wpList_makeN {w:World} {ops:Array Oper} {rest:List Oper} {o:Oper} {a:Act} {Q:Exit→Act→World→Prop} (hgd:o.guard=none) (l c:Operand)
   (ho:o.op=.makeSlice 43 l c) (n:Nat) (hl:a.eval l=.int .i64 (n:Int)) (hc:a.eval c=.int .i64 (n:Int)) (hn:n≤3000000)
   (h:∀w',Cel w' w.heap.size n (fun _=>.int .i64 0)→Below w.heap.size w w'→w.heap.size<w'.heap.size→wpList Tryz.prog ops Q rest (a.put o.dst (.slice (some ⟨w.heap.size,0,none⟩) n n)) w'):wpList Tryz.prog ops Q (o :: rest) a w:=by
 obtain⟨i0,hi,hz0,hz1,hz2⟩:=info_parts Tryz.infoInt
 refine wpList_make_full w hgd l c 43 ho w.heap.size 3 i0 (.int .i64 0) 1 Tryz.underlying43 hi hz0 hz1 .i64 .i64 _ _ n hl hc rfl rfl (by rw [hz2];omega) (by unfold maxLen;omega) (Nat.le_refl _) ?_
 intro w' h1 h2
 have hlt:=(World.ownsRow.lt h1 _ rfl).2
 refine h w' ⟨hlt,fun i hi=>⟨?_,World.ownsRow.frozenAt h1 _⟩⟩ ⟨h2.os,h2.tape,h2.output,h2.size,fun k hk=>h2.block k hk (by simp)⟩ hlt
 rw [World.ownsRow.cellAt h1 i (by omega),made_one _ rfl]
 simp [hi]
theorem wpList_makeB {w:World} {ops:Array Oper} {rest:List Oper} {o:Oper} {a:Act} {Q:Exit→Act→World→Prop} (hgd:o.guard=none) (l c:Operand)
   (ho:o.op=.makeSlice 76 l c) (n:Nat) (hl:a.eval l=.int .i64 (n:Int)) (hc:a.eval c=.int .i64 (n:Int)) (hn:n≤3000000)
   (h:∀w',Cel w' w.heap.size n (fun _=>.bool false)→Below w.heap.size w w'→w.heap.size<w'.heap.size→wpList Tryz.prog ops Q rest (a.put o.dst (.slice (some ⟨w.heap.size,0,none⟩) n n)) w'):wpList Tryz.prog ops Q (o :: rest) a w:=by
 obtain⟨i0,hi,hz0,hz1,hz2⟩:=info_parts Tryz.infoBool
 refine wpList_make_full w hgd l c 76 ho w.heap.size 4 i0 (.bool false) 1 Tryz.underlying76 hi hz0 hz1 .i64 .i64 _ _ n hl hc rfl rfl (by rw [hz2];omega) (by unfold maxLen;omega) (Nat.le_refl _) ?_
 intro w' h1 h2
 have hlt:=(World.ownsRow.lt h1 _ rfl).2
 refine h w' ⟨hlt,fun i hi=>⟨?_,World.ownsRow.frozenAt h1 _⟩⟩ ⟨h2.os,h2.tape,h2.output,h2.size,fun k hk=>h2.block k hk (by simp)⟩ hlt
 rw [World.ownsRow.cellAt h1 i (by omega),made_one _ rfl]
 simp [hi]
def OwnN (B:Nat) (w:World) (v:Value) (zs:List Int):Prop:=w.ownsRow B 3 1 v zs.length (zs.map fun z=>Value.int .i64 z)
theorem own_keep {B:Nat} {w w2:World} {e:TypeId} {sz:Nat} {v:Value} {n:Nat} {xs:List Value} (h:w.ownsRow B e sz v n xs) (hb:Below w.heap.size w w2):w2.ownsRow B e sz v n xs:=by
 refine⟨h.1, ?_⟩
 rcases h.2 with hn | ⟨g,cap,cur,hv,hb2,hg,rest⟩
 · exact .inl hn
 · have hlt:g<w.heap.size:=(Array.getElem?_eq_some_iff.1 hg).1
   refine .inr ⟨g,cap,cur,hv,hb2, ?_,rest⟩
   rw [←hg]
   exact hb.block g hlt
def opCells (T:List Opw):List Value:=T.flatMap fun o=>[.int .i64 o.k,.int .i64 o.a,.int .i64 o.b,.int .i64 o.n,.float .f64 o.lo,.float .f64 o.hi]
def OwnO (B:Nat) (w:World) (v:Value) (T:List Opw):Prop:=w.ownsRow B 80 6 v T.length (opCells T)
theorem wpList_pushO {B:Nat} {w0 wr:World} {ops:Array Oper} {rest:List Oper} {o:Oper} {a:Act} {Q:Exit→Act→World→Prop} (hgd:o.guard=none) (s x:Operand)
   (ho:o.op=.call { callee:=.builtin .append,args:=#[s,x],argTypes:=#[42,42] }) (v:Value) (T:List Opw) (z:Opw) (hs:a.eval s=v) (hx:a.eval x=.slice (some ⟨wr.heap.size,0,none⟩) 1 1)
   (hown:OwnO B wr v T) (hl:T.length≤200000) (hB:B≤wr.heap.size) (hbel:Below B w0 wr)
   (h:∀v' w',OwnO B w' v' (T++[z])→Below B w0 w'→B≤w'.heap.size→Below B wr w'→wr.heap.size≤w'.heap.size→wpList Tryz.prog ops Q rest (a.put o.dst v') w'):wpList Tryz.prog ops Q (o :: rest) a (wr.alloc (.cells #[.int .i64 z.k,.int .i64 z.a,.int .i64 z.b,.int .i64 z.n,.float .f64 z.lo,.float .f64 z.hi] 80)):=by
 obtain⟨i0,hi,hz0,hz1,hz2⟩:=info_parts Tryz.infoOp
 have hal:Below wr.heap.size wr (wr.alloc (.cells #[.int .i64 z.k,.int .i64 z.a,.int .i64 z.b,.int .i64 z.n,.float .f64 z.lo,.float .f64 z.hi] 80)):=(Below.refl _ _).alloc (Nat.le_refl _) _
 have hown':(wr.alloc (.cells #[.int .i64 z.k,.int .i64 z.a,.int .i64 z.b,.int .i64 z.n,.float .f64 z.lo,.float .f64 z.hi] 80)).ownsRow B 80 6 v T.length (opCells T):=own_keep hown hal
 refine wpList_append_own _ hgd s x 42 ho B 80 i0 (.agg #[.int .i64 0,.int .i64 0,.int .i64 0,.int .i64 0,.float .f64 0,.float .f64 0]) 6 48 Tryz.underlying42 hi hz0 hz1 hz2 rfl (by decide) v T.length _ hs hown' ⟨wr.heap.size,0,none⟩ 1 1 [.int .i64 z.k,.int .i64 z.a,.int .i64 z.b,.int .i64 z.n,.float .f64 z.lo,.float .f64 z.hi] hx rfl ?_ ?_ (by unfold maxLen;omega) (by omega) (by simp;omega) ?_
 · intro j u hj
   match j,hj with
   | 0,hj=>simp at hj;subst hj;simp [Addr.add]
   | 1,hj=>simp at hj;subst hj;simp [Addr.add]
   | 2,hj=>simp at hj;subst hj;simp [Addr.add]
   | 3,hj=>simp at hj;subst hj;simp [Addr.add]
   | 4,hj=>simp at hj;subst hj;simp [Addr.add]
   | 5,hj=>simp at hj;subst hj;simp [Addr.add]
 · intro u hu
   simp at hu
   rcases hu with rfl | rfl | rfl | rfl | rfl | rfl <;> rfl
 · intro v' w' h1 h2 _
   have lt:∀k,v.ownBlock=some k→B≤k:=fun k hk=>(World.ownsRow.lt hown k hk).1
   have sz:=h2.size
   simp only [World.size_alloc] at sz
   refine h v' w' ?_ ((hbel.alloc hB _).grown h2 (by simp;omega) lt) (by omega) (((Below.refl B wr).alloc hB _).grown h2 (by simp;omega) lt) (by omega)
   unfold OwnO
   have e:opCells (T++[z])=opCells T++[.int .i64 z.k,.int .i64 z.a,.int .i64 z.b,.int .i64 z.n,.float .f64 z.lo,.float .f64 z.hi]:=by simp [opCells]
   rw [e,List.length_append]
   exact h1
def setN (s:Nat→Bool) (j:Nat):Nat→Bool:=fun i=>if i=j then true else s i
def outN (Y:Nat→Int):Nat→Nat→Bool
 | 0=>fun _=>false
 | k+1=>setN (outN Y k) (Y k).toNat
def opN (o:Opw) (s:Nat→Bool):Nat→Nat→Bool
 | 0=>s
 | j+1=>setN (opN o s j) (o.at j).toNat
def backN (X:Nat→Opw) (n:Nat) (s:Nat→Bool):Nat→Nat→Bool
 | 0=>s
 | d+1=>if backN X n s d (n-1-d) then opN (X (n-1-d)) (backN X n s d) (X (n-1-d)).ar else backN X n s d
def needF (X:Nat→Opw) (n:Nat) (Y:Nat→Int) (m:Nat):Nat→Bool:=backN X n (outN Y m) n
def movO (pl:Nat→Int) (o:Opw):Opw :=
 { k:=o.k,a:=if arI o.k=0 then 0 else pl o.a.toNat,b:=if arI o.k=2 then pl o.b.toNat else 0,n:=if o.k=2∨o.k=8 then o.n else 0,lo:=if o.k=1 then o.lo else 0,hi:=if o.k=1 then o.hi else 0 }
def updI (pl:Nat→Int) (i:Nat) (z:Int):Nat→Int:=fun j=>if j=i then z else pl j
def trimS (X:Nat→Opw) (need:Nat→Bool):Nat→List Opw×(Nat→Int)
 | 0=>([],fun _=>0)
 | i+1=>if need i then
     match (trimS X need i).1.findIdx? (eqO (movO (trimS X need i).2 (X i))) with
     | some j=>((trimS X need i).1,updI (trimS X need i).2 i (j:Int))
     | none=>((trimS X need i).1++[movO (trimS X need i).2 (X i)],updI (trimS X need i).2 i ((trimS X need i).1.length:Int))
   else trimS X need i
theorem opB_at {o:Opw} {i v:Int} (h:opB o i v=true) {j:Nat} (hj:j<o.ar):0≤o.at j∧o.at j<i:=by
 unfold opB at h
 simp only [Bool.and_eq_true] at h
 have:=all_upto2.1 h.1.2 j hj
 exact of_decide_eq_true this
theorem ar_cases3 (o:Opw):(arI o.k=0∧o.ar=0)∨(arI o.k=1∧o.ar=1)∨(arI o.k=2∧o.ar=2):=by
 have:=ar_le o.k
 unfold Opw.ar
 omega
set_option maxHeartbeats 1000000 in
theorem atOps_w (o:Opw) (g n:Nat) (pl:Nat→Int) (hj:∀j,j<o.ar→0≤o.at j∧o.at j<(n:Int)) (w:World) (L:Cel w g n (fun i=>.int .i64 (pl i))) :
   Calls Tryz.prog 129 #[o.val,.slice (some ⟨g,0,none⟩) n n] w fun e w'=>e=.returned (.tuple #[.int .i64 (if arI o.k=0 then 0 else pl o.a.toNat),.int .i64 (if arI o.k=2 then pl o.b.toNat else 0)])∧Below w.heap.size w w':=by
 have ha:=fun w=>arity_w o.k w
 rcases ar_cases3 o with ⟨h1,h2⟩ | ⟨h1,h2⟩ | ⟨h1,h2⟩
 · rw [h1] at ha ⊢
   clear hj h1 h2
   unfold Opw.val
   go_enter Tryz.func129,Tryz.ntmps129
   go_wp2_with (go_at_call 173;refine (ha _).mono ?_;rintro _ _ ⟨rfl,rfl⟩)
   go_returns
   exact⟨rfl,by go_grown⟩
 · rw [h1] at ha ⊢
   have q:=hj 0 (by omega)
   have q0:0≤o.a:=q.1
   have q1:o.a<(n:Int):=q.2
   have c:=(L.2 o.a.toNat (by omega)).1
   have lt:=L.1
   clear hj h1 h2 q
   unfold Opw.val
   go_enter Tryz.func129,Tryz.ntmps129
   go_wp2_with (go_at_call 173;refine (ha _).mono ?_;rintro _ _ ⟨rfl,rfl⟩)
   go_returns
   exact⟨rfl,by go_grown⟩
 · rw [h1] at ha ⊢
   have q:=hj 0 (by omega)
   have q0:0≤o.a:=q.1
   have q1:o.a<(n:Int):=q.2
   have p:=hj 1 (by omega)
   have p0:0≤o.b:=p.1
   have p1:o.b<(n:Int):=p.2
   have c:=(L.2 o.a.toNat (by omega)).1
   have d:=(L.2 o.b.toNat (by omega)).1
   have lt:=L.1
   clear hj h1 h2 q p
   unfold Opw.val
   go_enter Tryz.func129,Tryz.ntmps129
   go_wp2_with (go_at_call 173;refine (ha _).mono ?_;rintro _ _ ⟨rfl,rfl⟩)
   first
     | (go_quiet (fail)
        go_wp2_with fail
        go_returns
        exact⟨rfl,below_drewN (by go_grown) _⟩)
     | (go_region
        all_goals
          go_wp2_with fail
          go_returns
          exact⟨rfl,by go_grown⟩)
     | (go_region_held3 (fun w'=>w'.cell? ⟨g,o.a.toNat,none⟩=some (.int .i64 (pl o.a.toNat))) (first | go_keep | assumption) (fail)
        all_goals trace_state
        all_goals sorry)
end Go.Proofs.YtfdelmgingefkaaGreat
