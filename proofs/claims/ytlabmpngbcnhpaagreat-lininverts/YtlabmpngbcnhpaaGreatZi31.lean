/- Rows of noughts, in floats. copy of floats into a row of the call's own; a matrix beside the unit one. -/
import Derived.Test.YtlabmpngbcnhpaaGreatZi30
namespace Go.Proofs.YtlabmpngbcnhpaaGreat
open Go.ChangeShapes Go.WideShapes Go.ChangeAt Go.RowKit
theorem Flo.other {w:World} {g m:Nat} (h:Flo w g m) {c:Nat} (hne:g≠c) (k:Nat) (v:Value):Flo (w.setCell ⟨c,k,none⟩ v) g m:=h.block (Below.heap_setCell _ _ _ _ hne)
theorem Tryz.infoFlt:(Tryz.prog.info? 33).map (fun i=>(i.zero,i.size,i.bytes))=some (some (.float .f64 0),1,8):=by kernel_rfl
theorem Tryz.infoFrow:(Tryz.prog.info? 49).map (fun i=>(i.zero,i.size,i.bytes))=some (some (.slice none 0 0),1,24):=by kernel_rfl
theorem made_same {v:Value} (hv:v.cells=#[v]) (n:Nat):(madeCells v.cells (n*1)).toList=List.replicate (n*1) v:=by
 refine List.eq_replicate_iff.2 ⟨by simp [madeCells],fun b hb=>?_⟩
 rw [hv] at hb
 simp [madeCells] at hb
 obtain⟨x, -,hx⟩:=hb
 rw [←hx]
 have:x%1=0:=by omega
 simp [this]
theorem wpList_makeF {w:World} {ops:Array Oper} {rest:List Oper} {o:Oper} {a:Act} {Q:Exit→Act→World→Prop} (hgd:o.guard=none) (l c:Operand)
   (ho:o.op=.makeSlice 49 l c) (n:Nat) (hl:a.eval l=.int .i64 (n:Int)) (hc:a.eval c=.int .i64 (n:Int)) (hn:n≤3000000)
   (h:∀w',Flo w' w.heap.size n→Below w.heap.size w w'→w.heap.size<w'.heap.size→wpList Tryz.prog ops Q rest (a.put o.dst (.slice (some ⟨w.heap.size,0,none⟩) n n)) w'):wpList Tryz.prog ops Q (o :: rest) a w:=by
 obtain⟨i0,hi,hz0,hz1,hz2⟩:=info_parts Tryz.infoFlt
 refine wpList_make_full w hgd l c 49 ho w.heap.size 33 i0 (.float .f64 0) 1 Tryz.underlying49 hi hz0 hz1 .i64 .i64 _ _ n hl hc rfl rfl (by rw [hz2];omega) (by unfold maxLen;omega) (Nat.le_refl _) ?_
 intro w' h1 h2
 have hlt:=(World.ownsRow.lt h1 _ rfl).2
 refine h w' ?_ ⟨h2.os,h2.tape,h2.output,h2.size,fun k hk=>h2.block k hk (by simp)⟩ hlt
 have hcell:=fun i (hi:i<n)=>World.ownsRow.cellAt h1 i (by omega)
 rw [made_same rfl] at hcell
 rcases h1.2 with ⟨h',_⟩ | ⟨g',cap',cur,h',_,hg,_,_,hs,_⟩
 · simp at h'
 · simp only [Value.slice.injEq,Option.some.injEq,Addr.mk.injEq,and_true,true_and] at h'
   obtain⟨rfl,rfl⟩:=h'
   refine⟨cur,_,hg,by omega,fun i hi=>⟨0, ?_,by omega⟩⟩
   have q:=hcell i hi
   simp only [World.cell?,hg] at q
   simpa [hi] using q
theorem wpList_makeRF {w:World} {ops:Array Oper} {rest:List Oper} {o:Oper} {a:Act} {Q:Exit→Act→World→Prop} (hgd:o.guard=none) (l c:Operand)
   (ho:o.op=.makeSlice 22 l c) (n:Nat) (hl:a.eval l=.int .i64 (n:Int)) (hc:a.eval c=.int .i64 (n:Int)) (hn:n≤3000000)
   (h:∀w',Out w' w.heap.size n (fun _=>.slice none 0 0)→Below w.heap.size w w'→w.heap.size<w'.heap.size→wpList Tryz.prog ops Q rest (a.put o.dst (.slice (some ⟨w.heap.size,0,none⟩) n n)) w'):wpList Tryz.prog ops Q (o :: rest) a w:=by
 obtain⟨i0,hi,hz0,hz1,hz2⟩:=info_parts Tryz.infoFrow
 refine wpList_make_full w hgd l c 22 ho w.heap.size 49 i0 (.slice none 0 0) 1 Tryz.underlying22 hi hz0 hz1 .i64 .i64 _ _ n hl hc rfl rfl (by rw [hz2];omega) (by unfold maxLen;omega) (Nat.le_refl _) ?_
 intro w' h1 h2
 have hlt:=(World.ownsRow.lt h1 _ rfl).2
 refine h w' ⟨hlt,fun i hi=>⟨?_,World.ownsRow.frozenAt h1 _⟩⟩ ⟨h2.os,h2.tape,h2.output,h2.size,fun k hk=>h2.block k hk (by simp)⟩ hlt
 rw [World.ownsRow.cellAt h1 i (by omega),made_same rfl]
 simp [hi]
structure Tab (B:Nat) (w:World) (g n m:Nat) (h:Nat→Nat):Prop where
 out:Out w g n (fun r=>.slice (some ⟨h r,0,none⟩) m m)
 row:∀r,r<n→Flo w (h r) m
 ne:∀r,r<n→h r≠g
 ge:∀r,r<n→B≤h r
theorem Tab.keep {B:Nat} {w w2:World} {g n m:Nat} {h:Nat→Nat} (T:Tab B w g n m h) (hb:Below w.heap.size w w2):Tab B w2 g n m h:=⟨T.out.keep hb,fun r hr=>(T.row r hr).keep hb,T.ne,T.ge⟩
theorem Tab.wrt {B b c:Nat} {w w2:World} {g n m:Nat} {h:Nat→Nat} (T:Tab B w g n m h) (hW:Wrt b c w w2) (hc:g≠c):Tab B w2 g n m h:=⟨T.out.block (hW.rest g hc T.out.1) hW.below.size,fun r hr=>hW.flo _ _ (T.row r hr),T.ne,T.ge⟩
set_option maxHeartbeats 2000000 in
theorem gridF_w (n m:Nat) (hn:n≤24) (hm:m≤48) (w:World) :
   Calls Tryz.prog 47 #[.int .i64 (n:Int),.int .i64 (m:Int)] w fun e w'=>∃g h,e=.returned (.slice (some ⟨g,0,none⟩) n n)∧Tab w.heap.size w' g n m h∧w.heap.size≤g∧Below w.heap.size w w':=by
 go_enter Tryz.func47,Tryz.ntmps47
 go_wp2_with (at_make;refine wpList_makeRF (by rfl) _ _ (by rfl) n (by rfl) (by rfl) (by omega) ?_;intro w3 hO HB hS3)
 go_loopg [11] n (fun G s11 wx=>Below w.heap.size w wx∧∃(r:Nat) (h:Nat→Nat),r+G=n∧s11=.int .i64 (r:Int)∧Out wx w.heap.size n (fun i=>if i<r then .slice (some ⟨h i,0,none⟩) m m else .slice none 0 0) ∧
   Hid (∀i,i<r→Flo wx (h i) m∧w.heap.size<h i))
 case atStart=>exact⟨HB,0,fun _=>0,by omega,rfl,hO.congr fun i _=>by simp,fun i hi=>absurd hi (by omega)⟩
 case round =>
   clear HB hO
   obtain⟨HB,r,h,hr,rfl,hO,hI⟩:=hrel
   by_cases cr:r=n
   · subst cr
     go_wp2_with fail
     go_ret
     exact⟨_,h,rfl,⟨hO.congr fun i hi=>by simp [hi],fun i hi=>(hI i hi).1,fun i hi=>by have:=(hI i hi).2;omega,fun i hi=>by have:=(hI i hi).2;omega⟩,Nat.le_refl _,HB⟩
   · have hlt:(r:Int)<(n:Int):=by omega
     have hg:w.heap.size<wr.heap.size:=hO.1
     go_wp2_with (at_make;refine wpList_makeF (by rfl) _ _ (by rfl) m (by rfl) (by rfl) (by omega) ?_;intro w4 hI4 hb4 hS4;replace HB:=later HB hb4;replace hO:=hO.keep hb4;obtain⟨o0,o1⟩:=id (hO.2 r (by omega)))
     go_roundg (n-r-1)
     case measure=>omega
     case rel =>
       have ne:wr.heap.size≠w.heap.size:=by omega
       refine⟨?_,r+1,fun i=>if i=r then wr.heap.size else h i,by omega,by go_num,(hO.set r _ (by omega)).congr fun i hi=>?_,fun i hi=>?_⟩
       · repeat' (first | (with_reducible exact HB) | (with_reducible refine Below.setCell ?_ ?_ _) | go_size | omega)
       · by_cases e:i=r
         · subst e
           simp
         · simp only [e,if_false]
           by_cases q:i<r
           · simp [q,show i<r+1 by omega]
           · simp [q,show ¬i<r+1 by omega]
       · by_cases e:i=r
         · simp only [e,if_true]
           exact⟨hI4.other ne _ _,hg⟩
         · simp only [e,if_false]
           have q:=hI i (by omega)
           exact⟨(q.1.keep hb4).other (by have:=q.2;omega) _ _,q.2⟩
theorem Flo.sized {w:World} {g m k:Nat} (h:Flo w g m) (h2:Flo w g k):m=k:=by
 obtain⟨cs,t,hg,hm, -⟩:=h
 obtain⟨ds,t2,hg2,hk, -⟩:=h2
 rw [hg] at hg2
 simp only [Option.some.injEq,Obj.cells.injEq] at hg2
 rw [←hm,←hk,hg2.1]
theorem wpList_copyF {w:World} {ops:Array Oper} {rest:List Oper} {o:Oper} {a:Act} {Q:Exit→Act→World→Prop} (hgd:o.guard=none) (d s:Operand)
   (ho:o.op=.call { callee:=.builtin .copy,args:=#[d,s],argTypes:=#[49,49] }) (g m C c k D:Nat) (hd:a.eval d=.slice (some ⟨g,0,none⟩) m C) (hs:a.eval s=.slice (some ⟨c,0,none⟩) k D)
   (hk:k≤m) (V:Flo w g m) (U:Flo w c k) (B:Nat) (hB:B≤g) (h:∀w',Wrt B g w w'→wpList Tryz.prog ops Q rest (a.put o.dst (goInt k)) w'):wpList Tryz.prog ops Q (o :: rest) a w:=by
 obtain⟨cur,t,hg,hm,hx⟩:=id V
 obtain⟨src,t2,hc,hk2,hy⟩:=U
 refine wpList_copy_own hgd d s 49 49 ho 33 Tryz.underlying49 (by kernel_rfl) g 0 m C ⟨c,0,none⟩ k D hd hs cur t hg src.toList (by simp [hk2];exact (Nat.min_eq_left hk).symm) (fun j v hv=>?_) (by simp;omega) (fun v hv=>?_) ?_
 · have e:(⟨c,0,none⟩:Addr).add j=⟨c,j,none⟩:=by
     unfold Addr.add
     split
     · rename_i z;subst z;rfl
     · simp
   rw [e]
   simp only [World.cell?,hc]
   simpa using hv
 · obtain⟨i,hi,rfl⟩:=List.getElem_of_mem hv
   obtain⟨x,ex, -⟩:=hy i (by simpa [hk2] using hi)
   have:src.toList[i]=.float .f64 x:=by
     have:=(Array.getElem?_eq_some_iff.1 ex).2
     simpa using this
   rw [this];rfl
 · have el:src.toList.length=k:=by simp [hk2]
   rw [el]
   refine h _ ⟨below_setRow (Below.refl _ _) hB _,fun x n F=>?_,fun x n _=>setRow_other _ _ _ _ n⟩
   by_cases e:x=g
   · subst e
     obtain rfl:=F.sized V
     refine⟨_,t,setRow_heap _ _ _ _ _ _ hg,by simp;omega,fun i hi=>?_⟩
     by_cases q:i<k
     · obtain⟨z,ez,hz⟩:=hy i q
       refine⟨z, ?_,hz⟩
       simp only [List.take_zero,List.nil_append,List.getElem?_toArray]
       rw [List.getElem?_append_left (by omega)]
       simpa using ez
     · obtain⟨z,ez,hz⟩:=hx i hi
       refine⟨z, ?_,hz⟩
       simp only [List.take_zero,List.nil_append,List.getElem?_toArray]
       rw [List.getElem?_append_right (by omega),List.getElem?_drop,el,Nat.zero_add,show k+(i-k)=i by omega]
       simpa using ez
   · exact F.block (setRow_other _ _ _ _ e)
set_option maxHeartbeats 2000000 in
theorem beside_w (gb n b:Nat) (hb:Nat→Nat) (hn:n≤24) (w:World) (T:Tab b w gb n n hb) :
   Calls Tryz.prog 43 #[.slice (some ⟨gb,0,none⟩) n n] w fun e w'=>∃g h,e=.returned (.slice (some ⟨g,0,none⟩) n n)∧Tab w.heap.size w' g n (n+n) h∧w.heap.size≤g∧Below w.heap.size w w':=by
 have cg:∀w,Calls Tryz.prog 47 #[.int .i64 (n:Int),.int .i64 ((n:Int)+(n:Int))] w fun e w'=>∃g h,e=.returned (.slice (some ⟨g,0,none⟩) n n)∧Tab w.heap.size w' g n (n+n) h∧w.heap.size≤g∧Below w.heap.size w w':=fun w=>by
   have q:=gridF_w n (n+n) hn (by omega) w
   rwa [show ((n+n:Nat):Int)=(n:Int)+(n:Int) by omega] at q
 have HT:Hid (Tab b w gb n n hb):=T
 clear T
 go_enter Tryz.func43,Tryz.ntmps43
 go_wp2_with (go_at_call 47;refine (cg _).mono ?_;rintro _ w1 ⟨g,h,rfl,G0,hg,HB⟩)
 have HG:Hid (Tab w.heap.size w1 g n (n+n) h):=G0
 clear G0 cg
 go_loopg [14] n (fun G s14 wx=>Below w.heap.size w wx∧∃i:Nat,i+G=n∧s14=.int .i64 (i:Int)∧Hid (Tab w.heap.size wx g n (n+n) h))
 case atStart=>exact⟨HB,0,by omega,rfl,HG⟩
 case round =>
   clear HB HG
   obtain⟨HB,i,hi,rfl,HG⟩:=hrel
   by_cases ci:i=n
   · subst ci
     go_wp2_with fail
     go_ret
     exact⟨g,h,rfl,HG,hg,HB⟩
   · have hlt:(i:Int)<(n:Int):=by omega
     obtain⟨o0, -⟩:=HG.out.out.2 i (by omega)
     have lg:=HG.out.out.1
     obtain⟨b0, -⟩:=(HT.out.keep HB).out.2 i (by omega)
     have lb:=(HT.out.keep HB).out.1
     have ko:=fun m:Behind wr=>m.cell o0 lg
     have kb:=fun m:Behind wr=>m.cell b0 lb
     go_upto_region 6 with fail
     refine tail_behind 8 (by kernel_rfl) (by kernel_rfl) ?_
     simp only [List.take_succ_cons,List.take_zero,List.drop_succ_cons,List.drop_zero]
     repeat (go_big_quiet_step (fail))
     refine wpQuiet_nil ?_
     rintro _ ⟨m',rfl⟩
     obtain⟨W,hb1⟩:=m'
     dsimp only
     clear ko kb
     replace HG:Hid (Tab w.heap.size W g n (n+n) h):=HG.out.keep hb1
     have HB2:=later HB hb1
     have HT2:Hid (Tab b W gb n n hb):=HT.out.keep HB2
     refine wpList_copyF (by rfl) _ _ (by rfl) (h i) (n+n) (n+n) (hb i) n n (by rfl) (by rfl) (by omega) (HG.out.row i (by omega)) (HT2.out.row i (by omega)) w.heap.size (HG.out.ge i (by omega)) ?_
     intro w2 hW
     have HB3:=HB2.trans hW.below
     replace HG:Hid (Tab w.heap.size w2 g n (n+n) h):=HG.out.wrt hW (fun e=>HG.out.ne i (by omega) e.symm)
     clear HT2 hW HB2 HB hb1 o0 b0 lg lb
     obtain⟨o0, -⟩:=HG.out.out.2 i (by omega)
     obtain⟨x,x0,x1,lx⟩:=(HG.out.row i (by omega)).at (n+i) (by omega)
     have hlt2:(n:Int)+(i:Int)<(n:Int)+(n:Int):=by omega
     have hlt3:(0:Int)≤(n:Int)+(i:Int):=by omega
     have ht:((n:Int)+(i:Int)).toNat=n+i:=by omega
     go_wp2_with fail
     go_roundg (n-i-1)
     case measure=>omega
     case rel=>exact⟨HB3.setCell (HG.out.ge i (by omega)) _,i+1,by omega,by go_num,HG.out.wrt ((Wrt.refl w.heap.size (h i) _).set (HG.out.ge i (by omega)) _ _ (by omega)) (fun e=>HG.out.ne i (by omega) e.symm)⟩
end Go.Proofs.YtlabmpngbcnhpaaGreat
