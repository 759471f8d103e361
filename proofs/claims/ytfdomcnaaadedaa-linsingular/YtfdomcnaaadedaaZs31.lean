/- Rows of floats, divided and taken off one another by Go's own operators; the place of the greatest amount. Rows of noughts, in floats. -/
import Derived.Test.YtfdomcnaaadedaaZs30
import Derived.Test.YtfdomcnaaadedaaZs18
import Derived.BigRegion
import Derived.Test.YtfdomcnaaadedaaZs12
namespace Go.Proofs.Ytfdomcnaaadedaa
open Go.ChangeShapes Go.WideShapes Go.ChangeAt Go.RowKit
set_option maxHeartbeats 1000000 in
theorem divide_w (g m C d B:Nat) (hm:m≤3000000) (hB:B≤g) (w:World) (V:Flo w g m) :
   Calls Try.prog 39 #[.slice (some ⟨g,0,none⟩) m C,.float .f64 d] w fun e w'=>e=.returned (.tuple #[])∧Wrt B g w w':=by
 have oc:=opW_cell
 have of:=opW_frozen
 go_enter Try.func39,Try.ntmps39
 go_wp2_with fail
 go_loopg [7] m (fun G s7 wx=>Hid (Wrt B g w wx)∧∃j:Nat,j+G=m∧s7=.int .i64 (j:Int))
 case atStart=>exact⟨Wrt.refl _ _ _,0,by omega,rfl⟩
 case round =>
   obtain⟨HW,j,hj,rfl⟩:=hrel
   by_cases cj:j=m
   · subst cj
     go_wp2_with fail
     (try simp only [Exit.inBlock,Exit.then])
     refine bodyPost_end (results_none rfl _ _ _) rfl ?_
     exact⟨rfl,HW⟩
   · have hlt:(j:Int)<(m:Int):=by omega
     have hF:=HW.out.flo g m V
     have hg:=hF.lt
     obtain⟨x,x0,x1,lx⟩:=hF.at j (by omega)
     have hop:=fun (t:TypeId) (w:World)=>run_op .quo (by simp) t x d w
     clear hF
     go_wp2_with fail
     go_roundg (m-j-1)
     case measure=>omega
     case rel=>exact⟨(HW.out.op _ _ _).set hB _ _ (opV_lt _ _ _ _),j+1,by omega,by go_num⟩
set_option maxHeartbeats 1000000 in
theorem takeOff_w (g c m C D d B:Nat) (hm:m≤3000000) (hB:B≤g) (w:World) (V:Flo w g m) (U:Flo w c m) :
   Calls Try.prog 40 #[.slice (some ⟨g,0,none⟩) m C,.slice (some ⟨c,0,none⟩) m D,.float .f64 d] w fun e w'=>e=.returned (.tuple #[])∧Wrt B g w w':=by
 have oc:=opW_cell
 have of:=opW_frozen
 go_enter Try.func40,Try.ntmps40
 go_wp2_with fail
 go_loopg [9] m (fun G s9 wx=>Hid (Wrt B g w wx)∧∃j:Nat,j+G=m∧s9=.int .i64 (j:Int))
 case atStart=>exact⟨Wrt.refl _ _ _,0,by omega,rfl⟩
 case round =>
   obtain⟨HW,j,hj,rfl⟩:=hrel
   by_cases cj:j=m
   · subst cj
     go_wp2_with fail
     (try simp only [Exit.inBlock,Exit.then])
     refine bodyPost_end (results_none rfl _ _ _) rfl ?_
     exact⟨rfl,HW⟩
   · have hlt:(j:Int)<(m:Int):=by omega
     have hF:=HW.out.flo g m V
     have hE:=HW.out.flo c m U
     have hg:=hF.lt
     obtain⟨x,x0,x1,lx⟩:=hF.at j (by omega)
     obtain⟨y,y0, -,ly⟩:=hE.at j (by omega)
     have hm1:=fun (t:TypeId) (w:World)=>run_op .mul (by simp) t d y w
     have hs1:=fun (t:TypeId) (v:Nat) (w:World)=>run_op .sub (by simp) t x v w
     clear hF hE
     go_upto_region 3 with fail
     go_region
     go_wp2_with fail
     go_roundg (m-j-1)
     case measure=>omega
     case rel=>exact⟨((HW.out.drew.op _ _ _).op _ _ _).set hB _ _ (opV_lt _ _ _ _),j+1,by omega,by go_num⟩
set_option maxHeartbeats 1000000 in
theorem greatest_w (g o n m k C:Nat) (h:Nat→Nat) (hn:n≤3000000) (hn0:0<n) (hk:k≤m) (hm:m≤3000000) (w:World)
   (V:∀r,r<n→w.cell? ⟨g,o+r,none⟩=some (.slice (some ⟨h r,0,none⟩) m m)∧Flo w (h r) m) :
   Calls Try.prog 38 #[.slice (some ⟨g,o,none⟩) n C,.int .i64 (k:Int)] w fun e w'=>(∃(p:Nat) (q:Int),e=.returned (.tuple #[.int .i64 (p:Int),.int .i64 q])∧p<n∧-1≤q∧q<(k:Int))∧w=w':=by
 have HV:Hid (∀r,r<n→w.cell? ⟨g,o+r,none⟩=some (.slice (some ⟨h r,0,none⟩) m m)∧Flo w (h r) m):=V
 clear V
 go_enter Try.func38,Try.ntmps38
 go_wp2_with fail
 go_loopg [4,5,6,13] n (fun G s4 s5 s6 s13 wx=>wx=w∧∃(i p:Nat) (q:Int) (z:Nat),i+G=n∧s13=.int .i64 (i:Int)∧s4=.int .i64 (p:Int)∧s5=.int .i64 q∧s6=.float .f64 z∧z<18446744073709551616∧p<n∧-1≤q∧q<(k:Int))
 case atStart=>exact⟨rfl,0,0, -1,0,by omega,rfl,rfl,rfl,rfl,by omega,by omega,by omega,by omega⟩
 case round =>
   obtain⟨rfl,i,p,q,z,hi,rfl,rfl,rfl,rfl,hz,hp,hq,hq2⟩:=hrel
   by_cases ci:i=n
   · subst ci
     go_wp2_with fail
     (try simp only [Exit.inBlock,Exit.then])
     refine bodyPost_ret (results_tmp2 rfl _ _ _) rfl ?_
     exact⟨⟨p,q,rfl,hp,hq,hq2⟩,rfl⟩
   · have hlt:(i:Int)<(n:Int):=by omega
     obtain⟨x0,F⟩:=HV.out i (by omega)
     have HF:Hid (Flo wr (h i) m):=F
     clear F
     go_wp2_with fail
     go_loopg [4,5,6,19] k (fun G s4 s5 s6 s19 wx=>wx=wr∧∃(j p:Nat) (q:Int) (z:Nat),j+G=k∧s19=.int .i64 (j:Int)∧s4=.int .i64 (p:Int)∧s5=.int .i64 q∧s6=.float .f64 z∧z<18446744073709551616∧p<n∧-1≤q∧q<(k:Int))
     case atStart=>exact⟨rfl,0,p,q,z,by omega,rfl,rfl,rfl,rfl,hz,hp,hq,hq2⟩
     case round =>
       clear hz hp hq hq2
       obtain⟨rfl,j,p,q,z,hj,rfl,rfl,rfl,rfl,hz,hp,hq,hq2⟩:=hrel
       by_cases cj:j=k
       · subst cj
         go_wp2_with fail
         go_roundg (n-i-1)
         case measure=>omega
         case rel=>exact⟨rfl,i+1,p,q,z,by omega,by go_num,rfl,rfl,rfl,hz,hp,hq,hq2⟩
       · have hltj:(j:Int)<(k:Int):=by omega
         have hltm:(j:Int)<(m:Int):=by omega
         obtain⟨y,y0, -,ly⟩:=HF.out.at j (by omega)
         have ca:=fun w=>abs_w y ly w
         have hlo:=o_gt (a:=y%9223372036854775808) (b:=z) (by omega) hz
         cases hb:ltB z (y%9223372036854775808)
         · rw [hb] at hlo
           go_wp2_with (go_at_call 64;refine (ca _).mono ?_;rintro _ _ ⟨rfl,rfl⟩)
           go_roundg (k-j-1)
           case measure=>omega
           case rel=>exact⟨rfl,j+1,p,q,z,by omega,by go_num,rfl,rfl,rfl,hz,hp,hq,hq2⟩
         · rw [hb] at hlo
           go_wp2_with (go_at_call 64;refine (ca _).mono ?_;rintro _ _ ⟨rfl,rfl⟩)
           go_roundg (k-j-1)
           case measure=>omega
           case rel=>exact⟨rfl,j+1,i,(j:Int),y%9223372036854775808,by omega,by go_num,rfl,rfl,rfl,by omega,by omega,by omega,by omega⟩
theorem Flo.other {w:World} {g m:Nat} (h:Flo w g m) {c:Nat} (hne:g≠c) (k:Nat) (v:Value):Flo (w.setCell ⟨c,k,none⟩ v) g m:=h.block (Below.heap_setCell _ _ _ _ hne)
theorem Try.infoFlt:(Try.prog.info? 48).map (fun i=>(i.zero,i.size,i.bytes))=some (some (.float .f64 0),1,8):=by kernel_rfl
theorem Try.infoFrow:(Try.prog.info? 24).map (fun i=>(i.zero,i.size,i.bytes))=some (some (.slice none 0 0),1,24):=by kernel_rfl
theorem made_same {v:Value} (hv:v.cells=#[v]) (n:Nat):(madeCells v.cells (n*1)).toList=List.replicate (n*1) v:=by
 refine List.eq_replicate_iff.2 ⟨by simp [madeCells],fun b hb=>?_⟩
 rw [hv] at hb
 simp [madeCells] at hb
 obtain⟨x, -,hx⟩:=hb
 rw [←hx]
 have:x%1=0:=by omega
 simp [this]
theorem wpList_makeF {w:World} {ops:Array Oper} {rest:List Oper} {o:Oper} {a:Act} {Q:Exit→Act→World→Prop} (hgd:o.guard=none) (l c:Operand)
   (ho:o.op=.makeSlice 24 l c) (n:Nat) (hl:a.eval l=.int .i64 (n:Int)) (hc:a.eval c=.int .i64 (n:Int)) (hn:n≤3000000)
   (h:∀w',Flo w' w.heap.size n→Below w.heap.size w w'→w.heap.size<w'.heap.size→wpList Try.prog ops Q rest (a.put o.dst (.slice (some ⟨w.heap.size,0,none⟩) n n)) w'):wpList Try.prog ops Q (o :: rest) a w:=by
 obtain⟨i0,hi,hz0,hz1,hz2⟩:=info_parts Try.infoFlt
 refine wpList_make_full w hgd l c 24 ho w.heap.size 48 i0 (.float .f64 0) 1 Try.underlying24 hi hz0 hz1 .i64 .i64 _ _ n hl hc rfl rfl (by rw [hz2];omega) (by unfold maxLen;omega) (Nat.le_refl _) ?_
 intro w' h1 h2
 have hlt:=(World.ownsRow.lt h1 _ rfl).2
 refine h w' ?_ ⟨h2.os,h2.tape,h2.output,h2.size,fun k hk=>h2.block k hk (by simp)⟩ hlt
 have hcell:=fun i (hi:i<n)=>World.ownsRow.cellAt h1 i (by omega)
 rw [made_same rfl] at hcell
 rcases h1.2 with ⟨h',_⟩ | ⟨g',cap',cur,h',_,hg,_,_,hs,_⟩
 · simp at h'
 · simp only [Value.slice.injEq,Option.some.injEq,Addr.mk.injEq,and_true,true_and] at h'
   obtain⟨rfl,rfl⟩:=h'
   refine⟨cur,_,hg,by omega,fun i hi=>⟨0, ?_,by omega⟩⟩
   have q:=hcell i hi
   simp only [World.cell?,hg] at q
   simpa [hi] using q
theorem wpList_makeRF {w:World} {ops:Array Oper} {rest:List Oper} {o:Oper} {a:Act} {Q:Exit→Act→World→Prop} (hgd:o.guard=none) (l c:Operand)
   (ho:o.op=.makeSlice 22 l c) (n:Nat) (hl:a.eval l=.int .i64 (n:Int)) (hc:a.eval c=.int .i64 (n:Int)) (hn:n≤3000000)
   (h:∀w',Out w' w.heap.size n (fun _=>.slice none 0 0)→Below w.heap.size w w'→w.heap.size<w'.heap.size→wpList Try.prog ops Q rest (a.put o.dst (.slice (some ⟨w.heap.size,0,none⟩) n n)) w'):wpList Try.prog ops Q (o :: rest) a w:=by
 obtain⟨i0,hi,hz0,hz1,hz2⟩:=info_parts Try.infoFrow
 refine wpList_make_full w hgd l c 22 ho w.heap.size 24 i0 (.slice none 0 0) 1 Try.underlying22 hi hz0 hz1 .i64 .i64 _ _ n hl hc rfl rfl (by rw [hz2];omega) (by unfold maxLen;omega) (Nat.le_refl _) ?_
 intro w' h1 h2
 have hlt:=(World.ownsRow.lt h1 _ rfl).2
 refine h w' ⟨hlt,fun i hi=>⟨?_,World.ownsRow.frozenAt h1 _⟩⟩ ⟨h2.os,h2.tape,h2.output,h2.size,fun k hk=>h2.block k hk (by simp)⟩ hlt
 rw [World.ownsRow.cellAt h1 i (by omega),made_same rfl]
 simp [hi]
structure Tab (B:Nat) (w:World) (g n m:Nat) (h:Nat→Nat):Prop where
 out:Out w g n (fun r=>.slice (some ⟨h r,0,none⟩) m m)
 row:∀r,r<n→Flo w (h r) m
 ne:∀r,r<n→h r≠g
 ge:∀r,r<n→B≤h r
theorem Tab.keep {B:Nat} {w w2:World} {g n m:Nat} {h:Nat→Nat} (T:Tab B w g n m h) (hb:Below w.heap.size w w2):Tab B w2 g n m h:=⟨T.out.keep hb,fun r hr=>(T.row r hr).keep hb,T.ne,T.ge⟩
theorem Tab.wrt {B b c:Nat} {w w2:World} {g n m:Nat} {h:Nat→Nat} (T:Tab B w g n m h) (hW:Wrt b c w w2) (hc:g≠c):Tab B w2 g n m h:=⟨T.out.block (hW.rest g hc T.out.1) hW.below.size,fun r hr=>hW.flo _ _ (T.row r hr),T.ne,T.ge⟩
set_option maxHeartbeats 2000000 in
theorem gridF_w (n m:Nat) (hn:n≤24) (hm:m≤48) (w:World) :
   Calls Try.prog 41 #[.int .i64 (n:Int),.int .i64 (m:Int)] w fun e w'=>∃g h,e=.returned (.slice (some ⟨g,0,none⟩) n n)∧Tab w.heap.size w' g n m h∧w.heap.size≤g∧Below w.heap.size w w':=by
 go_enter Try.func41,Try.ntmps41
 go_wp2_with (at_make;refine wpList_makeRF (by rfl) _ _ (by rfl) n (by rfl) (by rfl) (by omega) ?_;intro w3 hO HB hS3)
 go_loopg [11] n (fun G s11 wx=>Below w.heap.size w wx∧∃(r:Nat) (h:Nat→Nat),r+G=n∧s11=.int .i64 (r:Int)∧Out wx w.heap.size n (fun i=>if i<r then .slice (some ⟨h i,0,none⟩) m m else .slice none 0 0) ∧
   Hid (∀i,i<r→Flo wx (h i) m∧w.heap.size<h i))
 case atStart=>exact⟨HB,0,fun _=>0,by omega,rfl,hO.congr fun i _=>by simp,fun i hi=>absurd hi (by omega)⟩
 case round =>
   clear HB hO
   obtain⟨HB,r,h,hr,rfl,hO,hI⟩:=hrel
   by_cases cr:r=n
   · subst cr
     go_wp2_with fail
     go_ret
     exact⟨_,h,rfl,⟨hO.congr fun i hi=>by simp [hi],fun i hi=>(hI i hi).1,fun i hi=>by have:=(hI i hi).2;omega,fun i hi=>by have:=(hI i hi).2;omega⟩,Nat.le_refl _,HB⟩
   · have hlt:(r:Int)<(n:Int):=by omega
     have hg:w.heap.size<wr.heap.size:=hO.1
     go_wp2_with (at_make;refine wpList_makeF (by rfl) _ _ (by rfl) m (by rfl) (by rfl) (by omega) ?_;intro w4 hI4 hb4 hS4;replace HB:=later HB hb4;replace hO:=hO.keep hb4;obtain⟨o0,o1⟩:=id (hO.2 r (by omega)))
     go_roundg (n-r-1)
     case measure=>omega
     case rel =>
       have ne:wr.heap.size≠w.heap.size:=by omega
       refine⟨?_,r+1,fun i=>if i=r then wr.heap.size else h i,by omega,by go_num,(hO.set r _ (by omega)).congr fun i hi=>?_,fun i hi=>?_⟩
       · repeat' (first | (with_reducible exact HB) | (with_reducible refine Below.setCell ?_ ?_ _) | go_size | omega)
       · by_cases e:i=r
         · subst e
           simp
         · simp only [e,if_false]
           by_cases q:i<r
           · simp [q,show i<r+1 by omega]
           · simp [q,show ¬i<r+1 by omega]
       · by_cases e:i=r
         · simp only [e,if_true]
           exact⟨hI4.other ne _ _,hg⟩
         · simp only [e,if_false]
           have q:=hI i (by omega)
           exact⟨(q.1.keep hb4).other (by have:=q.2;omega) _ _,q.2⟩
end Go.Proofs.Ytfdomcnaaadedaa
