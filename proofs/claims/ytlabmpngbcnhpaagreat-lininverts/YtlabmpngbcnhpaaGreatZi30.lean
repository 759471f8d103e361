/- Rows of floats that may be written, whatever they hold; Go's own operators always answer a float. Rows of floats, divided and taken off one another by Go's own operators; the place of the greatest amount. -/
import Derived.Test.YtlabmpngbcnhpaaGreatZi10
import Derived.Test.YtlabmpngbcnhpaaGreatZi23
import Derived.Laws.CopyOwn
import Derived.Test.YtlabmpngbcnhpaaGreatZi17
import Derived.BigRegion
import Derived.Test.YtlabmpngbcnhpaaGreatZi12
namespace Go.Proofs.YtlabmpngbcnhpaaGreat
open Go.ChangeShapes Go.WideShapes Go.ChangeAt Go.RowKit
theorem bits_lt {op:BinOp} {a b r:Nat} (h:floatBits op .f64 a b=some r):r<18446744073709551616:=by
 have q:=floatBits_wf h
 unfold Lit.wf at q
 simpa using q
def Flo (w:World) (g m:Nat):Prop:=∃(cs:Array Value) (t:TypeId),w.heap[g]?=some (.cells cs t (0,0))∧cs.size=m∧∀i,i<m→∃x,cs[i]?=some (.float .f64 x)∧x<18446744073709551616
theorem Flo.lt {w:World} {g m:Nat} (h:Flo w g m):g<w.heap.size:=by
 obtain⟨cs,t,hg, -⟩:=h
 exact (Array.getElem?_eq_some_iff.1 hg).1
theorem Flo.at {w:World} {g m:Nat} (h:Flo w g m) (i:Nat) (hi:i<m):∃x,w.cell? ⟨g,i,none⟩=some (.float .f64 x)∧w.frozen? ⟨g,i,none⟩=false∧x<18446744073709551616:=by
 obtain⟨cs,t,hg,hm,hx⟩:=h
 obtain⟨x,e,hl⟩:=hx i hi
 exact⟨x,by simp [World.cell?,hg,e],by simp [World.frozen?,hg],hl⟩
theorem Flo.block {w w2:World} {g m:Nat} (h:Flo w g m) (e:w2.heap[g]?=w.heap[g]?):Flo w2 g m:=by
 obtain⟨cs,t,hg,r⟩:=h
 exact⟨cs,t,e.trans hg,r⟩
theorem Flo.keep {w w2:World} {g m:Nat} (h:Flo w g m) (hb:Below w.heap.size w w2):Flo w2 g m:=h.block (hb.block g h.lt)
theorem Flo.set {w:World} {g m:Nat} (h:Flo w g m) (c k y:Nat) (hy:y<18446744073709551616):Flo (w.setCell ⟨c,k,none⟩ (.float .f64 y)) g m:=by
 by_cases e:c=g
 · subst e
   obtain⟨cs,t,hg,hm,hx⟩:=h
   refine⟨cs.setIfInBounds k (.float .f64 y),t, ?_,by simp [hm],fun i hi=>?_⟩
   · simp [World.setCell,Array.getElem?_modify,hg]
   · by_cases q:i=k
     · subst q
       exact⟨y,by rw [Array.getElem?_setIfInBounds];simp [hm,hi],hy⟩
     · obtain⟨x,ex,hl⟩:=hx i hi
       exact⟨x,by rw [Array.getElem?_setIfInBounds,if_neg (fun h=>q h.symm)];exact ex,hl⟩
 · exact h.block (Below.heap_setCell _ _ _ _ (fun h=>e h.symm))
structure Wrt (B g:Nat) (w w':World):Prop where
 below:Below B w w'
 flo:∀c m,Flo w c m→Flo w' c m
 rest:∀c,c≠g→c<w.heap.size→w'.heap[c]?=w.heap[c]?
theorem Wrt.refl (B g:Nat) (w:World):Wrt B g w w:=⟨Below.refl _ _,fun _ _ h=>h,fun _ _ _=>rfl⟩
theorem Wrt.drew {B g:Nat} {a w:World} (h:Wrt B g a w):Wrt B g a w.drew:=⟨h.below.drew,fun c m f=>(h.flo c m f).block rfl,h.rest⟩
theorem Wrt.set {B g:Nat} {a w:World} (h:Wrt B g a w) (hB:B≤g) (k y:Nat) (hy:y<18446744073709551616):Wrt B g a (w.setCell ⟨g,k,none⟩ (.float .f64 y)) :=
 ⟨h.below.setCell hB _,fun c m f=>(h.flo c m f).set _ _ _ hy,fun c n l=>(Below.heap_setCell _ _ _ _ n).trans (h.rest c n l)⟩
def opV (op:BinOp) (a b:Nat) (w:World):Nat:=match floatBits op .f64 a b with | some r=>r | none=>nanOf a b w
def opW (op:BinOp) (a b:Nat) (w:World):World:=match floatBits op .f64 a b with | some _=>w | none=>w.drew
theorem opV_lt (op:BinOp) (a b:Nat) (w:World):opV op a b w<18446744073709551616:=by
 unfold opV
 split
 · rename_i r h
   exact bits_lt h
 · exact (nanOf_nan _ _ _).2
theorem opW_cell (op:BinOp) (a b:Nat) (w:World) (A:Addr):(opW op a b w).cell? A=w.cell? A:=by unfold opW;split <;> rfl
theorem opW_frozen (op:BinOp) (a b:Nat) (w:World) (A:Addr):(opW op a b w).frozen? A=w.frozen? A:=by unfold opW;split <;> rfl
theorem Wrt.op {B g:Nat} {x w:World} (h:Wrt B g x w) (op:BinOp) (a b:Nat):Wrt B g x (opW op a b w):=by
 unfold opW
 split
 · exact h
 · exact h.drew
theorem run_op (op:BinOp) (hop:op=.add∨op=.sub∨op=.mul∨op=.quo) (t:TypeId) (a b:Nat) (w:World) :
   (binOp op t (.float .f64 a) (.float .f64 b)).run Tryz.prog w=.ok (.float .f64 (opV op a b w)) (opW op a b w):=by
 unfold opV opW
 cases h:floatBits op .f64 a b with
 | some r=>exact run_float_arith (P:=Tryz.prog) w op t .f64 a b r h
 | none =>
   rcases hop with rfl | rfl | rfl | rfl
   all_goals
     unfold floatBits at h
     simp only at h
     simp [binOp,Op.floatArith,h,nanOf,Question.forced]
theorem Out.block {w w2:World} {g n:Nat} {f:Nat→Value} (h:Out w g n f) (e:w2.heap[g]?=w.heap[g]?) (hs:w.heap.size≤w2.heap.size):Out w2 g n f :=
 ⟨Nat.lt_of_lt_of_le h.1 hs,fun i hi=>⟨(World.cell?_of_block e).trans (h.2 i hi).1,(World.frozen?_of_block e).trans (h.2 i hi).2⟩⟩
theorem Flo.fls {w:World} {g m:Nat} (h:Flo w g m) (o n:Nat) (ho:o+n≤m):∃X:Nat→Nat,∀i,i<n→w.cell? ⟨g,o+i,none⟩=some (.float .f64 (X i))∧X i<18446744073709551616:=by
 have q:∀i,∃x,i<n→w.cell? ⟨g,o+i,none⟩=some (.float .f64 x)∧x<18446744073709551616:=fun i=>by
   by_cases hi:i<n
   · obtain⟨x,a, -,b⟩:=h.at (o+i) (by omega)
     exact⟨x,fun _=>⟨a,b⟩⟩
   · exact⟨0,fun h=>absurd h hi⟩
 exact⟨fun i=>Classical.choose (q i),fun i hi=>Classical.choose_spec (q i) hi⟩
set_option maxHeartbeats 1000000 in
theorem divide_w (g m C d B:Nat) (hm:m≤3000000) (hB:B≤g) (w:World) (V:Flo w g m) :
   Calls Tryz.prog 45 #[.slice (some ⟨g,0,none⟩) m C,.float .f64 d] w fun e w'=>e=.returned (.tuple #[])∧Wrt B g w w':=by
 have oc:=opW_cell
 have of:=opW_frozen
 go_enter Tryz.func45,Tryz.ntmps45
 go_wp2_with fail
 go_loopg [7] m (fun G s7 wx=>Hid (Wrt B g w wx)∧∃j:Nat,j+G=m∧s7=.int .i64 (j:Int))
 case atStart=>exact⟨Wrt.refl _ _ _,0,by omega,rfl⟩
 case round =>
   obtain⟨HW,j,hj,rfl⟩:=hrel
   by_cases cj:j=m
   · subst cj
     go_wp2_with fail
     (try simp only [Exit.inBlock,Exit.then])
     refine bodyPost_end (results_none rfl _ _ _) rfl ?_
     exact⟨rfl,HW⟩
   · have hlt:(j:Int)<(m:Int):=by omega
     have hF:=HW.out.flo g m V
     have hg:=hF.lt
     obtain⟨x,x0,x1,lx⟩:=hF.at j (by omega)
     have hop:=fun (t:TypeId) (w:World)=>run_op .quo (by simp) t x d w
     clear hF
     go_wp2_with fail
     go_roundg (m-j-1)
     case measure=>omega
     case rel=>exact⟨(HW.out.op _ _ _).set hB _ _ (opV_lt _ _ _ _),j+1,by omega,by go_num⟩
set_option maxHeartbeats 1000000 in
theorem takeOff_w (g c m C D d B:Nat) (hm:m≤3000000) (hB:B≤g) (w:World) (V:Flo w g m) (U:Flo w c m) :
   Calls Tryz.prog 46 #[.slice (some ⟨g,0,none⟩) m C,.slice (some ⟨c,0,none⟩) m D,.float .f64 d] w fun e w'=>e=.returned (.tuple #[])∧Wrt B g w w':=by
 have oc:=opW_cell
 have of:=opW_frozen
 go_enter Tryz.func46,Tryz.ntmps46
 go_wp2_with fail
 go_loopg [9] m (fun G s9 wx=>Hid (Wrt B g w wx)∧∃j:Nat,j+G=m∧s9=.int .i64 (j:Int))
 case atStart=>exact⟨Wrt.refl _ _ _,0,by omega,rfl⟩
 case round =>
   obtain⟨HW,j,hj,rfl⟩:=hrel
   by_cases cj:j=m
   · subst cj
     go_wp2_with fail
     (try simp only [Exit.inBlock,Exit.then])
     refine bodyPost_end (results_none rfl _ _ _) rfl ?_
     exact⟨rfl,HW⟩
   · have hlt:(j:Int)<(m:Int):=by omega
     have hF:=HW.out.flo g m V
     have hE:=HW.out.flo c m U
     have hg:=hF.lt
     obtain⟨x,x0,x1,lx⟩:=hF.at j (by omega)
     obtain⟨y,y0, -,ly⟩:=hE.at j (by omega)
     have hm1:=fun (t:TypeId) (w:World)=>run_op .mul (by simp) t d y w
     have hs1:=fun (t:TypeId) (v:Nat) (w:World)=>run_op .sub (by simp) t x v w
     clear hF hE
     go_upto_region 3 with fail
     go_region
     go_wp2_with fail
     go_roundg (m-j-1)
     case measure=>omega
     case rel=>exact⟨((HW.out.drew.op _ _ _).op _ _ _).set hB _ _ (opV_lt _ _ _ _),j+1,by omega,by go_num⟩
set_option maxHeartbeats 1000000 in
theorem greatest_w (g o n m k C:Nat) (h:Nat→Nat) (hn:n≤3000000) (hn0:0<n) (hk:k≤m) (hm:m≤3000000) (w:World)
   (V:∀r,r<n→w.cell? ⟨g,o+r,none⟩=some (.slice (some ⟨h r,0,none⟩) m m)∧Flo w (h r) m) :
   Calls Tryz.prog 44 #[.slice (some ⟨g,o,none⟩) n C,.int .i64 (k:Int)] w fun e w'=>(∃(p:Nat) (q:Int),e=.returned (.tuple #[.int .i64 (p:Int),.int .i64 q])∧p<n∧-1≤q∧q<(k:Int))∧w=w':=by
 have HV:Hid (∀r,r<n→w.cell? ⟨g,o+r,none⟩=some (.slice (some ⟨h r,0,none⟩) m m)∧Flo w (h r) m):=V
 clear V
 go_enter Tryz.func44,Tryz.ntmps44
 go_wp2_with fail
 go_loopg [4,5,6,13] n (fun G s4 s5 s6 s13 wx=>wx=w∧∃(i p:Nat) (q:Int) (z:Nat),i+G=n∧s13=.int .i64 (i:Int)∧s4=.int .i64 (p:Int)∧s5=.int .i64 q∧s6=.float .f64 z∧z<18446744073709551616∧p<n∧-1≤q∧q<(k:Int))
 case atStart=>exact⟨rfl,0,0, -1,0,by omega,rfl,rfl,rfl,rfl,by omega,by omega,by omega,by omega⟩
 case round =>
   obtain⟨rfl,i,p,q,z,hi,rfl,rfl,rfl,rfl,hz,hp,hq,hq2⟩:=hrel
   by_cases ci:i=n
   · subst ci
     go_wp2_with fail
     (try simp only [Exit.inBlock,Exit.then])
     refine bodyPost_ret (results_tmp2 rfl _ _ _) rfl ?_
     exact⟨⟨p,q,rfl,hp,hq,hq2⟩,rfl⟩
   · have hlt:(i:Int)<(n:Int):=by omega
     obtain⟨x0,F⟩:=HV.out i (by omega)
     have HF:Hid (Flo wr (h i) m):=F
     clear F
     go_wp2_with fail
     go_loopg [4,5,6,19] k (fun G s4 s5 s6 s19 wx=>wx=wr∧∃(j p:Nat) (q:Int) (z:Nat),j+G=k∧s19=.int .i64 (j:Int)∧s4=.int .i64 (p:Int)∧s5=.int .i64 q∧s6=.float .f64 z∧z<18446744073709551616∧p<n∧-1≤q∧q<(k:Int))
     case atStart=>exact⟨rfl,0,p,q,z,by omega,rfl,rfl,rfl,rfl,hz,hp,hq,hq2⟩
     case round =>
       clear hz hp hq hq2
       obtain⟨rfl,j,p,q,z,hj,rfl,rfl,rfl,rfl,hz,hp,hq,hq2⟩:=hrel
       by_cases cj:j=k
       · subst cj
         go_wp2_with fail
         go_roundg (n-i-1)
         case measure=>omega
         case rel=>exact⟨rfl,i+1,p,q,z,by omega,by go_num,rfl,rfl,rfl,hz,hp,hq,hq2⟩
       · have hltj:(j:Int)<(k:Int):=by omega
         have hltm:(j:Int)<(m:Int):=by omega
         obtain⟨y,y0, -,ly⟩:=HF.out.at j (by omega)
         have ca:=fun w=>abs_w y ly w
         have hlo:=o_gt (a:=y%9223372036854775808) (b:=z) (by omega) hz
         cases hb:ltB z (y%9223372036854775808)
         · rw [hb] at hlo
           go_wp2_with (go_at_call 75;refine (ca _).mono ?_;rintro _ _ ⟨rfl,rfl⟩)
           go_roundg (k-j-1)
           case measure=>omega
           case rel=>exact⟨rfl,j+1,p,q,z,by omega,by go_num,rfl,rfl,rfl,hz,hp,hq,hq2⟩
         · rw [hb] at hlo
           go_wp2_with (go_at_call 75;refine (ca _).mono ?_;rintro _ _ ⟨rfl,rfl⟩)
           go_roundg (k-j-1)
           case measure=>omega
           case rel=>exact⟨rfl,j+1,i,(j:Int),y%9223372036854775808,by omega,by go_num,rfl,rfl,rfl,by omega,by omega,by omega,by omega⟩
end Go.Proofs.YtlabmpngbcnhpaaGreat
