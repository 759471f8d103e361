/- Rows of floats, divided and taken off one another by Go's own operators; the place of the greatest amount. Rows of noughts, in floats. lohner: the middles of a matrix, row by row. kraw: what may be asked; the middles; what has room. -/
import Derived.Test.YtopfabemfbdccaaGreatZk24
import Derived.Test.YtopfabemfbdccaaGreatZk17
import Derived.BigRegion
import Derived.Test.YtopfabemfbdccaaGreatZk07
import Derived.Deep.AppendLies
import Derived.Deep.RegionLaw
import Derived.Test.YtopfabemfbdccaaGreatZk28
namespace Go.Proofs.YtopfabemfbdccaaGreat
open Go.ChangeShapes Go.WideShapes Go.ChangeAt Go.RowKit
set_option maxHeartbeats 1000000 in
theorem divide_w (g m C d B:Nat) (hm:m<=3000000) (hB:B<=g) (w:World) (V:Flo w g m) :
  Calls Tryz.prog 280 #[.slice (some ⟨g,0,none⟩) m C,.float .f64 d] w fun e w'=>e=.returned (.tuple #[])/\Wrt B g w w':=by
 have oc:=opW_cell
 have of:=opW_frozen
 go_enter Tryz.func280,Tryz.ntmps280
 go_wp2_with fail
 go_loopg [7] m (fun G s7 wx=>Hid (Wrt B g w wx)/\∃j:Nat,j+G=m/\s7=.int .i64 (j:Int))
 case atStart=>exact⟨Wrt.refl _ _ _,0,by omega,rfl⟩
 case round =>
  obtain⟨HW,j,hj,rfl⟩:=hrel
  by_cases cj:j=m
  ·subst cj
   go_wp2_with fail
   (try simp only [Exit.inBlock,Exit.then])
   refine bodyPost_end (results_none rfl _ _ _) rfl ?_
   exact⟨rfl,HW⟩
  ·have hlt:(j:Int)<(m:Int):=by omega
   have hF:=HW.out.flo g m V
   have hg:=hF.lt
   obtain⟨x,x0,x1,lx⟩:=hF.at j (by omega)
   have hop:=fun (t:TypeId) (w:World)=>run_op .quo (by simp) t x d w
   clear hF
   go_wp2_with fail
   go_roundg (m-j-1)
   case measure=>omega
   case rel=>exact⟨(HW.out.op _ _ _).set hB _ _ (opV_lt _ _ _ _),j+1,by omega,by go_num⟩
set_option maxHeartbeats 1000000 in
theorem takeOff_w (g c m C D d B:Nat) (hm:m<=3000000) (hB:B<=g) (w:World) (V:Flo w g m) (U:Flo w c m) :
  Calls Tryz.prog 281 #[.slice (some ⟨g,0,none⟩) m C,.slice (some ⟨c,0,none⟩) m D,.float .f64 d] w fun e w'=>e=.returned (.tuple #[])/\Wrt B g w w':=by
 have oc:=opW_cell
 have of:=opW_frozen
 go_enter Tryz.func281,Tryz.ntmps281
 go_wp2_with fail
 go_loopg [9] m (fun G s9 wx=>Hid (Wrt B g w wx)/\∃j:Nat,j+G=m/\s9=.int .i64 (j:Int))
 case atStart=>exact⟨Wrt.refl _ _ _,0,by omega,rfl⟩
 case round =>
  obtain⟨HW,j,hj,rfl⟩:=hrel
  by_cases cj:j=m
  ·subst cj
   go_wp2_with fail
   (try simp only [Exit.inBlock,Exit.then])
   refine bodyPost_end (results_none rfl _ _ _) rfl ?_
   exact⟨rfl,HW⟩
  ·have hlt:(j:Int)<(m:Int):=by omega
   have hF:=HW.out.flo g m V
   have hE:=HW.out.flo c m U
   have hg:=hF.lt
   obtain⟨x,x0,x1,lx⟩:=hF.at j (by omega)
   obtain⟨y,y0, -,ly⟩:=hE.at j (by omega)
   have hm1:=fun (t:TypeId) (w:World)=>run_op .mul (by simp) t d y w
   have hs1:=fun (t:TypeId) (v:Nat) (w:World)=>run_op .sub (by simp) t x v w
   clear hF hE
   go_upto_region 3 with fail
   go_region
   go_wp2_with fail
   go_roundg (m-j-1)
   case measure=>omega
   case rel=>exact⟨((HW.out.drew.op _ _ _).op _ _ _).set hB _ _ (opV_lt _ _ _ _),j+1,by omega,by go_num⟩
set_option maxHeartbeats 1000000 in
theorem greatest_w (g o n m k C:Nat) (h:Nat->Nat) (hn:n<=3000000) (hn0:0<n) (hk:k<=m) (hm:m<=3000000) (w:World)
  (V:∀r,r<n->w.cell? ⟨g,o+r,none⟩=some (.slice (some ⟨h r,0,none⟩) m m)/\Flo w (h r) m) :
  Calls Tryz.prog 279 #[.slice (some ⟨g,o,none⟩) n C,.int .i64 (k:Int)] w fun e w'=>(∃(p:Nat) (q:Int),e=.returned (.tuple #[.int .i64 (p:Int),.int .i64 q])/\p<n/\-1<=q/\q<(k:Int))/\w=w':=by
 have HV:Hid (∀r,r<n->w.cell? ⟨g,o+r,none⟩=some (.slice (some ⟨h r,0,none⟩) m m)/\Flo w (h r) m):=V
 clear V
 go_enter Tryz.func279,Tryz.ntmps279
 go_wp2_with fail
 go_loopg [4,5,6,13] n (fun G s4 s5 s6 s13 wx=>wx=w/\∃(i p:Nat) (q:Int) (z:Nat),i+G=n/\s13=.int .i64 (i:Int)/\s4=.int .i64 (p:Int)/\s5=.int .i64 q/\s6=.float .f64 z/\z<18446744073709551616/\p<n/\-1<=q/\q<(k:Int))
 case atStart=>exact⟨rfl,0,0, -1,0,by omega,rfl,rfl,rfl,rfl,by omega,by omega,by omega,by omega⟩
 case round =>
  obtain⟨rfl,i,p,q,z,hi,rfl,rfl,rfl,rfl,hz,hp,hq,hq2⟩:=hrel
  by_cases ci:i=n
  ·subst ci
   go_wp2_with fail
   (try simp only [Exit.inBlock,Exit.then])
   refine bodyPost_ret (results_tmp2 rfl _ _ _) rfl ?_
   exact⟨⟨p,q,rfl,hp,hq,hq2⟩,rfl⟩
  ·have hlt:(i:Int)<(n:Int):=by omega
   obtain⟨x0,F⟩:=HV.out i (by omega)
   have HF:Hid (Flo wr (h i) m):=F
   clear F
   go_wp2_with fail
   go_loopg [4,5,6,19] k (fun G s4 s5 s6 s19 wx=>wx=wr/\∃(j p:Nat) (q:Int) (z:Nat),j+G=k/\s19=.int .i64 (j:Int)/\s4=.int .i64 (p:Int)/\s5=.int .i64 q/\s6=.float .f64 z/\z<18446744073709551616/\p<n/\-1<=q/\q<(k:Int))
   case atStart=>exact⟨rfl,0,p,q,z,by omega,rfl,rfl,rfl,rfl,hz,hp,hq,hq2⟩
   case round =>
    clear hz hp hq hq2
    obtain⟨rfl,j,p,q,z,hj,rfl,rfl,rfl,rfl,hz,hp,hq,hq2⟩:=hrel
    by_cases cj:j=k
    ·subst cj
     go_wp2_with fail
     go_roundg (n-i-1)
     case measure=>omega
     case rel=>exact⟨rfl,i+1,p,q,z,by omega,by go_num,rfl,rfl,rfl,hz,hp,hq,hq2⟩
    ·have hltj:(j:Int)<(k:Int):=by omega
     have hltm:(j:Int)<(m:Int):=by omega
     obtain⟨y,y0, -,ly⟩:=HF.out.at j (by omega)
     have ca:=fun w=>abs_w y ly w
     have hlo:=o_gt (a:=y%9223372036854775808) (b:=z) (by omega) hz
     cases hb:ltB z (y%9223372036854775808)
     ·rw [hb] at hlo
      go_wp2_with (go_at_call 158;refine (ca _).mono ?_;rintro _ _ ⟨rfl,rfl⟩)
      go_roundg (k-j-1)
      case measure=>omega
      case rel=>exact⟨rfl,j+1,p,q,z,by omega,by go_num,rfl,rfl,rfl,hz,hp,hq,hq2⟩
     ·rw [hb] at hlo
      go_wp2_with (go_at_call 158;refine (ca _).mono ?_;rintro _ _ ⟨rfl,rfl⟩)
      go_roundg (k-j-1)
      case measure=>omega
      case rel=>exact⟨rfl,j+1,i,(j:Int),y%9223372036854775808,by omega,by go_num,rfl,rfl,rfl,by omega,by omega,by omega,by omega⟩
theorem Flo.other {w:World} {g m:Nat} (h:Flo w g m) {c:Nat} (hne:g≠c) (k:Nat) (v:Value):Flo (w.setCell ⟨c,k,none⟩ v) g m:=h.block (Below.heap_setCell _ _ _ _ hne)
theorem Tryz.infoFlt:(Tryz.prog.info? 22).map (fun i=>(i.zero,i.size,i.bytes))=some (some (.float .f64 0),1,8):=by kernel_rfl
theorem Tryz.infoFrow:(Tryz.prog.info? 68).map (fun i=>(i.zero,i.size,i.bytes))=some (some (.slice none 0 0),1,24):=by kernel_rfl
theorem made_same {v:Value} (hv:v.cells=#[v]) (n:Nat):(madeCells v.cells (n*1)).toList=List.replicate (n*1) v:=by
 refine List.eq_replicate_iff.2 ⟨by simp [madeCells],fun b hb=>?_⟩
 rw [hv] at hb
 simp [madeCells] at hb
 obtain⟨x, -,hx⟩:=hb
 rw [<-hx]
 have:x%1=0:=by omega
 simp [this]
theorem wpList_makeF {w:World} {ops:Array Oper} {rest:List Oper} {o:Oper} {a:Act} {Q:Exit->Act->World->Prop} (hgd:o.guard=none) (l c:Operand)
  (ho:o.op=.makeSlice 68 l c) (n:Nat) (hl:a.eval l=.int .i64 (n:Int)) (hc:a.eval c=.int .i64 (n:Int)) (hn:n<=3000000)
  (h:∀w',Flo w' w.heap.size n->Below w.heap.size w w'->w.heap.size<w'.heap.size->wpList Tryz.prog ops Q rest (a.put o.dst (.slice (some ⟨w.heap.size,0,none⟩) n n)) w'):wpList Tryz.prog ops Q (o :: rest) a w:=by
 obtain⟨i0,hi,hz0,hz1,hz2⟩:=info_parts Tryz.infoFlt
 refine wpList_make_full w hgd l c 68 ho w.heap.size 22 i0 (.float .f64 0) 1 Tryz.underlying68 hi hz0 hz1 .i64 .i64 _ _ n hl hc rfl rfl (by rw [hz2];omega) (by unfold maxLen;omega) (Nat.le_refl _) ?_
 intro w' h1 h2
 have hlt:=(World.ownsRow.lt h1 _ rfl).2
 refine h w' ?_ ⟨h2.os,h2.tape,h2.output,h2.size,fun k hk=>h2.block k hk (by simp)⟩ hlt
 have hcell:=fun i (hi:i<n)=>World.ownsRow.cellAt h1 i (by omega)
 rw [made_same rfl] at hcell
 rcases h1.2 with ⟨h',_⟩ | ⟨g',cap',cur,h',_,hg,_,_,hs,_⟩
 ·simp at h'
 ·simp only [Value.slice.injEq,Option.some.injEq,Addr.mk.injEq,and_true,true_and] at h'
  obtain⟨rfl,rfl⟩:=h'
  refine⟨cur,_,hg,by omega,fun i hi=>⟨0, ?_,by omega⟩⟩
  have q:=hcell i hi
  simp only [World.cell?,hg] at q
  simpa [hi] using q
theorem wpList_makeRF {w:World} {ops:Array Oper} {rest:List Oper} {o:Oper} {a:Act} {Q:Exit->Act->World->Prop} (hgd:o.guard=none) (l c:Operand)
  (ho:o.op=.makeSlice 177 l c) (n:Nat) (hl:a.eval l=.int .i64 (n:Int)) (hc:a.eval c=.int .i64 (n:Int)) (hn:n<=3000000)
  (h:∀w',Out w' w.heap.size n (fun _=>.slice none 0 0)->Below w.heap.size w w'->w.heap.size<w'.heap.size->wpList Tryz.prog ops Q rest (a.put o.dst (.slice (some ⟨w.heap.size,0,none⟩) n n)) w'):wpList Tryz.prog ops Q (o :: rest) a w:=by
 obtain⟨i0,hi,hz0,hz1,hz2⟩:=info_parts Tryz.infoFrow
 refine wpList_make_full w hgd l c 177 ho w.heap.size 68 i0 (.slice none 0 0) 1 Tryz.underlying177 hi hz0 hz1 .i64 .i64 _ _ n hl hc rfl rfl (by rw [hz2];omega) (by unfold maxLen;omega) (Nat.le_refl _) ?_
 intro w' h1 h2
 have hlt:=(World.ownsRow.lt h1 _ rfl).2
 refine h w' ⟨hlt,fun i hi=>⟨?_,World.ownsRow.frozenAt h1 _⟩⟩ ⟨h2.os,h2.tape,h2.output,h2.size,fun k hk=>h2.block k hk (by simp)⟩ hlt
 rw [World.ownsRow.cellAt h1 i (by omega),made_same rfl]
 simp [hi]
structure Tab (B:Nat) (w:World) (g n m:Nat) (h:Nat->Nat):Prop where
 out:Out w g n (fun r=>.slice (some ⟨h r,0,none⟩) m m)
 row:∀r,r<n->Flo w (h r) m
 ne:∀r,r<n->h r≠g
 ge:∀r,r<n->B<=h r
theorem Tab.keep {B:Nat} {w w2:World} {g n m:Nat} {h:Nat->Nat} (T:Tab B w g n m h) (hb:Below w.heap.size w w2):Tab B w2 g n m h:=⟨T.out.keep hb,fun r hr=>(T.row r hr).keep hb,T.ne,T.ge⟩
theorem Tab.wrt {B b c:Nat} {w w2:World} {g n m:Nat} {h:Nat->Nat} (T:Tab B w g n m h) (hW:Wrt b c w w2) (hc:g≠c):Tab B w2 g n m h:=⟨T.out.block (hW.rest g hc T.out.1) hW.below.size,fun r hr=>hW.flo _ _ (T.row r hr),T.ne,T.ge⟩
set_option maxHeartbeats 2000000 in
theorem gridF_w (n m:Nat) (hn:n<=24) (hm:m<=48) (w:World) :
  Calls Tryz.prog 282 #[.int .i64 (n:Int),.int .i64 (m:Int)] w fun e w'=>∃g h,e=.returned (.slice (some ⟨g,0,none⟩) n n)/\Tab w.heap.size w' g n m h/\w.heap.size<=g/\Below w.heap.size w w':=by
 go_enter Tryz.func282,Tryz.ntmps282
 go_wp2_with (at_make;refine wpList_makeRF (by rfl) _ _ (by rfl) n (by rfl) (by rfl) (by omega) ?_;intro w3 hO HB hS3)
 go_loopg [11] n (fun G s11 wx=>Below w.heap.size w wx/\∃(r:Nat) (h:Nat->Nat),r+G=n/\s11=.int .i64 (r:Int)/\Out wx w.heap.size n (fun i=>if i<r then .slice (some ⟨h i,0,none⟩) m m else .slice none 0 0) /\
  Hid (∀i,i<r->Flo wx (h i) m/\w.heap.size<h i))
 case atStart=>exact⟨HB,0,fun _=>0,by omega,rfl,hO.congr fun i _=>by simp,fun i hi=>absurd hi (by omega)⟩
 case round =>
  clear HB hO
  obtain⟨HB,r,h,hr,rfl,hO,hI⟩:=hrel
  by_cases cr:r=n
  ·subst cr
   go_wp2_with fail
   go_ret
   exact⟨_,h,rfl,⟨hO.congr fun i hi=>by simp [hi],fun i hi=>(hI i hi).1,fun i hi=>by have:=(hI i hi).2;omega,fun i hi=>by have:=(hI i hi).2;omega⟩,Nat.le_refl _,HB⟩
  ·have hlt:(r:Int)<(n:Int):=by omega
   have hg:w.heap.size<wr.heap.size:=hO.1
   go_wp2_with (at_make;refine wpList_makeF (by rfl) _ _ (by rfl) m (by rfl) (by rfl) (by omega) ?_;intro w4 hI4 hb4 hS4;replace HB:=later HB hb4;replace hO:=hO.keep hb4;obtain⟨o0,o1⟩:=id (hO.2 r (by omega)))
   go_roundg (n-r-1)
   case measure=>omega
   case rel =>
    have ne:wr.heap.size≠w.heap.size:=by omega
    refine⟨?_,r+1,fun i=>if i=r then wr.heap.size else h i,by omega,by go_num,(hO.set r _ (by omega)).congr fun i hi=>?_,fun i hi=>?_⟩
    ·repeat' (first | (with_reducible exact HB) | (with_reducible refine Below.setCell ?_ ?_ _) | go_size | omega)
    ·by_cases e:i=r
     ·subst e
      simp
     ·simp only [e,if_false]
      by_cases q:i<r
      ·simp [q,show i<r+1 by omega]
      ·simp [q,show ¬i<r+1 by omega]
    ·by_cases e:i=r
     ·simp only [e,if_true]
      exact⟨hI4.other ne _ _,hg⟩
     ·simp only [e,if_false]
      have q:=hI i (by omega)
      exact⟨(q.1.keep hb4).other (by have:=q.2;omega) _ _,q.2⟩
def OwnD (B:Nat) (w:World) (v:Value) (xs:List Nat):Prop:=w.ownsRow B 22 1 v xs.length (xs.map fun z=>Value.float .f64 z)
theorem ownD_nil (B:Nat) (w:World):OwnD B w (.slice none 0 0) []:=⟨rfl,.inl ⟨rfl,rfl⟩⟩
theorem ownD_block {B:Nat} {w w2:World} {v:Value} {xs:List Nat} (h:OwnD B w v xs) (hb:∀g,B<=g->g<w.heap.size->w2.heap[g]?=w.heap[g]?):OwnD B w2 v xs:=by
 refine⟨h.1, ?_⟩
 rcases h.2 with hn | ⟨g,cap,cur,hv,hb2,hg,rest⟩
 ·exact .inl hn
 ·have hlt:g<w.heap.size:=(Array.getElem?_eq_some_iff.1 hg).1
  have hl:=(World.ownsRow.lt h g (by rw [hv];rfl)).1
  refine .inr ⟨g,cap,cur,hv,hb2, ?_,rest⟩
  rw [<-hg]
  exact hb g hl hlt
theorem ownD_keep {B:Nat} {w w2:World} {v:Value} {xs:List Nat} (h:OwnD B w v xs) (hb:Below w.heap.size w w2):OwnD B w2 v xs:=ownD_block h fun g _ hg=>hb.block g hg
theorem ownD_row {B n:Nat} {w:World} {A:Option Addr} {C:Nat} {xs:List Nat} (h:OwnD B w (.slice A n C) xs) (hn:xs.length=n) (h0:0<n):∃g,A=some ⟨g,0,none⟩/\B<=g/\g<w.heap.size/\∀i,i<n->w.cell? ⟨g,i,none⟩=some (.float .f64 (xs.getD i 0)):=by
 subst hn
 rcases h.2 with ⟨-,hn⟩ | ⟨g,cap,cur,hv, -⟩
 ·omega
 ·simp only [Value.slice.injEq] at hv
  obtain⟨rfl, -,rfl⟩:=hv
  have hl:=World.ownsRow.lt h g rfl
  refine⟨g,rfl,hl.1,hl.2,fun i hi=>?_⟩
  rw [World.ownsRow.cellAt h i (by omega)]
  simp [List.getD,hi]
theorem step_pushD {B g0:Nat} {w:World} {ops:Array Oper} {o:Oper} {a:Act} {K:Act->World->Prop} {Q:Exit->Act->World->Prop} {E:Prop} (hgd:o.guard=none) (s x:Operand)
  (ho:o.op=.call { callee:=.builtin .append,args:=#[s,x],argTypes:=#[68,68] }) (v:Value) (zs:List Nat) (z n:Nat) (hs:a.eval s=v) (hx:a.eval x=.slice (some ⟨g0,0,none⟩) 1 1)
  (hc0:w.cell? ⟨g0,0,none⟩=some (.float .f64 z)) (hown:OwnD B w v zs) (hn:zs.length=n) (hl:n<=2000000) (hB:B<=w.heap.size)
  (h:∀qa c w',OwnD B w' (.slice qa (n+1) c) (zs++[z])->Below B w w'->w.heap.size<=w'.heap.size->K (a.put o.dst (.slice qa (n+1) c)) w') :
  if Region.wanted o (yielded ops a.tmps)=true then Oper.wp Tryz.prog o a w K Q else E:=by
 subst hn
 obtain⟨i0,hi,hz0,hz1,hz2⟩:=info_parts Tryz.infoFlt
 refine step_append_lies w hgd s x 68 ho B 22 i0 (.float .f64 0) 1 8 Tryz.underlying68 hi hz0 hz1 hz2 rfl (by decide) v zs.length _ hs hown ⟨g0,0,none⟩ 1 1 [.float .f64 z] hx rfl ?_ ?_ (by omega) (by unfold maxLen;omega) (by omega) hB w.heap.size rfl ?_
 ·intro j u hj
  match j,hj with
  | 0,hj=>simp at hj;subst hj;simpa [Addr.add] using hc0
 ·intro u hu
  simp at hu
  rw [hu]
  rfl
 ·intro g cap w' h1 h2 _ _
  have lt:∀k,v.ownBlock=some k->B<=k:=fun k hk=>(World.ownsRow.lt hown k hk).1
  refine h _ _ w' ?_ ((Below.refl B w).grown h2 hB lt) h2.size
  unfold OwnD
  rw [List.length_append,List.map_append]
  exact h1
structure RowsF (w:World) (ga n m:Nat) (h k:Nat->Nat) (F:Nat->Nat->Nat):Prop where
 out:Out w ga n (fun r=>.slice (some ⟨h r,0,none⟩) m (k r))
 row:∀r,r<n->h r<w.heap.size/\∀c,c<m->w.cell? ⟨h r,c,none⟩=some (.float .f64 (F r c))
theorem RowsF.rfs {w:World} {ga n m:Nat} {h k:Nat->Nat} {F:Nat->Nat->Nat} (G:RowsF w ga n m h k F) (hm:m<=9223372036854775807) (hF:∀r,r<n->∀c,c<m->F r c<18446744073709551616):Rfs w (some ⟨ga,0,none⟩) n (fun r=>some ⟨h r,0,none⟩) (fun _=>m) k F:=fun r hr =>
 ⟨ga,0,rfl,G.out.1,by rw [Nat.zero_add];exact (G.out.2 r hr).1,hm,fun c hc=>⟨h r,0,rfl,(G.row r hr).1,by rw [Nat.zero_add];exact (G.row r hr).2 c hc,hF r hr c hc⟩⟩
def midL (X:Nat->Nat->Nat×Nat) (i c:Nat):List Nat:=(List.range c).map fun j=>midP (X i j).1 (X i j).2
theorem midL_len (X:Nat->Nat->Nat×Nat) (i c:Nat):(midL X i c).length=c:=by simp [midL]
theorem midL_step (X:Nat->Nat->Nat×Nat) (i c:Nat):midL X i (c+1)=midL X i c++[midP (X i c).1 (X i c).2]:=by simp [midL,List.range_succ]
theorem midL_at (X:Nat->Nat->Nat×Nat) (i m c:Nat) (h:c<m):(midL X i m).getD c 0=midP (X i c).1 (X i c).2:=by simp [midL,List.getD,h]
theorem kmid_lt {lo hi:Nat} (hl:lo<18446744073709551616) (hh:hi<18446744073709551616):midP lo hi<18446744073709551616:=by
 unfold midP
 cases h:hsB lo hi
 ·rw [if_neg (by simp)];omega
 ·rw [if_pos rfl]
  have E:=mid_ends hl hh (hs_iff.1 h)
  have A:=midM_facts lo hi
  split
  ·exact E.2.2.2.2.1
  ·split
   ·exact E.2.2.2.2.2.1
   ·exact A.2.2
set_option maxHeartbeats 1000000 in
theorem lbounded7_w (A:Option Addr) (n C:Nat) (X:Nat->Nat×Nat) (hn:n<=9223372036854775807) (w:World) (V:Ivs w A n X) :
  Calls Tryz.prog 68 #[.slice A n C] w fun e w'=>e=.returned (.bool ((List.range n).all fun i=>bdB (X i)))/\Below w.heap.size w w':=by
 go_enter Tryz.func68,Tryz.ntmps68
 go_wp2_with fail
 go_loopg [7] n (fun G s7 wx=>Below w.heap.size w wx/\∃i:Nat,i+G=n/\s7=.int .i64 (i:Int)/\Hid (∀j,j<i->bdB (X j)=true))
 case atStart=>exact⟨Below.refl _ _,0,by omega,rfl,fun j hj=>absurd hj (by omega)⟩
 case round =>
  obtain⟨HB,i,hi,rfl,hall⟩:=hrel
  by_cases ci:i=n
  ·subst ci
   have e:((List.range i).all fun i=>bdB (X i))=true:=all_upto.2 hall
   go_wp2_with fail
   go_ret
   exact⟨(congrArg (fun q=>Ending.returned (Value.bool q)) e).symm,HB⟩
  ·have hlt:(i:Int)<(n:Int):=by omega
   obtain⟨b,o,hA,hb,x0,x1,l0,l1⟩:=(V.keep HB) i (by omega)
   have c:=fun w=>rbd_w (v:=X i) l0 l1 w
   have hcase:bdB (X i)=true\/bdB (X i)=false:=by cases bdB (X i) <;> simp
   rcases hcase with hq | hq
   ·rw [hq] at c
    replace hq:Hid (bdB (X i)=true):=hq
    subst hA
    go_wp2_with (go_at_call 130;refine (c _).mono ?_;rintro _ w1 ⟨rfl,hb1⟩;have HB2:=later (below_alloc HB _) hb1)
    go_roundg (n-i-1)
    case measure=>omega
    case rel=>exact⟨HB2,i+1,by omega,by go_num,fun j hj=>by rcases Nat.lt_or_ge j i with h | h;exact hall j h;rw [show j=i by omega];exact hq⟩
   ·rw [hq] at c
    have e:((List.range n).all fun i=>bdB (X i))=false:=all_not (i:=i) (by omega) hq
    subst hA
    go_wp2_with (go_at_call 130;refine (c _).mono ?_;rintro _ w1 ⟨rfl,hb1⟩;have HB2:=later (below_alloc HB _) hb1)
    go_ret
    exact⟨(congrArg (fun q=>Ending.returned (Value.bool q)) e).symm,HB2⟩
set_option maxHeartbeats 2000000 in
theorem kbounded_w (A:Option Addr) (n C:Nat) (X:Nat->Nat×Nat) (hn:n<=9223372036854775807) (w:World) (V:Ivs w A n X) :
  Calls Tryz.prog 125 #[.slice A n C] w fun e w'=>e=.returned (.bool ((List.range n).all fun i=>bdB (X i)))/\Below w.heap.size w w':=by
 go_enter Tryz.func125,Tryz.ntmps125
 go_wp2_with fail
 go_loopg [7] n (fun G s7 wx=>Below w.heap.size w wx/\∃i:Nat,i+G=n/\s7=.int .i64 (i:Int)/\Hid (∀j,j<i->bdB (X j)=true))
 case atStart=>exact⟨Below.refl _ _,0,by omega,rfl,fun j hj=>absurd hj (by omega)⟩
 case round =>
  obtain⟨HB,i,hi,rfl,hall⟩:=hrel
  by_cases ci:i=n
  ·subst ci
   have e:((List.range i).all fun i=>bdB (X i))=true:=all_upto.2 hall
   go_wp2_with fail
   go_ret
   exact⟨(congrArg (fun q=>Ending.returned (Value.bool q)) e).symm,HB⟩
  ·have hlt:(i:Int)<(n:Int):=by omega
   obtain⟨b,o,hA,hb,x0,x1,l0,l1⟩:=(V.keep HB) i (by omega)
   have cr:=fun w=>right_w (X i).1 (X i).2 l0 l1 w
   have c1:=fun w=>isInf0_w (X i).1 l0 w
   have c2:=fun w=>isInf0_w (X i).2 l1 w
   have hbd:Hid (bdB (X i)=(rightB (X i).1 (X i).2&&(!infB (X i).1&&!infB (X i).2))):=rfl
   generalize rightB (X i).1 (X i).2=r at *
   generalize infB (X i).1=b1 at *
   generalize infB (X i).2=b2 at *
   subst hA
   go_upto_region 4 with fail
   have Y:Has2 (wr.alloc (.cells #[.float .f64 (X i).1,.float .f64 (X i).2] 24)) wr.heap.size (.float .f64 (X i).1) (.float .f64 (X i).2):=has2_new _ _ _ _
   replace HB:=below_alloc HB (.cells #[.float .f64 (X i).1,.float .f64 (X i).2] 24)
   clear x0 x1
   generalize (wr.alloc (.cells #[.float .f64 (X i).1,.float .f64 (X i).2] 24))=V1 at *
   generalize wr.heap.size=yb at *
   obtain⟨y0,y1,y2,y3,y4⟩:=id Y
   cases r
   case' true=>cases b1
   case' true.false=>cases b2
   case true.false.false =>
    go_wp2_with (first
     | (go_at_call 175;(with_reducible refine (cr _).mono ?_);rintro _ W1 ⟨rfl,hb1⟩;replace HB:=later HB hb1;replace Y:=Y.keep hb1;clear hb1 y0 y1 y2 y3 y4;obtain⟨y0,y1,y2,y3,y4⟩:=id Y)
     | (go_at_call 176;(with_reducible refine (c1 _).mono ?_);rintro _ _ ⟨rfl,rfl⟩)
     | (go_at_call 176;(with_reducible refine (c2 _).mono ?_);rintro _ _ ⟨rfl,rfl⟩))
    go_roundg (n-i-1)
    case measure=>omega
    case rel=>exact⟨HB,i+1,by omega,by go_num,fun j hj=>by rcases Nat.lt_or_ge j i with h | h;exact hall j h;rw [show j=i by omega];exact hbd⟩
   all_goals
    have e:((List.range n).all fun i=>bdB (X i))=false:=all_not (i:=i) (by omega) hbd
    go_wp2_with (first
     | (go_at_call 175;(with_reducible refine (cr _).mono ?_);rintro _ W1 ⟨rfl,hb1⟩;replace HB:=later HB hb1;replace Y:=Y.keep hb1;clear hb1 y0 y1 y2 y3 y4;obtain⟨y0,y1,y2,y3,y4⟩:=id Y)
     | (go_at_call 176;(with_reducible refine (c1 _).mono ?_);rintro _ _ ⟨rfl,rfl⟩)
     | (go_at_call 176;(with_reducible refine (c2 _).mono ?_);rintro _ _ ⟨rfl,rfl⟩))
    go_ret
    exact⟨(congrArg (fun q=>Ending.returned (Value.bool q)) e).symm,HB⟩
set_option maxRecDepth 8000 in
set_option maxHeartbeats 8000000 in
theorem kmids_w (A:Option Addr) (N C M:Nat) (RA:Nat->Option Addr) (RC:Nat->Nat) (X:Nat->Nat->Nat×Nat) (hN:N<=24) (hM:M<=24) (m0:0<M) (w:World) (V:Rws w A N RA (fun _=>M) RC X) :
  Calls Tryz.prog 228 #[.slice A N C] w fun e w'=>∃ga h k,e=.returned (.slice (some ⟨ga,0,none⟩) N N)/\RowsF w' ga N M h k (fun r c=>midP (X r c).1 (X r c).2)/\w.heap.size<=ga/\(∀r,r<N->w.heap.size<=h r)/\Below w.heap.size w w':=by
 go_enter Tryz.func228,Tryz.ntmps228
 go_wp2_with (at_make;refine wpList_makeRF (by rfl) _ _ (by rfl) N (by rfl) (by rfl) (by omega) ?_;intro w3 hO HB hS3)
 have hga:w.heap.size<=w.heap.size:=Nat.le_refl _
 obtain⟨ga,eg⟩:∃ga,ga=w.heap.size:=⟨_,rfl⟩
 have hga:Hid (w.heap.size<=ga):=by show _<=ga;omega
 rw [<-eg] at hO hS3 ⊢
 clear eg
 go_loopg [13] N (fun G s13 wx=>Below w.heap.size w wx/\∃(r:Nat) (h k:Nat->Nat),r+G=N/\s13=.int .i64 (r:Int)/\Out wx ga N (fun i=>if i<r then .slice (some ⟨h i,0,none⟩) M (k i) else .slice none 0 0) /\
  Hid (∀i,i<r->(h i<wx.heap.size/\∀c,c<M->wx.cell? ⟨h i,c,none⟩=some (.float .f64 (midP (X i c).1 (X i c).2)))/\w.heap.size<=h i/\h i≠ga))
 case atStart=>exact⟨HB,0,fun _=>0,fun _=>0,by omega,rfl,hO.congr fun i _=>by simp,fun i hi=>absurd hi (by omega)⟩
 case round =>
  clear HB hO hS3
  obtain⟨HB,r,h,k,hr,rfl,hO,hI⟩:=hrel
  by_cases cr:r=N
  ·subst cr
   go_wp2_with fail
   go_ret
   exact⟨ga,h,k,rfl,⟨hO.congr fun i hi=>by simp [hi],fun i hi=>(hI i hi).1⟩,hga,fun i hi=>(hI i hi).2.1,HB⟩
  ·have hlt:(r:Int)<(N:Int):=by omega
   obtain⟨b,o,hA,hb,x0,l0,I⟩:=(V.keep HB) r (by omega)
   have hwB:w.heap.size<=wr.heap.size:=HB.size
   have gB:ga<wr.heap.size:=hO.1
   obtain⟨b2,o2,hA2, -⟩:=I 0 m0
   subst hA
   rw [hA2] at x0
   have I':∀wy,Below w.heap.size w wy->Ivs wy (some ⟨b2,o2,none⟩) M (X r):=fun wy hy=>by
    obtain⟨_,_, -, -, -, -,J⟩:=(V.keep hy) r (by omega)
    rw [hA2] at J
    exact J
   clear I
   go_wp2_with fail
   clear x0
   obtain⟨w1,rfl⟩:∃w1,w1=wr:=⟨_,rfl⟩
   go_loopg [20] M (fun G s20 wy=>Below w.heap.size w wy/\Hid (w1.heap.size<=wy.heap.size/\∀b,b<w1.heap.size->b≠ga->wy.heap[b]?=w1.heap[b]?)/\∃(c:Nat) (A':Option Addr) (C':Nat),c+G=M/\s20=.int .i64 (c:Int)/\Out wy ga N (fun i=>if i<r then .slice (some ⟨h i,0,none⟩) M (k i) else if i=r then .slice A' c C' else .slice none 0 0)/\OwnD w1.heap.size wy (.slice A' c C') (midL X r c))
   case atStart=>exact⟨HB,⟨Nat.le_refl _,fun _ _ _=>rfl⟩,0,none,0,by omega,rfl,hO.congr fun i _=>by simp,ownD_nil _ _⟩
   case round =>
    clear HB hO
    obtain⟨HB,hF,c,A',C',hc,rfl,hO,hD⟩:=hrel
    by_cases cc:c=M
    ·subst cc
     obtain⟨g,rfl,hgB,hgl,hcell⟩:=ownD_row hD (midL_len X r c) m0
     go_wp2_with fail
     go_roundg (N-r-1)
     case measure=>omega
     case rel =>
      obtain⟨f1,f2⟩:=hF
      refine⟨HB,r+1,fun i=>if i=r then g else h i,fun i=>if i=r then C' else k i,by omega,by go_num,hO.congr fun i hi=>?_,fun i hi=>?_⟩
      ·by_cases e:i=r
       ·subst e
        simp
       ·by_cases q:i<r
        ·simp [q,e,show i<r+1 by omega]
        ·simp [q,e,show ¬i<r+1 by omega]
      ·by_cases e:i=r
       ·subst e
        simp only [if_true]
        exact⟨⟨hgl,fun c' hc'=>by rw [hcell c' hc',midL_at X i c c' hc']⟩,Nat.le_trans hwB hgB,by omega⟩
       ·simp only [e,if_false]
        obtain⟨⟨q1,q2⟩,q3,q4⟩:=hI i (by omega)
        exact⟨⟨Nat.lt_of_lt_of_le q1 f1,fun c' hc'=>(World.cell?_of_block (f2 _ q1 q4)).trans (q2 c' hc')⟩,q3,q4⟩
    ·have hlt2:(c:Int)<(M:Int):=by omega
     obtain⟨b3,o3,hA3,hb3,x0,x1,lx0,lx1⟩:=(I' wr HB) c (by omega)
     simp only [Option.some.injEq,Addr.mk.injEq,and_true] at hA3
     obtain⟨rfl,rfl⟩:=hA3
     have cm:=fun w=>Mid_w (X r c).1 (X r c).2 lx0 lx1 w
     have stp:=midL_step X r c
     have len:=midL_len X r c
     generalize midP (X r c).1 (X r c).2=mz at *
     generalize midL X r c=zs at *
     go_upto_region 8 with fail
     have hx:Has2 (wr.alloc (.cells #[.float .f64 (X r c).1,.float .f64 (X r c).2] 24)) wr.heap.size (.float .f64 (X r c).1) (.float .f64 (X r c).2):=has2_new _ _ _ _
     have hb0:Below wr.heap.size wr (wr.alloc (.cells #[.float .f64 (X r c).1,.float .f64 (X r c).2] 24)):=by go_grown
     replace HB:=later HB hb0
     replace hO:=hO.keep hb0
     replace hD:=ownD_keep hD hb0
     have hF1:=hF.1
     replace hF:Hid (w1.heap.size<=(wr.alloc (.cells #[.float .f64 (X r c).1,.float .f64 (X r c).2] 24)).heap.size/\∀b,b<w1.heap.size->b≠ga->(wr.alloc (.cells #[.float .f64 (X r c).1,.float .f64 (X r c).2] 24)).heap[b]?=w1.heap[b]?):=⟨Nat.le_trans hF.1 hb0.size,fun b hb hne=>(hb0.block b (Nat.lt_of_lt_of_le hb hF.1)).trans (hF.2 b hb hne)⟩
     clear hb0 x0 x1
     generalize (wr.alloc (.cells #[.float .f64 (X r c).1,.float .f64 (X r c).2] 24))=W0 at *
     generalize wr.heap.size=xb at *
     obtain⟨o0,o1⟩:=id (hO.2 r (by omega))
     simp only [show ¬r<r by omega,if_false,if_true] at o0
     have gl:=hO.1
     obtain⟨e0,e1,e2,e3,e4⟩:=id hx
     have hltr:(r:Int)<(N:Int):=by omega
     have hS:w1.heap.size<=W0.heap.size:=hF.1
     have hgx:Hid (xb<W0.heap.size):=e4
     go_region_law
      (first
       | (go_simp;go_at_call 150;(with_reducible refine (cm _).mono ?_);rintro _ W ⟨rfl,hb1⟩;have hbW:Below W0.heap.size W0 W:=later (Below.refl _ _).drew hb1;replace hO:=hO.keep hbW;replace hD:=ownD_keep hD hbW;replace HB:=later HB hbW;replace hS:=Nat.le_trans hS hbW.size;obtain⟨p0,p1⟩:=id (hO.2 r (by omega));simp only [show ¬r<r by omega,if_false,if_true] at p0;have glW:=hO.1;have neW:ga≠W.heap.size:=Nat.ne_of_lt glW)
       | (refine step_pushD (by rfl) (.tmp 29) (.tmp 32) (by rfl) _ zs mz c (by rfl) (by rfl) (by go_simp) (ownD_keep hD (by go_grown)) len (by omega) (by simp only [World.size_alloc];omega) ?_;intro A2 C2 w' hD' hB' hS';have hO2:=(hO.keep (below_alloc (Below.refl _ _) _)).block (hB'.block ga gB) hS';obtain⟨q0,q1⟩:=id (hO2.2 r (by omega));simp only [show ¬r<r by omega,if_false,if_true] at q0;have gl2:=hO2.1))
     all_goals
      go_wp2_with fail
      go_roundg (M-c-1)
      case measure=>omega
      case rel =>
       have hg:w.heap.size<=ga:=hga
       have hbA:=below_alloc HB (.cells #[.float .f64 mz] 22)
       refine⟨(hbA.trans (hB'.mono hwB)).setCell hg _,⟨?_,fun b hb hne=>?_⟩,c+1,A2,C2,by omega,by go_num,(hO2.set r _ (by omega)).congr fun i hi=>?_, ?_⟩
       ·simp only [World.size_setCell]
        simp only [World.size_alloc] at hS'
        omega
       ·rw [Below.heap_setCell _ _ _ _ hne,hB'.block b hb]
        exact ((below_alloc hbW (.cells #[.float .f64 mz] 22)).block b (Nat.lt_of_lt_of_le hb hF.1)).trans (hF.2 b hb hne)
       ·by_cases e:i=r
        ·subst e
         simp
        ·simp only [e,if_false]
       ·rw [stp]
        exact ownD_block hD' fun g hg _=>Below.heap_setCell _ _ _ _ (by show g≠ga;omega)
def pmid (p:Nat×Nat):Nat×Nat:=makeP (midP p.1 p.2) (midP p.1 p.2)
set_option maxHeartbeats 4000000 in
theorem kmiddle_w (A:Option Addr) (n C:Nat) (X:Nat->Nat×Nat) (n2:n<=100) (w:World) (V:Ivs w A n X) :
  Calls Tryz.prog 181 #[.slice A n C] w fun e w'=>(∃g,e=.returned (.slice (some ⟨g,0,none⟩) n n)/\Img w' g n (fun i=>pmid (X i))/\w.heap.size<=g)/\Below w.heap.size w w':=by
 go_enter Tryz.func181,Tryz.ntmps181
 go_wp2_with (at_make;refine wpList_makeI (by rfl) _ _ (by rfl) n (by rfl) (by rfl) (by omega) ?_;intro w3 hI HB hS3)
 have hg0:w.heap.size<=w.heap.size:=Nat.le_refl _
 obtain⟨g,eg⟩:∃g,g=w.heap.size:=⟨_,rfl⟩
 have hg:w.heap.size<=g:=by omega
 rw [<-eg] at hI ⊢
 clear eg hg0 hS3
 go_loopg [11] n (fun G s11 wx=>Below w.heap.size w wx/\∃i:Nat,i+G=n/\s11=.int .i64 (i:Int)/\Img wx g n (fun j=>if j<i then pmid (X j) else (0,0)))
 case atStart=>exact⟨HB,0,by omega,rfl,hI.congr fun i _=>by simp⟩
 case round =>
  clear HB hI
  obtain⟨HB,i,hi,rfl,hI⟩:=hrel
  by_cases ci:i=n
  ·subst ci
   go_wp2_with fail
   go_ret
   exact⟨⟨g,rfl,hI.congr fun j hj=>by simp [hj],hg⟩,HB⟩
  ·have hlt:(i:Int)<(n:Int):=by omega
   obtain⟨b,o,hA,hb,x0,x1,l0,l1⟩:=(V.keep HB) i (by omega)
   have c1:=fun w=>Mid_w (X i).1 (X i).2 l0 l1 w
   have c2:=fun w=>point_w (midP (X i).1 (X i).2) (kmid_lt l0 l1) w
   have hv:Hid (pmid (X i)=makeP (midP (X i).1 (X i).2) (midP (X i).1 (X i).2)):=rfl
   generalize makeP (midP (X i).1 (X i).2) (midP (X i).1 (X i).2)=v at c2 hv
   generalize midP (X i).1 (X i).2=mz at *
   subst hA
   go_wp2_with (first
    | (go_at_call 150;(with_reducible refine (c1 _).mono ?_);rintro _ W1 ⟨rfl,hb1⟩)
    | (go_at_call 55;(with_reducible refine (c2 _).mono ?_);rintro _ W2 ⟨rfl,hb2⟩;have hb3:=later (later (below_alloc (Below.refl _ _) _) hb1) hb2;replace hI:=hI.keep hb3;replace HB:=later HB hb3;obtain⟨i0,i1,f0,f1⟩:=id (hI.2 i (by omega));have gl:=hI.1))
   go_roundg (n-i-1)
   case measure=>omega
   case rel =>
    refine⟨?_,i+1,by omega,by go_num,(hI.set i _ _ (by omega)).congr fun j hj=>?_⟩
    ·repeat' (first | (with_reducible exact HB) | (with_reducible refine Below.setCell ?_ ?_ _) | go_size | omega)
    ·by_cases e:j=i
     ·subst e
      simp only [if_true,show j<j+1 by omega]
      exact (show pmid (X j)=v from hv).symm
     ·simp only [e,if_false]
      by_cases q:j<i
      ·simp [q,show j<i+1 by omega]
      ·simp [q,show ¬j<i+1 by omega]
set_option maxHeartbeats 2000000 in
theorem kroom_w (A B:Option Addr) (n C D:Nat) (X Y:Nat->Nat×Nat) (hn:n<=9223372036854775807) (w:World) (V:Ivs w A n X) (U:Ivs w B n Y) :
  Calls Tryz.prog 186 #[.slice A n C,.slice B n D] w fun e w'=>(∃b:Bool,e=.returned (.bool b))/\Below w.heap.size w w':=by
 go_enter Tryz.func186,Tryz.ntmps186
 go_wp2_with fail
 go_loopg [8] n (fun G s8 wx=>Below w.heap.size w wx/\∃i:Nat,i+G=n/\s8=.int .i64 (i:Int))
 case atStart=>exact⟨Below.refl _ _,0,by omega,rfl⟩
 case round =>
  obtain⟨HB,i,hi,rfl⟩:=hrel
  by_cases ci:i=n
  ·subst ci
   go_wp2_with fail
   go_ret
   exact⟨⟨true,rfl⟩,HB⟩
  ·have hlt:(i:Int)<(n:Int):=by omega
   obtain⟨b,o,hA,hb,x0,x1,l0,l1⟩:=(V.keep HB) i (by omega)
   obtain⟨b',o',hB,hb',y0,y1,m0,m1⟩:=(U.keep HB) i (by omega)
   have c:=fun w=>strict_w (X i).1 (X i).2 (Y i).1 (Y i).2 l0 l1 m0 m1 w
   generalize strictB (X i).1 (X i).2 (Y i).1 (Y i).2=v at c
   subst hA hB
   go_upto_region 4 with fail
   have k0:=fun q:Behind wr=>q.cell x0 hb
   have k1:=fun q:Behind wr=>q.cell x1 hb
   have k2:=fun q:Behind wr=>q.cell y0 hb'
   have k3:=fun q:Behind wr=>q.cell y1 hb'
   refine region_behind (by kernel_rfl) (by kernel_rfl) ?_
   repeat (go_big_quiet_step (first | (go_at_call 234;with_reducible refine Behind.call (c _))))
   refine wpQuiet_nil ?_
   rintro _ ⟨q,rfl⟩
   obtain⟨W,hb1⟩:=q
   dsimp only
   clear k0 k1 k2 k3 x0 x1 y0 y1 c
   replace HB:=later HB hb1
   clear hb1
   cases v
   ·go_wp2_with fail
    go_ret
    exact⟨⟨false,rfl⟩,HB⟩
   ·go_wp2_with fail
    go_roundg (n-i-1)
    case measure=>omega
    case rel=>exact⟨HB,i+1,by omega,by go_num⟩
theorem widP_ok (lo hi:Nat):widP lo hi<18446744073709551616/\nanB (widP lo hi)=false:=by
 unfold widP
 have A:=addF_facts (a:=hi) (b:=negB lo) 1
 split
 ·split
  ·exact⟨infI_lt 1,nan_inf 1⟩
  ·exact⟨A.2.2,A.1⟩
 ·exact⟨by omega,by decide⟩
theorem worth_some {b:Nat} (hb:b<18446744073709551616) (nb:nanB b=false):∃r,floatBits .mul .f64 4607173622706995200 b=some r:=by
 have fa:finB 4607173622706995200=true:=by decide
 cases fb:finB b
 ·have zb:isZ b=false:=by
   unfold finB at fb
   unfold isZ
   simp only [decide_eq_false_iff_not] at *
   omega
  exact⟨_,mul_bits (by omega) hb (by decide) nb (by decide) zb (by rw [fb,Bool.and_false])⟩
 ·obtain⟨e,he⟩:=read_fin (x:=4607173622706995200) (by omega) fa
  obtain⟨d,hd⟩:=read_fin hb fb
  exact⟨_,show ((Ieee.double.read 4607173622706995200).product (Ieee.double.read b)).map Ieee.double.write=_ by rw [he,hd];rfl⟩
set_option maxHeartbeats 2000000 in
theorem kworth_w (A B:Option Addr) (n C D:Nat) (X Y:Nat->Nat×Nat) (hn:n<=9223372036854775807) (w:World) (V:Ivs w A n X) (U:Ivs w B n Y) :
  Calls Tryz.prog 129 #[.slice A n C,.slice B n D] w fun e w'=>(∃b:Bool,e=.returned (.bool b))/\Below w.heap.size w w':=by
 go_enter Tryz.func129,Tryz.ntmps129
 go_wp2_with fail
 go_loopg [8] n (fun G s8 wx=>Below w.heap.size w wx/\∃i:Nat,i+G=n/\s8=.int .i64 (i:Int))
 case atStart=>exact⟨Below.refl _ _,0,by omega,rfl⟩
 case round =>
  obtain⟨HB,i,hi,rfl⟩:=hrel
  by_cases ci:i=n
  ·subst ci
   go_wp2_with fail
   go_ret
   exact⟨⟨false,rfl⟩,HB⟩
  ·have hlt:(i:Int)<(n:Int):=by omega
   obtain⟨b,o,hA,hb,x0,x1,l0,l1⟩:=(V.keep HB) i (by omega)
   obtain⟨b',o',hB,hb',y0,y1,m0,m1⟩:=(U.keep HB) i (by omega)
   have c1:=fun w=>Wid_w (X i).1 (X i).2 l0 l1 w
   have c2:=fun w=>Wid_w (Y i).1 (Y i).2 m0 m1 w
   have lx:=(widP_ok (X i).1 (X i).2).1
   obtain⟨ly,ny⟩:=widP_ok (Y i).1 (Y i).2
   generalize widP (X i).1 (X i).2=v1 at *
   generalize widP (Y i).1 (Y i).2=v2 at *
   obtain⟨r,hr⟩:=worth_some ly ny
   have hm:=fun (t:TypeId) (w:World)=>run_float_arith (P:=Tryz.prog) w .mul t .f64 4607173622706995200 v2 r hr
   have o:=o_lt lx (bits_lt hr)
   generalize ltB v1 r=q at o
   subst hA hB
   go_upto_region 4 with fail
   have k0:=fun q:Behind wr=>q.cell x0 hb
   have k1:=fun q:Behind wr=>q.cell x1 hb
   have k2:=fun q:Behind wr=>q.cell y0 hb'
   have k3:=fun q:Behind wr=>q.cell y1 hb'
   refine region_behind (by kernel_rfl) (by kernel_rfl) ?_
   repeat (go_big_quiet_step (first | (go_at_call 187;with_reducible refine Behind.call (c1 _)) | (go_at_call 187;with_reducible refine Behind.call (c2 _))))
   refine wpQuiet_nil ?_
   rintro _ ⟨qq,rfl⟩
   obtain⟨W,hb1⟩:=qq
   dsimp only
   clear k0 k1 k2 k3 x0 x1 y0 y1 c1 c2
   replace HB:=later HB hb1
   clear hb1
   cases q
   ·go_wp2_with fail
    go_roundg (n-i-1)
    case measure=>omega
    case rel=>exact⟨HB,i+1,by omega,by go_num⟩
   ·go_wp2_with fail
    go_ret
    exact⟨⟨true,rfl⟩,HB⟩
end Go.Proofs.YtopfabemfbdccaaGreat
