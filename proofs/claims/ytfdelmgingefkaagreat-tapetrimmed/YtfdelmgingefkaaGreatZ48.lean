/- Trimming: the program's needed. Trimming: a tape's three fields in a block; a map in a block. -/
import Derived.Test.YtfdelmgingefkaaGreatZ47
import Derived.Maps.Own
import Derived.Deep.AppendLies
import Derived.Deep.RegionHeld3
import Derived.Deep.RegionLaw
namespace Go.Proofs.YtfdelmgingefkaaGreat
open Go.ChangeShapes Go.WideShapes Go.ChangeAt Go.RowKit
theorem moved_w (o:Opw) (g n:Nat) (pl:Nat→Int) (hj:∀j,j<o.ar→0≤o.at j∧o.at j<(n:Int)) (w:World) (L:Cel w g n (fun i=>.int .i64 (pl i))) :
   Calls Tryz.prog 70 #[.slice (some ⟨g,0,none⟩) n n,o.val] w fun e w'=>e=.returned (movO pl o).val∧Below w.heap.size w w' :=
 moved_core o _ g n _ _ w (fun w2 q=>atOps_w o g n pl hj w2 (L.keep q)) rfl
set_option maxHeartbeats 2000000 in
theorem need_w (v:Int) (A:Option Addr) (n C:Nat) (D:Option Addr) (m E:Nat) (X:Nat→Opw) (Y:Nat→Int) (hn:n≤4000) (hm:m≤400)
   (hy:∀k,k<m→0≤Y k∧Y k<(n:Int)) (hx:∀i,i<n→∀j,j<(X i).ar→0≤(X i).at j∧(X i).at j<(n:Int)) (w:World) (VX:Ops w A n X) (VY:Ins w D m Y) :
   Calls Tryz.prog 69 #[tapeV v A n C D m E] w fun e w'=>∃g,w.heap.size≤g∧e=.returned (.slice (some ⟨g,0,none⟩) n n)∧Cel w' g n (fun i=>.bool (needF X n Y m i))∧Below w.heap.size w w':=by
 have HY:Hid (∀k,k<m→0≤Y k∧Y k<(n:Int)):=hy
 have HX:Hid (∀i,i<n→∀j,j<(X i).ar→0≤(X i).at j∧(X i).at j<(n:Int)):=hx
 clear hx hy
 unfold tapeV
 have e1:(w.alloc (Obj.cells #[.int .i64 v,.slice A n C,.slice D m E] 45)).cell? ⟨w.heap.size,1,none⟩=some (.slice A n C):=by go_simp
 have e2:(w.alloc (Obj.cells #[.int .i64 v,.slice A n C,.slice D m E] 45)).cell? ⟨w.heap.size,2,none⟩=some (.slice D m E):=by go_simp
 have es:w.heap.size<(w.alloc (Obj.cells #[.int .i64 v,.slice A n C,.slice D m E] 45)).heap.size:=by go_size
 have eb:Below w.heap.size w (w.alloc (Obj.cells #[.int .i64 v,.slice A n C,.slice D m E] 45)):=by go_grown
 go_enter Tryz.func69,Tryz.ntmps69
 go_wp2_with (at_make;refine wpList_makeB (by rfl) _ _ (by rfl) n (by rfl) (by rfl) (by omega) ?_;intro w3 I hb3 hS3
              replace e1:=keepsC hb3 e1 es
              replace e2:=keepsC hb3 e2 es
              replace eb:=later eb hb3
              simp only [World.size_alloc] at I hS3 es
              clear hb3)
 have hg:w.heap.size+1≠w.heap.size:=by omega
 obtain⟨g,hgg⟩:∃g,g=w.heap.size+1:=⟨_,rfl⟩
 rw [←hgg] at I hS3 hg ⊢
 have hg2:w.heap.size≤g:=by omega
 have hne:w.heap.size≠g:=fun e=>hg e.symm
 clear hgg es
 go_loopg [16] m (fun G s16 wx=>∃i:Nat,i+G=m∧s16=.int .i64 (i:Int)∧Below w.heap.size w wx∧wx.cell? ⟨w.heap.size,1,none⟩=some (.slice A n C)∧w.heap.size<wx.heap.size∧Cel wx g n (fun j=>.bool (outN Y i j)))
 case atStart=>exact⟨0,by omega,rfl,eb,e1,by omega,I⟩
 case round =>
   clear e1 e2 eb I hS3
   obtain⟨i,hi,rfl,HB,e1,es,I⟩:=hrel
   by_cases ci:i=m
   · subst ci
     clear VY HY
     go_wp2_with fail
     go_loopg [6] n (fun G s6 wx=>∃(d:Nat) (z:Int),d+G=n∧z=(n:Int)-1-(d:Int)∧s6=.int .i64 z∧Below w.heap.size w wx∧wx.cell? ⟨w.heap.size,1,none⟩=some (.slice A n C)∧w.heap.size<wx.heap.size∧Cel wx g n (fun j=>.bool (backN X n (outN Y i) d j)))
     case atStart=>exact⟨0,(n:Int)-1,by omega,by omega,by first | rfl | go_num,HB,e1,es,I⟩
     case round =>
       clear HB e1 es I
       obtain⟨d,z,hd,hz,rfl,HB,e1,es,I⟩:=hrel
       by_cases cd:d=n
       · have hz0:¬(0:Int)≤z:=by omega
         rw [cd] at I
         go_wp2_with fail
         go_ret
         exact⟨g,hg2,rfl,I,HB⟩
       · obtain⟨t,rfl⟩:∃t:Nat,z=(t:Int):=⟨z.toNat,by omega⟩
         have ht:t=n-1-d:=by omega
         have htn:(t:Int)<(n:Int):=by omega
         have hz0:(0:Int)≤(t:Int):=by omega
         obtain⟨c0, -⟩:=I.2 t (by omega)
         dsimp only at c0
         have gl:=I.1
         have hstep:Hid (backN X n (outN Y i) (d+1)=if backN X n (outN Y i) d t then opN (X t) (backN X n (outN Y i) d) (X t).ar else backN X n (outN Y i) d):=by rw [ht];exact Eq.refl _
         have HZ:Hid ((t:Int)=(n:Int)-1-(d:Int)):=hz
         clear ht hz
         have hcase:backN X n (outN Y i) d t=true∨backN X n (outN Y i) d t=false:=by cases backN X n (outN Y i) d t <;> simp
         rcases hcase with hq | hq
         · rw [hq] at c0
           have hst:Hid (backN X n (outN Y i) (d+1)=opN (X t) (backN X n (outN Y i) d) (X t).ar):=Eq.trans hstep (if_pos hq)
           obtain⟨b,o,hA,hb,x0,x1,x2,x3,x4,x5, -, -⟩:=(VX.keep HB) t (by omega)
           have co:=fun w=>operands_w (X t) w
           have hLe:(arI (X t).k).toNat=(X t).ar:=rfl
           rw [hLe] at co
           have hop:=HX t (by omega)
           unfold Opw.val at co
           subst hA
           clear hq hstep hLe
           have hL2:(X t).ar≤2:=by have:=ar_le (X t).k;unfold Opw.ar;omega
           have HO:Hid (∀j,j<(X t).ar→0≤(X t).at j∧(X t).at j<(n:Int)):=hop
           clear hop
           obtain⟨s0,hs0⟩:∃s0,s0=backN X n (outN Y i) d:=⟨_,rfl⟩
           rw [←hs0] at I hst
           clear hs0
           generalize hL:(X t).ar=L at *
           go_wp2_with (go_at_call 128;with_reducible refine (co _).mono ?_;rintro _ w4 ⟨⟨B,hB0,hB1,rfl,k0,k1⟩,hb4⟩;replace e1:=keepsC hb4 e1 es;replace es:=Nat.lt_of_lt_of_le es hb4.size;replace I:=I.keep hb4;replace HB:=later HB hb4)
           have gB:g≠B:=by have:=I.1;omega
           have kk:∀j,j<L→w4.cell? ⟨B,j,none⟩=some (.int .i64 ((X t).at j)):=by
             intro j hj
             have:j=0∨j=1:=by omega
             rcases this with rfl | rfl
             · exact k0
             · exact k1
           clear co hb4 k0 k1 x0 x1 x2 x3 x4 x5 c0
           go_loopg [44] L (fun G s44 wy=>∃j:Nat,j+G=L∧s44=.int .i64 (j:Int)∧Below w.heap.size w wy∧wy.cell? ⟨w.heap.size,1,none⟩=some (.slice (some ⟨b,o,none⟩) n C)∧w.heap.size<wy.heap.size∧Cel wy g n (fun q=>.bool (opN (X t) s0 j q))∧Hid (∀q,q<L→wy.cell? ⟨B,q,none⟩=some (.int .i64 ((X t).at q))))
           case atStart=>exact⟨0,by omega,rfl,HB,e1,es,I,kk⟩
           case round =>
             clear HB e1 es I kk hB1 hB0
             obtain⟨j,hj,rfl,HB,e1,es,I,kk⟩:=hrel
             by_cases cj:j=L
             · rw [cj] at I
               subst cj
               go_wp2_with fail
               go_roundg (n-d-1)
               case measure=>omega
               case rel=>exact⟨d+1,(t:Int)-1,by omega,by have hz:(t:Int)=(n:Int)-1-(d:Int):=HZ;omega,by first | rfl | go_num,HB,e1,es,by rw [show backN X n (outN Y i) (d+1)=_ from hst];exact I⟩
             · have hlt:(j:Int)<(L:Int):=by omega
               have kj:=kk j (by omega)
               obtain⟨y0,y1⟩:=HO j (by omega)
               obtain⟨c0,c1⟩:=I.2 ((X t).at j).toNat (by omega)
               have gl:=I.1
               have K2:Hid (∀q,q<L→wr.cell? ⟨B,q,none⟩=some (.int .i64 ((X t).at q))):=kk
               clear kk
               go_wp2_with fail
               go_roundg (L-j-1)
               case measure=>omega
               case rel =>
                 refine⟨j+1,by omega,by go_num,Below.setCell HB hg2 _, ?_, ?_, ?_, ?_⟩
                 · simp [World.cell?_setCell_far, *]
                 · simp only [World.size_setCell];exact es
                 · refine (I.set ((X t).at j).toNat (.bool true) (by omega)).congr fun q hq=>?_
                   show (if q=((X t).at j).toNat then Value.bool true else Value.bool (opN (X t) s0 j q))=Value.bool (setN (opN (X t) s0 j) ((X t).at j).toNat q)
                   unfold setN
                   split <;> rfl
                 · exact fun q hq=>(World.cell?_setCell_far _ _ _ _ gB).trans (K2 q hq)
         · rw [hq] at c0
           have hst:Hid (backN X n (outN Y i) (d+1)=backN X n (outN Y i) d):=Eq.trans hstep (if_neg (by rw [hq];simp))
           clear hq hstep
           go_wp2_with fail
           go_roundg (n-d-1)
           case measure=>omega
           case rel=>exact⟨d+1,(t:Int)-1,by omega,by have hz:(t:Int)=(n:Int)-1-(d:Int):=HZ;omega,by first | rfl | go_num,HB,e1,es,by rw [show backN X n (outN Y i) (d+1)=_ from hst];exact I⟩
   · have hlt:(i:Int)<(m:Int):=by omega
     obtain⟨b,o,hA,hb,x0⟩:=(VY.keep HB) i (by omega)
     obtain⟨y0,y1⟩:=HY i (by omega)
     obtain⟨c0,c1⟩:=I.2 (Y i).toNat (by omega)
     have gl:=I.1
     subst hA
     go_wp2_with fail
     go_roundg (m-i-1)
     case measure=>omega
     case rel =>
       refine⟨i+1,by omega,by go_num, ?_, ?_, ?_, ?_⟩
       · exact Below.setCell HB hg2 _
       · simp [World.cell?_setCell_far, *]
       · simp only [World.size_setCell];exact es
       · refine (I.set (Y i).toNat (.bool true) (by omega)).congr fun j hj=>?_
         show (if j=(Y i).toNat then Value.bool true else Value.bool (outN Y i j))=Value.bool (setN (outN Y i) (Y i).toNat j)
         unfold setN
         split <;> rfl
structure Tap3 (w:World) (b:Nat) (x y z:Value):Prop where
 c0:w.cell? ⟨b,0,none⟩=some x
 c1:w.cell? ⟨b,1,none⟩=some y
 c2:w.cell? ⟨b,2,none⟩=some z
 f0:w.frozen? ⟨b,0,none⟩=false
 f1:w.frozen? ⟨b,1,none⟩=false
 f2:w.frozen? ⟨b,2,none⟩=false
 lt:b<w.heap.size
theorem Tap3.keepB {B:Nat} {w w2:World} {b:Nat} {x y z:Value} (h:Tap3 w b x y z) (hb:Below B w w2) (hg:b<B) (hs:w.heap.size≤w2.heap.size):Tap3 w2 b x y z :=
 ⟨(hb.cell hg).trans h.c0,(hb.cell hg).trans h.c1,(hb.cell hg).trans h.c2,(hb.frozen hg).trans h.f0,(hb.frozen hg).trans h.f1,(hb.frozen hg).trans h.f2,Nat.lt_of_lt_of_le h.lt hs⟩
theorem Tap3.keep {w w2:World} {b:Nat} {x y z:Value} (h:Tap3 w b x y z) (hb:Below w.heap.size w w2):Tap3 w2 b x y z:=h.keepB hb h.lt hb.size
theorem tap3_new (w:World) (x y z:Value) (T:TypeId):Tap3 (w.alloc (.cells #[x,y,z] T)) w.heap.size x y z :=
 ⟨by go_simp,by go_simp,by go_simp,by go_simp,by go_simp,by go_simp,by go_size⟩
theorem Tap3.alloc {w:World} {b:Nat} {x y z:Value} (h:Tap3 w b x y z) (o:Obj):Tap3 (w.alloc o) b x y z:=h.keep (below_alloc (Below.refl _ _) o)
theorem Tap3.far {w:World} {b c k:Nat} {x y z:Value} (h:Tap3 w b x y z) (hne:c≠b) (v:Value):Tap3 (w.setCell ⟨c,k,none⟩ v) b x y z:=by
 have hne':b≠c:=fun e=>hne e.symm
 obtain⟨a0,a1,a2,b0,b1,b2,l⟩:=h
 exact⟨by simp [World.cell?_setCell_far, *],by simp [World.cell?_setCell_far, *],by simp [World.cell?_setCell_far, *],by go_simp,by go_simp,by go_simp,by simp only [World.size_setCell];exact l⟩
theorem Tap3.set1 {w:World} {b:Nat} {x y z:Value} (h:Tap3 w b x y z) (v:Value):Tap3 (w.setCell ⟨b,1,none⟩ v) b x v z:=by
 obtain⟨a0,a1,a2,b0,b1,b2,l⟩:=h
 exact⟨by go_simp,by go_simp,by go_simp,by go_simp,by go_simp,by go_simp,by simp only [World.size_setCell];exact l⟩
theorem Tap3.set2 {w:World} {b:Nat} {x y z:Value} (h:Tap3 w b x y z) (v:Value):Tap3 (w.setCell ⟨b,2,none⟩ v) b x y v:=by
 obtain⟨a0,a1,a2,b0,b1,b2,l⟩:=h
 exact⟨by go_simp,by go_simp,by go_simp,by go_simp,by go_simp,by go_simp,by simp only [World.size_setCell];exact l⟩
theorem putM_size (w:World) (r:Nat) (o:Obj):(putM w r o).heap.size=w.heap.size:=by simp [putM]
theorem putM_at {w:World} {r:Nat} {o:Obj} (h:r<w.heap.size):(putM w r o).heap[r]?=some o:=by simp [putM,h]
theorem putM_off {w:World} {r b:Nat} {o:Obj} (h:b≠r):(putM w r o).heap[b]?=w.heap[b]?:=by
 have:r≠b:=fun e=>h e.symm
 simp [putM,this]
theorem putM_cell {w:World} {r b i:Nat} {o:Obj} (h:b≠r):(putM w r o).cell? ⟨b,i,none⟩=w.cell? ⟨b,i,none⟩:=by
 unfold World.cell?
 simp only [putM_off h]
theorem putM_frozen {w:World} {r b i:Nat} {o:Obj} (h:b≠r):(putM w r o).frozen? ⟨b,i,none⟩=w.frozen? ⟨b,i,none⟩:=by
 unfold World.frozen?
 simp only [putM_off h]
theorem below_putM {B:Nat} {w0 w:World} (h:Below B w0 w) {r:Nat} (hr:B≤r) (o:Obj):Below B w0 (putM w r o) :=
 ⟨h.os,h.tape,h.output,by rw [putM_size];exact h.size,fun k hk=>(putM_off (by omega)).trans (h.block k hk)⟩
theorem Tap3.putM {w:World} {b r:Nat} {x y z:Value} (h:Tap3 w b x y z) (hne:b≠r) (o:Obj):Tap3 (putM w r o) b x y z :=
 ⟨(putM_cell hne).trans h.c0,(putM_cell hne).trans h.c1,(putM_cell hne).trans h.c2,(putM_frozen hne).trans h.f0,(putM_frozen hne).trans h.f1,(putM_frozen hne).trans h.f2,by rw [putM_size];exact h.lt⟩
theorem Cel.putM {w:World} {g n r:Nat} {f:Nat→Value} (h:Cel w g n f) (hne:g≠r) (o:Obj):Cel (putM w r o) g n f :=
 ⟨by rw [putM_size];exact h.1,fun i hi=>⟨(putM_cell hne).trans (h.2 i hi).1,(putM_frozen hne).trans (h.2 i hi).2⟩⟩
theorem Has6.putM {w:World} {b r:Nat} {x:Opw} (h:Has6 w b x) (hne:b≠r) (o:Obj):Has6 (putM w r o) b x :=
 ⟨(putM_cell hne).trans h.c0,(putM_cell hne).trans h.c1,(putM_cell hne).trans h.c2,(putM_cell hne).trans h.c3,(putM_cell hne).trans h.c4,(putM_cell hne).trans h.c5,(putM_frozen hne).trans h.f0,(putM_frozen hne).trans h.f1,(putM_frozen hne).trans h.f2,(putM_frozen hne).trans h.f3,(putM_frozen hne).trans h.f4,(putM_frozen hne).trans h.f5,by rw [putM_size];exact h.lt⟩
theorem own_put {B:Nat} {w:World} {e:TypeId} {sz:Nat} {v:Value} {n:Nat} {xs:List Value} (h:w.ownsRow B e sz v n xs) {r:Nat} (hr:r<B) (o:Obj):(putM w r o).ownsRow B e sz v n xs:=by
 refine⟨h.1, ?_⟩
 rcases h.2 with hn | ⟨g,cap,cur,hv,hb2,hg,rest⟩
 · exact .inl hn
 · exact .inr ⟨g,cap,cur,hv,hb2,by rw [putM_off (by omega)];exact hg,rest⟩
theorem own_set {B:Nat} {w:World} {e:TypeId} {sz:Nat} {v:Value} {n:Nat} {xs:List Value} (h:w.ownsRow B e sz v n xs) {r k:Nat} (hr:r<B) (u:Value):(w.setCell ⟨r,k,none⟩ u).ownsRow B e sz v n xs:=by
 refine⟨h.1, ?_⟩
 rcases h.2 with hn | ⟨g,cap,cur,hv,hb2,hg,rest⟩
 · exact .inl hn
 · refine .inr ⟨g,cap,cur,hv,hb2, ?_,rest⟩
   rw [←hg]
   exact Below.heap_setCell w ⟨r,k,none⟩ u g (by show g≠r;omega)
theorem wpList_mapNew {w:World} {ops:Array Oper} {rest:List Oper} {o:Oper} {a:Act} {Q:Exit→Act→World→Prop} (hg:o.guard=none) (m x v:Operand) (hop:o.op=Op.mapUpdate 78 m x v)
   (r:Nat) (hm:a.eval m=.map (some r)) (mv:Opw) (hx:a.eval x=.agg #[.int .i64 mv.k,.int .i64 mv.a,.int .i64 mv.b,.int .i64 mv.n,.float .f64 mv.lo,.float .f64 mv.hi]) (T:List Opw) (hv:a.eval v=.int .i64 (T.length:Int))
   (ok:mv.ok) (oks:∀t∈T,t.ok) (hn:T.findIdx? (eqO mv)=none) (hb:w.heap[r]?=some (.map (entO T) T.length))
   (h:wpList Tryz.prog ops Q rest (a.put o.dst undef) (putM w r (.map (entO (T++[mv])) (T.length+1)))):wpList Tryz.prog ops Q (o :: rest) a w:=by
 refine wpList_plain hg fun K' hK'=>?_
 have hrun:=put_op mv ok T oks hn r w hb
 unfold Opw.val at hrun
 unfold Oper.wp
 simp [execOp,hop,hm,hx,hv,hrun,Result.andThen]
 exact hK' _ _ h
theorem step_pushN {B g0:Nat} {w:World} {ops:Array Oper} {o:Oper} {a:Act} {K:Act→World→Prop} {Q:Exit→Act→World→Prop} {E:Prop} (hgd:o.guard=none) (s x:Operand)
   (ho:o.op=.call { callee:=.builtin .append,args:=#[s,x],argTypes:=#[43,43] }) (v:Value) (zs:List Int) (z:Int) (hs:a.eval s=v) (hx:a.eval x=.slice (some ⟨g0,0,none⟩) 1 1)
   (hc:w.cell? ⟨g0,0,none⟩=some (.int .i64 z)) (hown:OwnN B w v zs) (hl:zs.length≤2000000) (hB:B≤w.heap.size)
   (h:∀q c w',OwnN B w' (.slice q (zs.length+1) c) (zs++[z])→Below B w w'→w.heap.size≤w'.heap.size→K (a.put o.dst (.slice q (zs.length+1) c)) w') :
   if Region.wanted o (yielded ops a.tmps)=true then Oper.wp Tryz.prog o a w K Q else E:=by
 obtain⟨i0,hi,hz0,hz1,hz2⟩:=info_parts Tryz.infoInt
 refine step_append_lies w hgd s x 43 ho B 3 i0 (.int .i64 0) 1 8 Tryz.underlying43 hi hz0 hz1 hz2 rfl (by decide) v zs.length _ hs hown ⟨g0,0,none⟩ 1 1 [.int .i64 z] hx rfl ?_ ?_ (by omega) (by unfold maxLen;omega) (by omega) hB w.heap.size rfl ?_
 · intro j u hj
   match j,hj with
   | 0,hj=>simp at hj;subst hj;simpa [Addr.add] using hc
 · intro u hu
   simp at hu
   rw [hu]
   rfl
 · intro g cap w' h1 h2 _ _
   have lt:∀k,v.ownBlock=some k→B≤k:=fun k hk=>(World.ownsRow.lt hown k hk).1
   refine h _ _ w' ?_ ((Below.refl B w).grown h2 hB lt) h2.size
   unfold OwnN
   rw [List.length_append,List.map_append]
   exact h1
end Go.Proofs.YtfdelmgingefkaaGreat
